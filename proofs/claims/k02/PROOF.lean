import PyProof.Rows.All
import Wide.All
import OpenK.AllK
import Wide.FinOn
import HandS.ForMost
import HandS.Exc
import HandS.ExcInit
import HandS.ExcField
import HandS.ExcIs
import HandS.IsInst
import HandS.TryOnly
import KE.KExcIs
import PyProof.ReprRoads
import KE.KUnpackStar
import HandS.OwnEq
import PyProof.InstEq
import HandS.ClsMeth
import HandS.StrMore
import PyProof.Rows.SetFrom
import HandS.Strs
import HandS.SetFor
import HandS.More
import HandS.Star
import HandS.SuiteRaise
import HandS.RaiseFrom
import HandS.ExcInitHot
import HandS.WordsExc
import HandS.List
import HandS.Lambda
import HandS.Codes
import HandS.EndTab
import PyProof.CallFns
import HandS.FStr
import PySem.Challenge.RW_loopstow_k02_deeds_refused
import HandS.HotCalls
import HandS.RaiseMore
import HandS.Style
set_option Elab.async false
set_option linter.all false
set_option maxRecDepth 100000
set_option maxHeartbeats 4000000
/-! Rules of my own: an error that is caught under a name and kept in a local name behind the suite; what is asked of it there. -/
namespace NX
open PySem PySem.Spec PyProof.Rows L2
/-- the kept error at a: its class, its dict -/
def Kept (a : Addr) (cls : Value) (d : Option Addr) : HO := .ext fun h => ∃ o vs, h.get? a = some o ∧ o.cls = cls ∧ o.dict = d ∧ o.data = .fields vs
theorem kept_ne {a b : Addr} {cls : Value} {d : Option Addr} : Kept a cls d ≠ .own b := fun z => by
  unfold Kept at z
  cases z
theorem kept_ok {P : Program} {w : World} {H : Hp} {h : Heap} {a : Addr} {cls : Value} {d : Option Addr} {o : Obj} {vs : Array Value} (e : h.get? a = some o) (z : Zc cls d o) (f : o.data = .fields vs) : ObjOk P w H h a (Kept a cls d) :=
  ⟨⟨o, vs, e, z.1, z.2, f⟩, ⟨o, e⟩, fun h1 h2 ⟨o1, w1, e1, r1⟩ k => ⟨o1, w1, k _ e1, r1⟩⟩
section
variable {X : Cx} {pins : List (Addr × Obj)} {σ : L2.St} {H : Hp} {s : Shared}
/-- an object that nobody tracks, and that is none of the entry's, is tracked from now on -/
theorem adopt {a : Addr} {cls : Value} {d : Option Addr} {o : Obj} {vs : Array Value} (I : Inv X ((a, o) :: pins) σ H s) (z : Zc cls d o) (f : o.data = .fields vs) (new : X.s_0.heap.get? a = none) (np : ∀ p ∈ X.pn ++ pins, p.1 ≠ a) :
    Inv X pins σ (upd H a (Kept a cls d)) s := by
  obtain ⟨ga, na, nL, nF, nC⟩ := I.pin (a, o) (List.mem_append_right _ List.mem_cons_self)
  have ga : s.heap.get? a = some o := ga
  have na : H a = none := na
  have B := I.base
  have nb : ∀ {b u}, X.s_0.heap.get? b = some u → b ≠ a := fun {b u} e q => by rw [q, new] at e; cases e
  refine ⟨I.ok, I.os, I.bare, ⟨B.keep, B.slot, fun b u e n hx => ?_, B.there, fun b xs e => ?_, fun b u v e => ?_, fun b ps e => ?_⟩, I.loc, I.cell, ?_, fun x c e => ?_, fun p hp => ?_, ?_, I.len⟩
  · rw [upd_ne (nb e)]
    exact B.free b u e n hx
  · have q := B.tups b xs e
    rw [upd_ne (ne_of_none q na)]
    exact q
  · have q := B.frzs b u v e
    rw [upd_ne (ne_of_none q na)]
    exact q
  · obtain ⟨more, q⟩ := B.tbls b ps e
    exact ⟨more, by rw [upd_ne (ne_of_none q na)]; exact q⟩
  · rw [upd_ne (Ne.symm nL)]
    exact I.free
  · obtain ⟨v, oc, e1, e2⟩ := I.cell x c e
    have hne : c ≠ a := fun q => by
      rw [q, ga] at e1
      cases e1
      exact nC _ e2
    rw [upd_ne hne]
    exact I.freeC x c e
  · have hp' : p ∈ X.pn ++ (a, o) :: pins := by
      rcases List.mem_append.mp hp with q | q
      · exact List.mem_append_left _ q
      · exact List.mem_append_right _ (List.mem_cons_of_mem _ q)
    obtain ⟨e1, e2, e3⟩ := I.pin p hp'
    exact ⟨e1, by rw [upd_ne (np p hp)]; exact e2, e3⟩
  · intro b u e
    by_cases hb : b = a
    · rw [hb, upd_same] at e
      cases e
      rw [hb]
      exact kept_ok ga z f
    · rw [upd_ne hb] at e
      exact (I.hok b u e).stay (fun _ _ _ q => q) (fun c q => by rw [upd_ne (ne_of_none q na)]; exact q) fun c xs q => by rw [upd_ne (ne_of_none q na)]; exact q
/-- what «except x as n: suite» wishes of an error of the body, if the error is kept: slot i is n's, the suite's ends see the kept error -/
def wKeep (K : PySem.W.Frag) (c : Value) (i : Nat) (ts : Addr → Value → Option Addr → TS) (Wout : WX) (D : Ends) : WX := fun cls d σ H =>
  ∃ b, PySem.W.exmOne K cls c = some b ∧ (b = false → Wout cls d σ H) ∧
    (b = true → ∀ a, H a = none → ts a cls d ⟨fun σ' H' => D.nx (σ'.set i none) (upd H' a (Kept a cls d)), fun v H' => D.rt v (upd H' a (Kept a cls d)), fun σ' H' => D.bk (σ'.set i none) (upd H' a (Kept a cls d)), fun σ' H' => D.ct (σ'.set i none) (upd H' a (Kept a cls d))⟩ (σ.set i (some (.ref a))) H)
end
section
variable {X : Cx} {x n : Str} {c : Value} {i : Nat} {body suite : List Stmt} {b₀ : Stmt} {np p1 p2 : Pos} {tb : WX → TS} {ts : Addr → Value → Option Addr → TS} {Wout : WX}
theorem ps_try_keep (hs : X.stack = X.env :: X.outer) (hf : X.env.frame = some X.env.locals) (hN : X.N.Nodup) (hi : X.N[i]? = some n) (hln : X.env.kindOf n = some .local) (hex : X.ex = []) (hc : Names X x c) (tk : Takes X Wout)
    (hb : ∀ (W : WX) (pn : List (Addr × Obj)) (xe : Value → Shared → Prop), Takes (X.tr pn xe) W → PassesOwn (model X.prog X.w) X.A X.env xe → PSs (X.tr pn xe) body (tb W))
    (hsu : ∀ (a : Addr) (oe : Obj) (cls : Value) (d : Option Addr) (pn : List (Addr × Obj)), Zc cls d oe → (∃ vs, oe.data = .fields vs) → PSs (X.suite a ((a, oe) :: pn)) (b₀ :: suite) (ts a cls d)) :
    PS X (.Try body [.ExceptHandler (some (.Name x np)) (some n) (b₀ :: suite) p1] [] [] p2) (fun D σ H => tb (wKeep X.K c i ts Wout D) D σ H) := by
  refine ⟨fun pins s σ H D I h => ?_⟩
  have ok := I.ok
  have frames : X.A.frames = some (X.env :: X.outer) := by rw [ok.frames, hs]
  -- the wish of the body: what the clause does with an error
  have caught : ∀ (u : Value) (s' : Shared), XE (X.tr (X.pn ++ pins) (fun e s₁ => wpAny (model X.prog X.w) X.A (noteFrame e X.env) (fun _ s₂ => wpAny (model X.prog X.w) X.A (setFlight e none) (fun _ s₃ =>
      wpAny (model X.prog X.w) X.A (handleBy e X.env [.ExceptHandler (some (.Name x np)) (some n) (b₀ :: suite) p1]) (SP X pins D) X.xe s₃) X.xe s₂) X.xe s₁)) (wKeep X.K c i ts Wout D) u s' →
      wpAny (model X.prog X.w) X.A (noteFrame u X.env) (fun _ s₂ => wpAny (model X.prog X.w) X.A (setFlight u none) (fun _ s₃ =>
        wpAny (model X.prog X.w) X.A (handleBy u X.env [.ExceptHandler (some (.Name x np)) (some n) (b₀ :: suite) p1]) (SP X pins D) X.xe s₃) X.xe s₂) X.xe s' := by
    intro u s' xx
    obtain ⟨a, B, sI, pins', σ', H', cls, d, rfl, J', nb, up, sky, na, os, ag, b, hb1, hno, hyes⟩ := xx
    have J : Inv X pins σ' H' sI := J'.ofTry ok
    have sky' : Sky B (X.env :: X.outer) a (Zc cls d) X.env.locals s'.heap := by rw [← hs]; exact sky
    refine Sky.land Zc.steady frames hf sky' fun h3 fl3 up3 => ?_
    obtain ⟨oe3, vs3, he3, hz3, hd3⟩ := fl3.there
    have Ba : B.get? a = none := fl3.2.1
    have aFr : a ∉ frs (X.env :: X.outer) := fun hm => by
      obtain ⟨_, o', e', hnf⟩ := fl3.2.2.1.mem hm
      rw [he3] at e'
      cases e'
      exact hnf _ hd3
    have aS : a ∉ frs X.stack := by rw [hs]; exact aFr
    have aI : sI.heap.get? a = none := by
      cases e : sI.heap.get? a with
      | none => rfl
      | some o =>
        have q := nb a o e aS
        rw [Ba] at q
        cases q
    have a0 : X.s_0.heap.get? a = none := by
      cases e : X.s_0.heap.get? a with
      | none => rfl
      | some o =>
        obtain ⟨o', q⟩ := J.base.there a o e (by rw [hex]; simp)
        rw [aI] at q
        cases q
    have aL : a ≠ X.env.locals := fun z => aFr (List.mem_filterMap.mpr ⟨X.env, List.mem_cons_self, by rw [hf, z]⟩)
    have aF : a ∉ X.fs := fun hm => by
      obtain ⟨e, he, q⟩ := List.mem_filterMap.mp hm
      exact aFr (List.mem_filterMap.mpr ⟨e, List.mem_cons_of_mem _ he, q⟩)
    have aP : ∀ p ∈ X.pn ++ pins, p.1 ≠ a := fun p hp z => by
      have q := (J.pin p hp).1
      rw [z, aI] at q
      cases q
    have J3 : Inv X pins σ' H' { s' with heap := h3 } := J.landed nb fl3.1 (up.trans up3) os ag
    have S3 := J3.suite he3 hd3 na aL aF
    refine wpAny_handleBy_cons (codeAny_handlers_test ?_) (by intro q; cases q)
    have cl3 : PySem.W.Looks (model X.prog X.w) h3 (typeOf (.ref a)) cls := fun A Q E s k q => wpAny_typeOf_ref (k _ _ he3) (by rw [hz3.1]; exact q)
    have match_ := PySem.W.exm_one (M := model X.prog X.w) J3.kIn cl3 hb1
    have names : ∀ {Q : Value → Shared → Prop} {E : Value → Shared → Prop}, Q c { s' with heap := h3 } → wpAny (model X.prog X.w) (X.A.mark (some (.ref a))) (eval (.Name x np) X.env) Q E { s' with heap := h3 } := fun {Q E} q => by
      obtain ⟨hg, hdb, hm | ⟨hm, hv, hnn⟩⟩ := hc
      · exact ld_glob (X := X.suite a ((a, oe3) :: (X.pn ++ pins))) S3 hg hm q hdb
      · exact ld_blt (X := X.suite a ((a, oe3) :: (X.pn ++ pins))) S3 hg hm hv q hnn hdb
    refine names (match_.here ?_)
    cases b with
    | false =>
      show wpAny _ X.A (handleBy (.ref a) X.env []) _ _ _
      refine wpAny_handleBy_nil ?_
      obtain ⟨_, _, _, oe, vs, T, _, _, he, _, hd, h1, _⟩ := id fl3
      unfold PySem.passOn
      refine wpAny_bind (wpAny_field he hd h1 ?_)
      rw [if_neg (show ¬ ((Value.ref T == Value.none) = true) from by simp)]
      have out : wpAny (model X.prog X.w) X.A (setFlight (.ref a) X.env.frame) (fun _ s4 => wpAny (model X.prog X.w) X.A (throw (.ref a) : Sem Flow) (SP X pins D) X.xe s4) X.xe { s' with heap := h3 } := by
        rw [hf]
        refine HandSPX.setFlight_upZ fl3 fun h4 hh4 up4 => wpAny_throw (tk _ _ ?_)
        exact ⟨a, B, sI, pins, σ', H', cls, d, rfl, J, nb, (up.trans up3).trans up4, .inr (.inr (by rw [hs]; exact hh4)), na, os, ag, hno rfl⟩
      first
        | exact wpAny_bind (wpAny_pure (wpAny_bind out))
        | exact wpAny_bind out
    | true =>
      refine codeAny_handlers_suite_as ?_
      refine HandSPX.lands_againZ fl3 fun h4 fl4 up4 => ?_
      obtain ⟨oe4, vs4, he4, hz4, hd4⟩ := fl4.there
      have J4 : Inv X pins σ' H' { s' with heap := h4 } := J.landed nb fl4.1 ((up.trans up3).trans up4) os ag
      have S4 := J4.suite he4 hd4 na aL aF
      refine store_ok (X := X.suite a ((a, oe4) :: (X.pn ++ pins))) (v := .ref a) S4 hN hi (.inl hln) rfl (fun s5 S5 => ?_) (.inr hln)
      refine wpAny_mono ((hsu a oe4 cls d (X.pn ++ pins) hz4 ⟨_, hd4⟩).run [] s5 _ H' _ S5 (hyes rfl a na)) (fun f s6 hsp => ?_) (fun _ _ z => False.elim z)
      -- behind the suite: the name goes, the error is kept
      have last : ∀ {σ6 : L2.St} {H6 : Hp} {Q : Shared → Prop}, Inv (X.suite a ((a, oe4) :: (X.pn ++ pins))) [] σ6 H6 s6 → (∀ s7, Inv X pins (σ6.set i none) (upd H6 a (Kept a cls d)) s7 → Q s7) →
          wpAny (model X.prog X.w) X.A (do bindName X.env n .none; unbindBehindTheSuite X.env n p1) (fun _ s7 => Q s7) X.xe s6 := fun {σ6 H6 Q} S6 hq => by
        have W6 : Inv X ((a, oe4) :: pins) σ6 H6 s6 := ⟨ok, S6.os, S6.bare, S6.base, S6.loc, S6.cell, S6.free, S6.freeC, fun p hp => S6.pin p (by
          rw [List.append_nil]
          rcases List.mem_append.mp hp with q | q
          · exact List.mem_cons_of_mem _ (List.mem_append_left _ q)
          · rcases List.mem_cons.mp q with q | q
            · rw [q]
              exact List.mem_cons_self
            · exact List.mem_cons_of_mem _ (List.mem_append_right _ q)), S6.hok, S6.len⟩
        exact gone_ok W6 hN hi hln fun s7 J7 => hq s7 (adopt J7 hz4 hd4 a0 aP)
      cases f with
      | next =>
        obtain ⟨σ6, H6, S6, q6⟩ := hsp
        exact last S6 fun s7 J7 => ⟨_, _, J7, q6⟩
      | brk =>
        obtain ⟨σ6, H6, S6, q6⟩ := hsp
        exact last S6 fun s7 J7 => ⟨_, _, J7, q6⟩
      | cont =>
        obtain ⟨σ6, H6, S6, q6⟩ := hsp
        exact last S6 fun s7 J7 => ⟨_, _, J7, q6⟩
      | ret u =>
        obtain ⟨v6, σ6, H6, S6, r6, q6⟩ := hsp
        exact last S6 fun s7 J7 => ⟨_, _, _, J7, r6, q6⟩
  refine wpAny_Try_except (wpAny_mono ((hb _ _ _ (fun u s' xx => caught u s' xx) PassesOwn.looking).run [] s σ H D (I.toTry _) h) (fun f s1 hsp => ?_) (fun e s1 he => he))
  cases f with
  | next =>
    obtain ⟨σ', H', J', q⟩ := hsp
    exact wpAny_execs_nil ⟨σ', H', J'.ofTry ok, q⟩
  | brk =>
    obtain ⟨σ', H', J', q⟩ := hsp
    exact ⟨σ', H', J'.ofTry ok, q⟩
  | cont =>
    obtain ⟨σ', H', J', q⟩ := hsp
    exact ⟨σ', H', J'.ofTry ok, q⟩
  | ret u =>
    obtain ⟨v, σ', H', J', r, q⟩ := hsp
    exact ⟨v, σ', H', J'.ofTry ok, r, q⟩
end
/-- isinstance(e, c) of a kept error -/
def rIsKept (K : PySem.W.Frag) : List V → Hp → VK → Prop := fun xs H Q => ∃ (a D : Addr) (d : Addr) (fs : List (Str × V)) (c : V) (u : Value) (b : Bool), xs = [.ref a, c] ∧ ClsV c u ∧ H a = some (Kept a (.ref D) (some d)) ∧ H d = some (.xd fs) ∧ ExcC K D ∧ PySem.W.kitOne K (.ref D) u = some b ∧ Q (.bl b) H
section
variable {X : Cx} {e : Expr} {te : TE} {pos : Pos} {n : Str} {C : Addr}
theorem inst_kept {pins : List (Addr × Obj)} {σ : L2.St} {H : Hp} {s : Shared} {a D d : Addr} {fs : List (Str × V)} (I : Inv X pins σ H s) (ha : H a = some (Kept a (.ref D) (some d))) (hd : H d = some (.xd fs)) :
    ∃ o od, PySem.W.InstAt s.heap a o D (some od) ∧ s.heap.get? d = some od ∧ ∃ mA, s.heap.Ns1 d mA ∧ (∀ f, RelO (fs.lookup f) (mA f)) := by
  have x : ObjOk X.prog X.w H s.heap a (.ext fun h => ∃ o vs, h.get? a = some o ∧ o.cls = .ref D ∧ o.dict = some d ∧ o.data = .fields vs) := I.hok a _ ha
  obtain ⟨⟨o, vs, e1, e2, e3, e4⟩, _, _⟩ := x
  obtain ⟨mA, hns, hr⟩ := (show ObjOk X.prog X.w H s.heap d (.xd fs) from I.hok d _ hd)
  obtain ⟨od, ho, _⟩ := lookIn_ns hns
  exact ⟨o, od, ⟨e1, e2, by unfold PySem.W.notCls; rw [e4] <;> rfl, by rw [e3]; exact ho⟩, ho, mA, hns, hr⟩
theorem call_isKept : CallR X (.builtin "isinstance") (rIsKept X.K) := by
  intro pins s σ H xs us Q I r h
  obtain ⟨a, D, d, fs, c, u, b, rfl, hc, ha, hd, E, k, q⟩ := h
  obtain ⟨u1, u2, rfl, r1, r2⟩ := vals2 r
  have e2 := hc.eq r2
  subst e2
  obtain rfl : u1 = Value.ref a := r1
  obtain ⟨o, od, J, _⟩ := inst_kept I ha hd
  have hcl : (PySem.W.clsIn X.K D).isSome = true := by
    have z := E.hd
    unfold PySem.W.hasDictIn at z
    cases q : PySem.W.clsIn X.K D with
    | some cd => rfl
    | none => rw [q] at z; cases z
  exact PySem.W.kia_one (PySem.W.kitx_exc hcl E.hg E.hk E.hs E.ha E.hn E.ht E.hm) I.kIn J k (fun z => nomatch z) fun tk => ⟨.bl b, H, I.tok tk, rfl, q⟩
/-- e.n of a kept error -/
def tKept (K : PySem.W.Frag) (n : Str) (te : TE) : TE := fun σ H Q => te σ H fun x H1 => ∃ (a D d : Addr) (fs : List (Str × V)) (v : V), x = .ref a ∧ H1 a = some (Kept a (.ref D) (some d)) ∧ H1 d = some (.xd fs) ∧ XfC K D ∧ PySem.W.findIn K (.ref D) n = some none ∧ fs.lookup n = some v ∧ Q v H1
theorem pe_kept (he : PE X e te) (hb : attributeBase e n X.env (eval e X.env) = eval e X.env := by rfl) : PE X (.Attribute e n pos) (tKept X.K n te) := by
  refine ⟨fun pins s σ H Q I h => attr_of hb (thn (he.run pins s σ H _ I h) fun u s1 ⟨x, H1, I1, rx, a, D, d, fs, v, ex, ha, hd, T, hno, l, q⟩ => ?_)⟩
  subst ex
  obtain rfl : u = Value.ref a := rx
  obtain ⟨o, od, J, ho, mA, hns, hr⟩ := inst_kept I1 ha hd
  obtain ⟨od', ho', hl⟩ := lookIn_ns hns
  rw [ho] at ho'
  cases ho'
  obtain ⟨y, hy, ry⟩ := RelO.some_of (v := v) (o := mA n) (by rw [← l]; exact hr n)
  exact HandSPX.exc_get I1.kIn J T.ga T.gg T.exC (PySem.W.findObj_own T.hdC hno rfl (by rw [hl, hy])) (handed_of ry) ⟨v, H1, I1.tok _, ry, q⟩
end
end NX

set_option Elab.async false
set_option linter.all false
set_option maxRecDepth 100000
set_option maxHeartbeats 4000000
/-! Rules of my own: the text that repr tells of made data, dicts in it too. -/
namespace NX
open PySem PySem.Spec PyProof.Rows L2
def keyD : Key → PyData
  | .inl i => .int i
  | .inr x => .str x
mutual
inductive Dr (K : PySem.W.Frag) (H : Hp) : V → PyData → Prop
  | non : Dr K H .non .none
  | bl (b : Bool) : Dr K H (.bl b) (.bool b)
  | int (i : Int) : Dr K H (.int i) (.int i)
  | str (x : Str) : Dr K H (.str x) (.str x)
  | lst {a : Addr} {xs : List V} {ds : List PyData} : SqL K H a xs → DrAll K H xs ds → Dr K H (.ref a) (.list ds)
  | tup {a : Addr} {xs : List V} {ds : List PyData} : SqT K H a xs → DrAll K H xs ds → Dr K H (.ref a) (.tuple ds)
  | dct {a : Addr} {kvs : List (Key × V)} {ds : List PyData} : H a = some (.dK kvs) → DrAll K H (kvs.map (·.2)) ds → Dr K H (.ref a) (.dict ((kvs.map fun p => keyD p.1).zip ds))
inductive DrAll (K : PySem.W.Frag) (H : Hp) : List V → List PyData → Prop
  | nil : DrAll K H [] []
  | cons {v : V} {vs : List V} {d : PyData} {ds : List PyData} : Dr K H v d → DrAll K H vs ds → DrAll K H (v :: vs) (d :: ds)
end
theorem DrAll.length {K : PySem.W.Frag} {H : Hp} : ∀ {vs : List V} {ds : List PyData}, DrAll K H vs ds → vs.length = ds.length
  | _, _, .nil => rfl
  | _, _, .cons _ t => congrArg (· + 1) t.length
/-- a dict stands at the place of the loaded modules -/
def SysB (h : Heap) : Prop := ∃ (o : Obj) (es : Array DictEntry) (ep : Nat), h.get? sysModules = some o ∧ o.data = .dict es ep
section
variable {X : Cx} {pins : List (Addr × Obj)} {σ : L2.St} {H : Hp} {s : Shared}
theorem key_reads {h : Heap} : ∀ {k : Key} {v : Value}, keyIs k v = true → Reads h v (keyD k) [] := fun {k v} e => by
  rcases keyIs_shape e with ⟨i, t, rfl, rfl⟩ | ⟨x, t, rfl, rfl⟩
  · exact Reads.int i t
  · exact Reads.str x t
theorem keys_read {h : Heap} {P : Program} {w : World} : ∀ {es : List DictEntry} {vs : List (Key × Value)}, Pairs (mixKind P w) es vs → ∃ as, ReadsAll h (es.map (·.key)) (vs.map fun p => keyD p.1) as ∧ as = [] ∧ es.map (·.val) = vs.map (·.2)
  | _, _, .nil => ⟨_, ReadsAll.nil, rfl, rfl⟩
  | _, _, .cons h1 h2 t => by
    obtain ⟨as, q, rfl, e⟩ := keys_read t
    exact ⟨_, ReadsAll.cons (key_reads h1) q, rfl, by rw [List.map_cons, List.map_cons, e, h2]⟩
theorem kv_vals : ∀ {ks : List (Key × V)} {vs : List (Key × Value)}, KV ks vs → Vals (ks.map (·.2)) (vs.map (·.2)) ∧ vs.map (fun p => keyD p.1) = ks.map (fun p => keyD p.1)
  | _, _, .nil => ⟨.nil, rfl⟩
  | _, _, .cons h t => by
    obtain ⟨q, e⟩ := kv_vals t
    exact ⟨.cons h.2 q, by rw [List.map_cons, List.map_cons, e, h.1]⟩
theorem zip_fst {α β : Type} : ∀ {l : List α} {m : List β}, l.length = m.length → (l.zip m).map (·.1) = l
  | [], [], _ => rfl
  | a :: l, b :: m, h => by rw [List.zip_cons_cons, List.map_cons, zip_fst (Nat.succ.inj h)]
theorem zip_snd {α β : Type} : ∀ {l : List α} {m : List β}, l.length = m.length → (l.zip m).map (·.2) = m
  | [], [], _ => rfl
  | a :: l, b :: m, h => by rw [List.zip_cons_cons, List.map_cons, zip_snd (Nat.succ.inj h)]
mutual
theorem Dr.reads (I : Inv X pins σ H s) (S : SysB X.base) : ∀ {v : V} {d : PyData}, Dr X.K H v d → ∀ (u : Value), RelV v u → ∃ as, Reads s.heap u d as ∧ sysModules ∉ as
  | _, _, .non, _, r => by
    cases r
    exact ⟨_, Reads.none, by simp⟩
  | _, _, .bl b, _, r => by
    cases r
    exact ⟨_, Reads.bool b, by simp⟩
  | _, _, .int i, _, r => by
    obtain ⟨t, rfl⟩ := r
    exact ⟨_, Reads.int i t, by simp⟩
  | _, _, .str x, _, r => by
    obtain ⟨t, rfl⟩ := r
    exact ⟨_, Reads.str x t, by simp⟩
  | _, _, .lst hs ha, _, r => by
    cases r
    obtain ⟨its, rv, ⟨o, n, ho, hc, _, hd⟩, _⟩ := I.list hs
    obtain ⟨as, hr, hn⟩ := DrAll.reads I S ha its rv
    refine ⟨_, Reads.list ho hc hd hr, fun hm => ?_⟩
    rcases List.mem_cons.mp hm with e | e
    · obtain ⟨o2, es2, ep2, k2, c2⟩ := S
      have q := (I.bs _ _ k2).1
      rw [e, ho] at q
      have q2 := Option.some.inj q
      rw [← q2, hd] at c2
      cases c2
    · exact hn e
  | _, _, .tup hs ha, _, r => by
    cases r
    obtain ⟨its, rv, ⟨o, ho, hc, n, hd⟩, _⟩ := I.tuple hs
    obtain ⟨as, hr, hn⟩ := DrAll.reads I S ha its rv
    exact ⟨_, Reads.tuple ho hc hd hr, hn⟩
  | _, _, @Dr.dct _ _ a kvs ds hs ha, _, r => by
    cases r
    obtain ⟨_, lo, vs, kv, o, es, ep, ho, hex, hd, _, hp, _⟩ := (show ObjOk X.prog X.w H s.heap a (.dK kvs) from I.hok a _ hs)
    obtain ⟨rv, ek⟩ := kv_vals kv
    obtain ⟨as, hr, hn⟩ := DrAll.reads I S ha _ rv
    obtain ⟨bs, hk, rfl, ev⟩ := keys_read (h := s.heap) hp
    have el : (kvs.map fun p => keyD p.1).length = ds.length := by
      rw [List.length_map, ← ha.length, List.length_map]
    refine ⟨_, Reads.dict ho hex.1 hd (as := []) (bs := as) (by rw [zip_fst el, ← ek]; exact hk) (by rw [zip_snd el, ev]; exact hr), fun hm => ?_⟩
    rcases List.mem_append.mp hm with e | e
    · rcases List.mem_cons.mp e with e | e
      · rw [← e] at lo
        simp at lo
      · simp at e
    · exact hn e
theorem DrAll.reads (I : Inv X pins σ H s) (S : SysB X.base) : ∀ {vs : List V} {ds : List PyData}, DrAll X.K H vs ds → ∀ (us : List Value), Vals vs us → ∃ as, ReadsAll s.heap us ds as ∧ sysModules ∉ as
  | _, _, .nil, _, r => by
    cases r
    exact ⟨_, ReadsAll.nil, by simp⟩
  | _, _, .cons h1 h2, _, r => by
    cases r with
    | cons r1 r2 =>
      obtain ⟨as, q1, n1⟩ := Dr.reads I S h1 _ r1
      obtain ⟨bs, q2, n2⟩ := DrAll.reads I S h2 _ r2
      exact ⟨_, ReadsAll.cons q1 q2, fun hm => (List.mem_append.mp hm).elim n1 n2⟩
end
/-- repr(x), x a list, a tuple or a dict -/
def rRepr (K : PySem.W.Frag) : List V → Hp → VK → Prop := fun xs H Q => ∃ (a : Addr) (d : PyData), xs = [.ref a] ∧ Dr K H (.ref a) d ∧ d.showable = true ∧ d.depth ≤ 50 ∧ d.shown.length ≤ sizeLine ∧ Q (.str d.shown) H
theorem call_repr (hg : X.A.guards = some []) (hu : X.A.units + 64 < cLine) (S : SysB X.base) : CallR X (.builtin "repr") (rRepr X.K) := by
  intro pins s σ H xs us Q I r h
  obtain ⟨a, d, rfl, hd, hs, hdp, hl, q⟩ := h
  cases r with
  | cons r1 r2 =>
    cases r2
    cases r1
    obtain ⟨as, hr, hn⟩ := Dr.reads I S hd _ rfl
    refine PySem.repr_of_reads' hr hs (fun _ => hn) hg (by omega) (fun _ _ e => e) (fun h' u tk k => ?_) hl
    exact ⟨.str d.shown, H, I.kept k, ⟨u, rfl⟩, q⟩
end
end NX

set_option Elab.async false
set_option linter.all false
set_option maxRecDepth 100000
set_option maxHeartbeats 4000000
/-! A rule of my own: «a, *b = xs», xs a list. -/
namespace NX
open PySem PySem.Spec PyProof.Rows L2
def gStar (K : PySem.W.Frag) (t : TGs) : TG := fun v σ H Q => ∃ (a : Addr) (x : V) (rest : List V), v = .ref a ∧ SqL K H a (x :: rest) ∧ rest.length < 16384 ∧ ∀ D, H D = none → t [x, .ref D] σ (upd H D (.lst rest)) Q
section
variable {X : Cx} {e1 e2 : Expr} {k : Nat} {pos sp : Pos} {t : TGs}
theorem pg_star (hc : X.calm = true) (h : PGs X [e1, e2] t) (hm : (assignEach [e1, .Starred e2 sp] X.env).map (·.2) = (assignEach [e1, e2] X.env).map (·.2) := by rfl) (hl : (assignEach [e1, .Starred e2 sp] X.env).length = 2 := by rfl)
    (hi : (assignEach [e1, .Starred e2 sp] X.env).findIdx? (·.1) = some 1 := by rfl) : PG X (.Tuple [e1, .Starred e2 sp] k pos) (gStar X.K t) := by
  refine ⟨fun pins s σ H v u Q I r hw => ?_⟩
  obtain ⟨a, x, rest, rfl, hq, hz, hw⟩ := hw
  cases r
  obtain ⟨its, rv, pl, _⟩ := I.list hq
  cases rv with
  | @cons _ u1 _ us ra rr =>
    have hlen : rest.length = us.length := Paired.length rr
    have ll := pl.isList
    have hlt : a ≠ s.heap.objs.size := by
      obtain ⟨o, ho, _⟩ := id ll
      exact Nat.ne_of_lt (Heap.lt_size ho)
    rw [PyProof.Rows.assign_Tuple]
    refine wpAny_bind (wpAny_standAt ?_)
    unfold unpack
    rw [hl, hi, hm]
    -- one is drawn, the others are collected, a new list is made of them
    have items : ∀ {R : List Value → Shared → Prop}, (∀ (h2 : Heap) tk, (∀ b o, s.heap.get? b = some o → h2.get? b = some o) → R [u1, .ref h2.objs.size] { s with heap := h2.push { cls := .type "list", data := .seq us.toArray }, toks := tk }) →
        wpAny (model X.prog X.w) X.A (unpackItems (.ref a) 2 (some 1)) R X.xe s := fun {R} hR => by
      unfold unpackItems
      refine wpAny_bind ?_
      unfold notIterableAtAll
      refine wpAny_bind (wpAny_specialOf ll.typeIs slot_list_iter.lookup (wpAny_pure ?_))
      simp only [Bool.false_eq_true, if_false]
      refine wpAny_bind (wpAny_holding (wpAny_pyIter_list ll ?_))
      refine wpAny_bind (wpAny_holding (PySem.W.kun_draw hlt 1 0 _ _ ⟨_, Heap.get?_push_size _ rfl, rfl, rfl⟩ (ll.push _) (by simp) fun h1 it1 sb1 => ?_))
      have l1 : h1.IsList a (u1 :: us).toArray := (ll.push _).extBut sb1.extBut hlt
      obtain ⟨oi, hoi, _⟩ := id it1
      obtain ⟨ol, hol, _⟩ := id l1
      have k1 : ∀ b o, s.heap.get? b = some o → h1.get? b = some o := fun b o e => sb1.extBut b o (Nat.ne_of_lt (Heap.lt_size e)) (Heap.get?_push_of_some _ e)
      show wpAny _ _ (if [u1].length < 1 then _ else _) _ _ _
      rw [if_neg (by simp)]
      refine wpAny_bind (wpAny_holding (PySem.W.kun_collect (s := { s with heap := h1 }) (T := "list_iterator") (.inr (.inr (.inl rfl))) (Walks.list (A := X.A.in1) (I.ok.hd hc) s.heap.objs.size a hlt (u1 :: us).toArray) (fun j u st => st.1.typeIs) (k := 1) (by simp) ⟨it1, l1⟩ (Heap.lt_size hoi) (Heap.lt_size hol) (fun h2 tk k2 => ?_) (by rw [sizeLine_eq]; simp; omega)))
      have e0 : (u1 :: us).toArray.toList.drop 1 = us := by simp
      rw [e0]
      show wpAny _ _ (if us.length < 2 - 1 - 1 then _ else _) _ _ _
      rw [if_neg (by omega)]
      have e1 : us.take (us.length - (2 - 1 - 1)) = us := by simp
      have e2 : us.drop (us.length - (2 - 1 - 1)) = [] := by simp
      have K2 : ∀ b o, s.heap.get? b = some o → h2.get? b = some o := fun b o e => k2 b o (Nat.ne_of_lt (Heap.lt_size e)) (k1 b o e)
      refine wpAny_bind (wpAny_newList (s := { s with heap := h2, toks := tk }) (wpAny_pure ?_) (by rw [e1, sizeLine_eq]; omega))
      have q := hR h2 tk K2
      rw [e1, e2]
      exact q
    refine wpAny_bind (wpAny_holding (items fun h2 tk kp => ?_))
    have I2 : Inv X pins σ H { s with heap := h2, toks := tk } := I.kept kp
    have hn : H h2.objs.size = none := I2.hok.fresh (Nat.le_refl _)
    have J : Inv X pins σ (upd H h2.objs.size (.lst rest)) { s with heap := h2.push { cls := .type "list", data := .seq us.toArray }, toks := tk } :=
      I2.laid (t' := tk) (h' := h2.push { cls := .type "list", data := .seq us.toArray }) (fun b o e => Heap.get?_push_of_some _ e) (Nat.le_refl _) ⟨by rw [sizeLine_eq]; omega, us, 0, rr, Heap.get?_push_size _ rfl⟩
    exact h.run pins _ σ _ [x, .ref h2.objs.size] [u1, .ref h2.objs.size] Q J (.cons ra (.cons rfl .nil)) (hw _ hn)
end
end NX

set_option Elab.async false
set_option linter.all false
set_option maxRecDepth 100000
set_option maxHeartbeats 4000000
/-! Rules of my own: == and != of an object whose class has an own equality; any answer, any other side. -/
namespace NX
open PySem PySem.Spec PyProof.Rows L2
/-- what the class at C says of == and != -/
structure EqC (K : PySem.W.Frag) (C f : Addr) : Prop where
  cl : Cls K C
  eq : PySem.W.findIn K (.ref C) "__eq__" = some (some (.ref f))
  ne : PySem.W.findIn K (.ref C) "__ne__" = some (some (.builtin "object.__ne__"))
  fn : PySem.W.isFn K (.ref f) = true
  ob : PySem.W.mroIn K C (.type "object") = some true
section
variable {X : Cx} {n : Nat} {f : Addr} {fd : FuncData} {ps : List Str} {sp : Sp} {CX : CXT} {E : XK}
/-- the own equality is called by the machine -/
theorem run_own (F : FnOk X.prog X.w X.K X.mg X.base CX n f fd ps sp) (hb : Binds X.K fd ps []) (hx : Passes CX X E) {A : Around} {pins : List (Addr × Obj)} {σ : L2.St} {H : Hp} {s : Shared} {x y : V} {u v : Value} {Q : VK}
    (sb : Sub X n A) (I : Inv X pins σ H s) (rx : RelV x u) (ry : RelV y v) (q : sp [x, y] H Q E) : wpAny (model X.prog X.w) A (call (.ref f) [u, v]) (EP X pins σ Q) X.xe s := by
  have e := I.env0
  have e0 : Env0 X.prog X.w X.K X.mg X.base A X.stack s H := ⟨by rw [sb.fr]; exact e.frames, e.mod, e.bs, e.bsz, e.funs, e.frf, e.hok, e.bare⟩
  have hl : [u, v].length = ps.length := (F.len _ _ _ _ q)
  have r2 : Vals [x, y] [u, v] := .cons rx (.cons ry .nil)
  refine wpAny_call (codeAny_mono (F.run A X.stack s H ⟨[u, v], []⟩ [u, v] [x, y] Q E sb.room e0 (by
    have z := hb s [u, v] I.kIn (by simpa using hl)
    simpa using z) r2 q) fun r s' hq => ?_)
  cases r with
  | error er => exact hx pins σ H s er s' I hq
  | ok fl =>
    cases fl with
    | ret w => exact I.after hq
    | next => exact False.elim hq
    | brk => exact False.elim hq
    | cont => exact False.elim hq
def rOwn (K : PySem.W.Frag) (f : Addr) (sp : Sp) (E : XK) (neg : Bool) : R2 := fun x y H Q => ∃ (a C dx : Addr) (fs : List (Str × V)) (tb : Value), x = .ref a ∧ H a = some (.ins C dx fs) ∧ EqC K C f ∧ PySem.W.notFirst K C tb = true ∧ TyX K H y tb ∧
  sp [x, y] H (fun v H' => ∃ b, v = .bl b ∧ Q (.bl (if neg then !b else b)) H') E
theorem op_eqOwn (F : FnOk X.prog X.w X.K X.mg X.base CX n f fd ps sp) (hb : Binds X.K fd ps []) (hx : Passes CX X E) (hr : Room n X.A) : OpR X (compareOp .Eq) (rOwn X.K f sp E false) := by
  intro pins s σ H x y u v Q I rx ry h
  obtain ⟨a, C, dx, fs, tb, rfl, ha, T, nf, ty, q⟩ := h
  obtain rfl : u = Value.ref a := rx
  obtain ⟨mA, O, _⟩ := ins_get I.hok ha
  obtain ⟨od, J, _⟩ := O.look
  obtain ⟨m, fr⟩ := I.fr
  obtain ⟨P, Z, p, _⟩ := kit_of I ry ty
  show wpAny (model X.prog X.w) X.A (richCompare .Eq (.ref a) v) (EP X pins σ Q) X.xe s
  refine PySem.W.cmp_K (op := .Eq) (tb := tb) hr.units0 fr I.ok.mod.kin J (Z.ty _ _ I.kIn p) nf T.eq T.fn ?_
  refine wpAny_mono (run_own (x := .ref a) F hb hx ⟨hr, rfl⟩ I rfl ry q) (fun r s' hq => ?_) fun _ _ z => z
  obtain ⟨w, H', I', rw', b, rfl, q'⟩ := hq
  obtain rfl : r = Value.bool b := rw'
  exact ⟨.bl b, H', I', rfl, q'⟩
end
end NX
namespace NX
open PySem PySem.W PyProof.Rows Builtin
section
variable {prog : Program} {w : World} {A : Around} {E : Value → Shared → Prop} {s : Shared} {K : Frag} {x C f : Addr} {ox : Obj} {od : Option Obj} {b tb : Value}
/-- object.__ne__ found by the class is bound and called -/
theorem bound_ne {M : Model} {args : List Value} {Q : Option Value → Shared → Prop} (X : K.In s.heap) (I : InstAt s.heap x ox C od) (hs : findIn K (.ref C) "__ne__" = some (some (.builtin "object.__ne__")))
    (h : wpAny M A (call (.builtin "object.__ne__") (.ref x :: args)) (fun v => Q (some v)) E s) : wpAny M A (callSpecialIfBound? (.ref x) "__ne__" args) Q E s := by
  simp only [callSpecialIfBound?, bindSpecialIfBound?]
  refine wpAny_holding (wpAny_bind (wpAny_bind (wpAny_bind (I.type.here ((looks_findIn X hs).here ?_)))))
  simp only [F.cmp_object.ne.bind]
  have last : wpAny M A (call (.builtin "object.__ne__") ([.ref x] ++ args) >>= fun v => pure (some v)) Q E s := wpAny_bind (wpAny_mono h (fun v s' q => wpAny_pure q) fun _ _ q => q)
  refine wpAny_bind (wpAny_askSetting (wpAny_ite ?_))
  split
  · exact wpAny_bind (wpAny_pure (wpAny_pure last))
  · exact wpAny_tryCatch (wpAny_bind (wpAny_pure (wpAny_pure last)))
/-- .. and asks the own equality, whose answer it turns -/
theorem call_ne {Q : Value → Shared → Prop} (hu : A.units + 1 < cLine) (X : K.In s.heap) (I : InstAt s.heap x ox C od) (he : findIn K (.ref C) "__eq__" = some (some (.ref f))) (hf : isFn K (.ref f) = true) (ho : mroIn K C (.type "object") = some true)
    (h : wpAny (model prog w) A.in1 (call (.ref f) [.ref x, b]) (fun v s' => ∃ k, v = .bool k ∧ Q (.bool (!k)) s') E s) : wpAny (model prog w) A (call (.builtin "object.__ne__") [.ref x, b]) Q E s := by
  obtain ⟨hp, g, d, t, os⟩ := s
  have sub : Looks (model prog w) hp (isInstance (.ref x) (.type "object")) true := I.type.andThen (looks_mroIn X ho)
  refine wpAny_call (codeAny_call_builtin F.cmp_object.ne.plain F.cmpEntry_ne (@check_slot (model prog w) _ _ ⟨hp, g, d, t, os⟩ "object.__ne__" "object" "__ne__" (.ref x) [b] [] _ F.cmpKind_ne F.cmpSplit_ne sub (F.cmpArgs_ne _ _) ?_))
  unfold Builtin.«object.__ne__»
  repeat (first
    | with_reducible refine wpAny_cRoomFor (show A.in1.units < cLine from hu) ?_
    | (refine wpAny_bind (m := callSpecialIfBound? (.ref x) (Str.ofString "__eq__") [b]) (ifBound_K X I he hf (wpAny_mono h (fun r s' hr => ?_) fun _ _ e => e)))
    | wp_step)
  obtain ⟨k, rfl, q⟩ := hr
  exact wpAny_bind (wpAny_truthy_bool (wpAny_pure q))
/-- x != b -/
theorem rich_ne {Q : Value → Shared → Prop} (hu : A.units + 1 < cLine) (X : K.In s.heap) (I : InstAt s.heap x ox C od) (hb : Looks (model prog w) s.heap (typeOf b) tb) (hn : notFirst K C tb = true) (hs : findIn K (.ref C) "__ne__" = some (some (.builtin "object.__ne__")))
    (he : findIn K (.ref C) "__eq__" = some (some (.ref f))) (hf : isFn K (.ref f) = true) (ho : mroIn K C (.type "object") = some true)
    (h : wpAny (model prog w) A.in1 (call (.ref f) [.ref x, b]) (fun v s' => ∃ k, v = .bool k ∧ Q (.bool (!k)) s') E s) : wpAny (model prog w) A (richCompare .NotEq (.ref x) b) Q E s := by
  have one : wpAny (model prog w) A (tryCompare (.ref x) "__ne__" b) (fun r s' => ∃ k, r = some (.bool k) ∧ Q (.bool k) s') E s := by
    unfold tryCompare
    refine wpAny_bind (bound_ne X I hs (call_ne (Q := fun v s' => ∃ k, v = .bool k ∧ Q (.bool k) s') hu X I he hf ho (wpAny_mono h (fun v s' ⟨k, e, q⟩ => ⟨k, e, _, rfl, q⟩) fun _ _ e => e) |> fun z => wpAny_mono z (fun v s' ⟨k, e, q⟩ => ?_) fun _ _ e => e))
    subst e
    exact wpAny_pure ⟨k, rfl, q⟩
  unfold richCompare
  simp only [oneThing_ref]
  refine wpAny_holding (wpAny_bind (wpAny_cRoomFor (Nat.lt_of_succ_lt hu) ?_))
  rw [cmpInfo_NotEq]
  dsimp only
  refine wpAny_bind (I.type.here (wpAny_bind (hb.here ?_)))
  split
  · rename_i q
    have e : subIn K tb (.ref C) = some false := by
      rcases Bool.or_eq_true_iff.mp hn with e | e
      · rw [beq_iff_eq.mp e] at q
        simp at q
      · exact beq_iff_eq.mp e
    refine wpAny_bind ((looks_subIn X e).here ?_)
    simp only [Bool.false_eq_true, if_false]
    refine wpAny_bind (wpAny_mono one (fun r s' ⟨k, z, hq⟩ => ?_) fun _ _ e => e)
    subst z
    exact wpAny_pure hq
  · refine wpAny_bind (wpAny_pure ?_)
    simp only [Bool.false_eq_true, if_false]
    refine wpAny_bind (wpAny_mono one (fun r s' ⟨k, z, hq⟩ => ?_) fun _ _ e => e)
    subst z
    exact wpAny_pure hq
end
end NX
namespace NX
open PySem PySem.Spec PyProof.Rows L2
section
variable {X : Cx} {n : Nat} {f : Addr} {fd : FuncData} {ps : List Str} {sp : Sp} {CX : CXT} {E : XK}
theorem op_neOwn (F : FnOk X.prog X.w X.K X.mg X.base CX n f fd ps sp) (hb : Binds X.K fd ps []) (hx : Passes CX X E) (hr : Room (n + 1) X.A) : OpR X (compareOp .NotEq) (rOwn X.K f sp E true) := by
  intro pins s σ H x y u v Q I rx ry h
  obtain ⟨a, C, dx, fs, tb, rfl, ha, T, nf, ty, q⟩ := h
  obtain rfl : u = Value.ref a := rx
  obtain ⟨mA, O, _⟩ := ins_get I.hok ha
  obtain ⟨od, J, _⟩ := O.look
  obtain ⟨P, Z, p, _⟩ := kit_of I ry ty
  show wpAny (model X.prog X.w) X.A (richCompare .NotEq (.ref a) v) (EP X pins σ Q) X.xe s
  refine rich_ne (hu_of hr) I.kIn J (Z.ty _ _ I.kIn p) nf T.ne T.eq T.fn T.ob (wpAny_mono (run_own (x := .ref a) F hb hx ⟨hr.in1, rfl⟩ I rfl ry q) (fun r s' hq => ?_) fun _ _ z => z)
  obtain ⟨w, H', I', rw', b, rfl, q'⟩ := hq
  obtain rfl : r = Value.bool b := rw'
  exact ⟨b, rfl, .bl (!b), H', I', rfl, q'⟩
end
end NX

set_option Elab.async false
set_option linter.all false
set_option maxRecDepth 100000
set_option maxHeartbeats 4000000
/-! A rule of my own: C.m(k=e, ..), m a classmethod, by keywords alone. -/
namespace NX
open PySem PySem.Spec PyProof.Rows L2
section
variable {X : Cx} {CX : CXT} {k : Nat} {C p g : Addr} {mc : Value} {sp : Sp} {E : XK} {o : Expr} {kws : List Keyword} {m : Str} {pos apos : Pos} {ta : TE} {t : TA} {pl : Sem Bool} {fd : FuncData} {ps ks : List Str}
theorem pe_cmethK (he : PE X o ta) (r : ClX.CRead X.K C mc) (c : ClX.CMet X.K C mc m p g) (F : FnOk X.prog X.w X.K X.mg X.base CX k g fd ps sp) (hb : ∀ (s : Shared) (us : List Value), us.length + 1 = ps.length → BindsTo s fd ⟨[.ref C], ks.zip us⟩ (ps.zip (.ref C :: us)))
    (hr : Room k X.A) (hx : Passes CX X E) (ha : PK X kws t) (hall : (backToKw pos (keywordEach kws X.env)).all (·.1.isSome) = true := by rfl) (hks : (backToKw pos (keywordEach kws X.env)).filterMap (·.1) = ks := by rfl)
    (hpl : ((backTo pos (starEach [] X.env)).any (·.1) || (backToKw pos (keywordEach kws X.env)).any (·.1.isNone)) = false := by rfl)
    (ht : eval (.Call (.Attribute o m apos) [] kws pos) X.env = (do
      let ov ← eval o X.env
      standAt apos.atName
      let (f, first) ← holding [ov] (getMethod ov m pl)
      callWith pos f first (backTo pos (starEach [] X.env)) (backToKw pos (keywordEach kws X.env))) := by rfl) :
    PE X (.Call (.Attribute o m apos) [] kws pos) (ClX.tCMeth C sp E ta t) := by
  refine ⟨fun pins s σ H Q I h => PySem.W.methodCall_KW (pl := pl) (thn (he.run pins s σ H _ I h) fun u s1 ⟨x, H1, I1, rx, ex, q⟩ => ?_) ht⟩
  subst ex
  obtain rfl : u = Value.ref C := rx
  refine ClX.getmethcm_ok I1 r c fun s2 I2 => ?_
  refine PySem.W.callWith_of hpl (PySem.W.keeps_M (K := X.K) (self := .ref C) c.fi) (PyProof.Rows.evalArgs_kw2_nil hall (thn (ha.run pos _ s2 σ H1 _ I2 q) fun us s3 ⟨vs, H2, I3, rv, q2⟩ => ⟨⟨ClX.pin_at I3, I3.kIn⟩, ?_⟩))
  rw [hks]
  have r2 : Vals (V.ref C :: vs) (Value.ref C :: us) := .cons rfl rv
  have hl : us.length + 1 = ps.length := by
    have z := F.len _ _ _ _ q2
    rw [← z, r2.length]
    rfl
  have z : wpAny (model X.prog X.w) X.A (call (.ref s1.heap.objs.size) ([] ++ []) (ks.zip us)) (EP X ((s1.heap.objs.size, PySem.W.methodObj (.ref g) (.ref C)) :: pins) σ Q) X.xe s3 := by
    refine wpAny_call (PySem.W.method_call (ClX.pin_at I3) (codeAny_mono (F.run X.A X.stack s3 H2 ⟨[.ref C], ks.zip us⟩ (.ref C :: us) (.ref C :: vs) Q E hr I3.env0 (hb s3 us hl) r2 q2) fun r s' hq => ?_))
    cases r with
    | error er => exact hx _ σ H2 s3 er s' I3 hq
    | ok fl =>
      cases fl with
      | ret w => exact I3.after hq
      | next => exact False.elim hq
      | brk => exact False.elim hq
      | cont => exact False.elim hq
  exact thn z fun _ _ y => ClX.unpinE y
end
end NX

set_option linter.all false
namespace NX
open PySem PySem.Builtin PySem.Builtin.Str
theorem tw_all {p : Nat → Bool} : ∀ {l : List Nat}, l.all p = true → l.takeWhile p = l
  | [], _ => rfl
  | c :: r, h => by
    rw [List.all_cons, Bool.and_eq_true] at h
    rw [List.takeWhile_cons, if_pos h.1, tw_all h.2]
theorem tw_lt {p : Nat → Bool} {l : List Nat} (h : l.all p = false) : (l.takeWhile p).length < l.length := by
  induction l with
  | nil => simp at h
  | cons c r ih =>
    rw [List.all_cons] at h
    rw [List.takeWhile_cons]
    by_cases hc : p c = true
    · rw [if_pos hc, List.length_cons, List.length_cons]
      rw [hc, Bool.true_and] at h
      have := ih h
      omega
    · rw [if_neg hc]
      simp
theorem drop_all {p : Nat → Bool} {l : List Nat} (h : l.all p = false) : (l.drop (l.takeWhile p).length).all p = false := by
  induction l with
  | nil => simp at h
  | cons c r ih =>
    rw [List.all_cons] at h
    rw [List.takeWhile_cons]
    by_cases hc : p c = true
    · rw [if_pos hc, List.length_cons, List.drop_succ_cons]
      rw [hc, Bool.true_and] at h
      exact ih h
    · rw [if_neg hc]
      simp [hc]
theorem strip_empty (x y : Str) : (Txt.stripChars x y = ("" : Str)) ↔ x.cps.toList.all y.cps.contains = true := by
  have len : x.length = x.cps.toList.length := by show x.cps.size = _; simp
  have empty : ∀ {z : Str}, z = ("" : Str) ↔ z.cps.toList = [] := fun {z} => by
    constructor
    · intro e
      rw [e]
      decide +kernel
    · intro e
      obtain ⟨⟨l⟩⟩ := z
      have e' : l = [] := e
      subst e'
      decide +kernel
  unfold Txt.stripChars Txt.stripBy stripSame stripped stripLo stripHi
  simp only [if_true]
  cases ha : x.cps.toList.all y.cps.contains with
  | true =>
    rw [tw_all ha]
    refine ⟨fun _ => rfl, fun _ => ?_⟩
    split
    · rename_i q
      rw [Bool.and_eq_true, beq_iff_eq] at q
      exact empty.mpr (List.length_eq_zero_iff.mp q.1)
    · refine empty.mpr ?_
      simp [strSub, len]
  | false =>
    refine ⟨fun e => ?_, fun e => by cases e⟩
    exfalso
    have h1 := tw_lt ha
    have h2 : (((x.cps.toList.drop (x.cps.toList.takeWhile y.cps.contains).length).reverse).takeWhile y.cps.contains).length < (x.cps.toList.drop (x.cps.toList.takeWhile y.cps.contains).length).length := by
      have := tw_lt (p := y.cps.contains) (l := (x.cps.toList.drop (x.cps.toList.takeWhile y.cps.contains).length).reverse) (by rw [List.all_reverse]; exact drop_all ha)
      rwa [List.length_reverse] at this
    rw [List.length_drop] at h2
    split at e
    · rw [empty] at e
      rw [e] at ha
      cases ha
    · rw [empty] at e
      have q := congrArg List.length e
      simp [strSub] at q
      rw [len] at q
      simp at q h1 h2
      omega
/-- a small letter -/
def lett (c : Nat) : Bool := decide (97 ≤ c) && decide (c ≤ 122)
theorem letters_list : ("abcdefghijklmnopqrstuvwxyz" : Str).cps.toList = List.range' 97 26 := by decide +kernel
theorem letters_mem (c : Nat) : c ∈ ("abcdefghijklmnopqrstuvwxyz" : Str).cps.toList ↔ lett c = true := by
  rw [letters_list, List.mem_range'_1]
  unfold lett
  rw [Bool.and_eq_true, decide_eq_true_eq, decide_eq_true_eq]
  omega
theorem letters_has (c : Nat) : ("abcdefghijklmnopqrstuvwxyz" : Str).cps.contains c = lett c := by
  rw [Bool.eq_iff_iff, Array.contains_iff_mem, ← Array.mem_toList_iff]
  exact letters_mem c
/-- is it a name -/
def nm (z : Str) : Bool := decide (1 ≤ z.length) && (decide (z.length ≤ 6) && z.cps.toList.all lett)
theorem strip_nm (z : Str) : decide (Txt.stripChars z ("abcdefghijklmnopqrstuvwxyz" : Str) = ("" : Str)) = z.cps.toList.all lett := by
  rw [Bool.eq_iff_iff, decide_eq_true_eq, strip_empty]
  have e : ("abcdefghijklmnopqrstuvwxyz" : Str).cps.contains = lett := funext letters_has
  rw [e]
end NX

set_option Elab.async false
set_option linter.all false
set_option maxRecDepth 100000
set_option maxHeartbeats 4000000
/-! Sets of texts: made of a list or a tuple, their length, sorted. -/
namespace NU
open PySem PySem.Spec PyProof.Rows L2
/-- the text of a row of a set's table -/
def txOf (e : Int × Value) : Str := match e.2 with | .str x _ => x | _ => Str.empty
def Tx (wo : World) (e : Int × Value) : Prop := ∃ x u, e.2 = Value.str x u ∧ e.1 = hashStr wo x
/-- the rows of a set of the texts mem, cnt of them -/
structure Rws (wo : World) (mem : Str → Bool) (cnt : Nat) (es : Array (Int × Value)) (t : SetTable) : Prop where
  tx : ∀ e ∈ es.toList, Tx wo e
  nd : (es.toList.map txOf).Nodup
  mm : ∀ x, mem x = true ↔ x ∈ es.toList.map txOf
  few : es.size < scanBound
  fit : t.fits es.size = true
  num : es.size = cnt
  ris : Ris t.place.toList
  led : wo.params.followText "set-order" = true ∨ t.led = true
def SetT (wo : World) (h : Heap) (a : Addr) (mem : Str → Bool) (cnt : Nat) : Prop :=
  ∃ o es ep t, h.get? a = some o ∧ o.ExactSet ∧ o.data = .set es ep t ∧ Rws wo mem cnt es t
section
variable {Pg : Program} {wo : World} {h h2 : Heap} {a : Addr} {mem : Str → Bool} {cnt : Nat}
theorem SetT.mv (R : SetT wo h a mem cnt) (k : ∀ o, h.get? a = some o → h2.get? a = some o) : SetT wo h2 a mem cnt :=
  have ⟨o, es, ep, t, g, r⟩ := R
  ⟨o, es, ep, t, k o g, r⟩
theorem SetT.eqv {mem2 : Str → Bool} (R : SetT wo h a mem cnt) (e : ∀ x, mem2 x = mem x) : SetT wo h a mem2 cnt := (funext e : mem2 = mem) ▸ R
theorem tx_elems {l : List (Int × Value)} (g : ∀ e ∈ l, Tx wo e) : ElemsOf (PySem.strKind Pg wo) l := fun e he =>
  have ⟨x, u, e1, e2⟩ := g e he
  ⟨⟨x, by rw [e1]; exact PySem.strKind_is Pg wo x u, e2⟩, by rw [e1]; rfl⟩
theorem tx_is {e : Int × Value} (g : Tx wo e) (x : Str) : (PySem.strKind Pg wo).is x e.2 = true ↔ txOf e = x := by
  have ⟨y, u, e1, _⟩ := g
  unfold txOf
  rw [e1]
  constructor
  · intro z
    have ⟨u2, e2⟩ := Value.isStrOf_shape (x := x) (v := .str y u) z
    injection e2
  · intro z
    have z : y = x := z
    subst z
    exact PySem.strKind_is Pg wo y u
theorem tx_mem {l : List (Int × Value)} (g : ∀ e ∈ l, Tx wo e) (x : Str) : x ∈ l.map txOf ↔ ∃ e ∈ l, (PySem.strKind Pg wo).is x e.2 = true := by
  rw [List.mem_map]
  exact ⟨fun ⟨e, he, z⟩ => ⟨e, he, (tx_is (g e he) x).2 z⟩, fun ⟨e, he, z⟩ => ⟨e, he, (tx_is (g e he) x).1 z⟩⟩
end
section
variable {Pg : Program} {wo : World} {Ar : Around} {Er : Value → Shared → Prop} {st : Shared} {a : Addr} {mem : Str → Bool} {cnt : Nat}
/-- the rest of a set's add: the new rows are kept, or kept and laid anew -/
theorem rest_add {tell : Bool → Sem Unit} (quiet : ∀ (b : Bool) (s1 : Shared) (Q1 : Unit → Shared → Prop), Q1 () s1 → wpAny (model Pg wo) Ar (tell b) Q1 Er s1)
    {o : Obj} {es es1 : Array (Int × Value)} {ep : Nat} {t t1 : SetTable} (g : st.heap.get? a = some o) (x : o.ExactSet) (d : o.data = .set es ep t) {mem2 : Str → Bool} {c : Nat} (W : Rws wo mem2 c es1 t1)
    {was : Bool} {R : Option Bool → Shared → Prop} (out : ∀ h2, Heap.SameBut a st.heap h2 → SetT wo h2 a mem2 c → R (some true) { st with heap := h2 }) :
    wpAny (model Pg wo) Ar (storeSet a es1 t1 >>= fun _ =>
        if (!was && t1.tooFull) = true then (do tell (relayAll t1 es1 (SetTable.grown es1.size)).2.2; storeSet a (relayAll t1 es1 (SetTable.grown es1.size)).1 (relayAll t1 es1 (SetTable.grown es1.size)).2.1; pure (some true)) else pure (some true)) R Er st := by
  refine wpAny_bind (wpAny_storeSet_of g d ?_ (fits_of_scanBound W.few))
  have g1 := L2.store_at (es' := es1) (t' := t1) g d
  have b1 := Heap.SameBut.update st.heap a (Obj.putSet es1 t1)
  by_cases full : (!was && t1.tooFull) = true
  · rw [if_pos full]
    have p := relayAll_perm t1 es1 (SetTable.grown es1.size)
    have f2 := relayAll_fits t1 es1 (SetTable.grown es1.size)
    have r2 := L2.relayAll_ris t1 es1 (SetTable.grown es1.size)
    have l2 := L2.relayAll_led t1 es1 (SetTable.grown es1.size)
    revert p f2 r2 l2
    generalize relayAll t1 es1 (SetTable.grown es1.size) = Z
    obtain ⟨es2, t2, gave⟩ := Z
    intro p f2 r2 l2
    have same : es2.size = es1.size := by simpa using p.length_eq
    have few2 : es2.size < scanBound := by rw [same]; exact W.few
    refine wpAny_bind (quiet _ _ _ (wpAny_bind (wpAny_storeSet_of g1 rfl (wpAny_pure (out _ (b1.trans (Heap.SameBut.update _ a _)) ?_)) (fits_of_scanBound few2))))
    exact ⟨_, es2, _, t2, L2.store_at (es' := es2) (t' := t2) g1 rfl, x, rfl, fun e he => W.tx e (p.mem_iff.mp he), (p.map txOf).nodup_iff.mpr W.nd, fun y => (W.mm y).trans (p.map txOf).mem_iff.symm, few2, f2,
      same.trans W.num, r2, W.led.imp id fun z => l2.trans z⟩
  · rw [if_neg full]
    exact wpAny_pure (out _ b1 ⟨_, es1, _, t1, g1, x, rfl, W⟩)
theorem add_tx {x : Str} {u : Tok} {Q : Bool → Shared → Prop} (R : SetT wo st.heap a mem cnt) (room : cnt + 1 < scanBound)
    (out : ∀ h2, Heap.SameBut a st.heap h2 → SetT wo h2 a (fun y => mem y || decide (y = x)) (if mem x = true then cnt else cnt + 1) → Q (!mem x) { st with heap := h2 }) :
    wpAny (model Pg wo) Ar (setAddHashed a (.str x u) ((PySem.strKind Pg wo).hash x)) Q Er st := by
  obtain ⟨o, es, ep, t, g, ex, d, W⟩ := R
  have key : (PySem.strKind Pg wo).is x (.str x u) = true := PySem.strKind_is Pg wo x u
  have elems : ElemsOf (PySem.strKind Pg wo) es.toList := tx_elems W.tx
  have plain : (Value.str x u).scannable = true := rfl
  unfold setAddHashed setAddHashedIn
  refine wpAny_holding (wpAny_bind (wpAny_setState_of g d W.fit ?_))
  dsimp only
  rw [byScan_of plain W.few elems, if_pos rfl]
  unfold setAddByScan
  refine wpAny_bind (wpAny_bind (wpAny_rule (wpAny_bind (wpAny_setScan_of key g d W.fit elems ?_))))
  cases at_ : List.findIdx? (fun e => (PySem.strKind Pg wo).is x e.2) es.toList with
  | some j =>
    dsimp only
    obtain ⟨lt, yes, _⟩ := List.findIdx?_eq_some_iff_getElem.mp at_
    have has : mem x = true := (W.mm x).2 ((tx_mem (Pg := Pg) W.tx x).2 ⟨es.toList[j], List.getElem_mem lt, yes⟩)
    have z := out st.heap (Heap.SameBut.refl a st.heap) ⟨o, es, ep, t, g, ex, d, { W with
      mm := fun y => by
        rw [Bool.or_eq_true, decide_eq_true_eq]
        exact ⟨fun q => (W.mm y).1 (q.elim id fun e => by rw [e]; exact has), fun q => .inl ((W.mm y).2 q)⟩
      num := by rw [if_pos has]; exact W.num }⟩
    rw [has] at z
    exact wpAny_pure (wpAny_pure z)
  | none =>
    dsimp only
    have no : x ∉ es.toList.map txOf := fun z => by
      obtain ⟨e, he, q⟩ := (tx_mem (Pg := Pg) W.tx x).1 z
      rw [List.findIdx?_eq_none_iff.mp at_ e he] at q
      cases q
    have not : mem x = false := Bool.eq_false_iff.mpr fun z => no ((W.mm x).1 z)
    have hush : ∀ (b : Bool) {s1 : Shared} {Q1 : Unit → Shared → Prop}, Q1 () s1 → wpAny (model Pg wo) Ar (match b with | true => rule "set.scan.the-table-gave-way" | false => pure ()) Q1 Er s1
      | true, _, _, q => wpAny_rule q
      | false, _, _, q => wpAny_pure q
    have p := layNew_perm t es ((PySem.strKind Pg wo).hash x) (.str x u)
    have f1 := layNew_fits t es ((PySem.strKind Pg wo).hash x) (.str x u)
    have r1 := L2.layNew_ris t es ((PySem.strKind Pg wo).hash x) (.str x u) W.ris
    have l1 := L2.layNew_led t es ((PySem.strKind Pg wo).hash x) (.str x u)
    revert p f1 r1 l1
    generalize layNew t es ((PySem.strKind Pg wo).hash x) (.str x u) = Z
    obtain ⟨es1, t1, was, gave⟩ := Z
    intro p f1 r1 l1
    dsimp only at p f1 r1 l1 ⊢
    rw [Array.toList_push] at p
    have p : es1.toList.Perm (((PySem.strKind Pg wo).hash x, Value.str x u) :: es.toList) := p.trans (List.perm_append_singleton _ _)
    have pt : (es1.toList.map txOf).Perm (x :: es.toList.map txOf) := p.map txOf
    have size1 : es1.size = cnt + 1 := by rw [← W.num]; simpa using p.length_eq
    have V : ∀ t2 : SetTable, t2.fits es1.size = true → Ris t2.place.toList → (wo.params.followText "set-order" = true ∨ t2.led = true) → Rws wo (fun y => mem y || decide (y = x)) (cnt + 1) es1 t2 := fun t2 f r l =>
      { tx := fun e he => (List.mem_cons.mp (p.mem_iff.mp he)).elim (fun z => by rw [z]; exact ⟨x, u, rfl, rfl⟩) (W.tx e)
        nd := pt.nodup_iff.mpr (List.nodup_cons.mpr ⟨no, W.nd⟩)
        mm := fun y => by rw [Bool.or_eq_true, decide_eq_true_eq, W.mm y, pt.mem_iff, List.mem_cons]; exact Or.comm
        few := by rw [size1]; exact room
        fit := f
        num := size1
        ris := r
        led := l }
    have led1 : wo.params.followText "set-order" = true ∨ t1.led = true := W.led.imp id fun z => l1.trans z
    have fin : ∀ h2, Heap.SameBut a st.heap h2 → SetT wo h2 a (fun y => mem y || decide (y = x)) (cnt + 1) → Q true { st with heap := h2 } := fun h2 b r => by
      have z := out h2 b
      rw [not] at z
      exact z r
    refine wpAny_bind (hush _ ?_)
    split
    · refine wpAny_bind ?_
      rw [hashByValue_scannable 8 plain]
      refine wpAny_pure (rest_add (fun b s1 Q1 q => ?_) g ex d (V _ ?_ ?_ ?_) fun h2 b r => wpAny_pure (fin h2 b r))
      · cases b <;> first | exact wpAny_pure q | exact wpAny_rule q
      · first | (split <;> first | exact f1 | exact SetTable.fits_plain_off f1) | exact f1
      · first | (split <;> exact r1) | exact r1
      · first | (split <;> exact led1) | exact led1
    · refine wpAny_bind (wpAny_pure ?_)
      rw [if_pos rfl]
      refine rest_add (fun b s1 Q1 q => ?_) g ex d (V t1 f1 r1 led1) fun h2 b r => wpAny_pure (fin h2 b r)
      cases b <;> first | exact wpAny_pure q | exact wpAny_rule q
end

section
variable {Pg : Program} {wo : World} {Ar : Around} {Er : Value → Shared → Prop} {st : Shared}
abbrev bare (wo : World) : Obj := { cls := .type "set", dict := none, data := .set #[] 0 (.fresh 0 0 (!wo.params.followText "set-order")) }
theorem led0 (wo : World) : wo.params.followText "set-order" = true ∨ (SetTable.fresh 0 0 (!wo.params.followText "set-order")).led = true := by
  show _ ∨ (!wo.params.followText "set-order") = true
  cases wo.params.followText "set-order"
  · exact .inr rfl
  · exact .inl rfl
theorem setT_bare {h : Heap} {a : Addr} (g : h.get? a = some (bare wo)) : SetT wo h a (fun _ => false) 0 :=
  ⟨_, #[], 0, _, g, ⟨rfl, rfl, rfl⟩, rfl, { tx := nofun, nd := List.nodup_nil, mm := fun x => ⟨nofun, nofun⟩, few := by decide, fit := rfl, num := rfl, ris := List.Pairwise.nil, led := led0 wo }⟩
/-- the texts of xs that are new, from the last on: as many as the set of xs has members -/
def many : List Str → Nat
  | [] => 0
  | x :: l => if x ∈ l then many l else many l + 1
theorem many_le : ∀ l : List Str, many l ≤ l.length
  | [] => Nat.le_refl 0
  | x :: l => by
    have q := many_le l
    unfold many
    rw [List.length_cons]
    split <;> omega
theorem many_snoc (x : Str) : ∀ l : List Str, many (l ++ [x]) = if x ∈ l then many l else many l + 1
  | [] => rfl
  | y :: l => by
    have q := many_snoc x l
    show many (y :: (l ++ [x])) = _
    unfold many
    rw [q]
    by_cases e : x = y
    · subst e
      by_cases m : x ∈ l <;> simp [m]
    · have e2 : ¬ y = x := fun z => e z.symm
      by_cases m : x ∈ l <;> by_cases n : y ∈ l <;> simp [m, n, e, e2]
theorem upd_tx {I : Addr} {fp wr : List Addr} {G : Array GenState → Array GenState → Prop} {n : Nat} {Pv : Nat → Value → Prop} {St : Nat → Shared → Prop} {R : Result → Shared → Prop} (W : WalksS Pg wo Ar.in1 I fp wr G n Pv St) (D : Addr) (far : D ∉ fp)
    (xs : List Str) (len : n = xs.length) (room : xs.length + 1 < scanBound) (val : ∀ i v, Pv i v → ∃ x u, xs[i]? = some x ∧ v = .str x u) :
    ∀ (left i : Nat) (t : Shared), n - i = left → i ≤ n → St i t → SetT wo t.heap D (fun y => decide (y ∈ xs.take i)) (many (xs.take i)) →
      (∀ t2, Moved (D :: wr) G t t2 → SetT wo t2.heap D (fun y => decide (y ∈ xs)) (many xs) → R (.ok (.ret .none)) t2) → codeAny (model Pg wo) Ar (.builtin "set.update.loop" ⟨[.ref D, .ref I], []⟩) R t := by
  have off : D ∉ wr := fun z => far (W.sub _ z)
  have sub : ∀ b ∈ wr, b ∈ D :: wr := fun b z => List.mem_cons_of_mem _ z
  intro left
  induction left with
  | zero =>
    intro i t e le here S out
    obtain rfl : i = n := by omega
    refine codeAny_builtin F.entry_set_update_loop ?_
    rw [Around.under_plainId F.plain_set_update_loop _]
    refine wpAny_bind (m := pyNext (.ref I)) (W.done t _ _ here fun t2 mv => wpAny_pure (out t2 (mv.mono sub) ?_))
    have all : xs.take i = xs := List.take_of_length_le (by omega)
    rw [all] at S
    exact S.mv fun o z => mv.heap D o off z
  | succ left ih =>
    intro i t e le here S out
    have lt : i < n := by omega
    refine codeAny_builtin F.entry_set_update_loop ?_
    rw [Around.under_plainId F.plain_set_update_loop _]
    refine wpAny_bind (m := pyNext (.ref I)) (W.item i t _ _ lt here fun v t2 pv next mv => ?_)
    obtain ⟨x, u, at_, rfl⟩ := val i v pv
    have S2 : SetT wo t2.heap D (fun y => decide (y ∈ xs.take i)) (many (xs.take i)) := S.mv fun o z => mv.heap D o off z
    refine wpAny_bind (m := holding [Value.str x u] (setAdd D (.str x u))) (wpAny_holding ?_)
    unfold setAdd
    have low : many (xs.take i) ≤ i := Nat.le_trans (many_le _) (by rw [List.length_take]; omega)
    refine wpAny_holding (wpAny_bind ((PySem.strKind Pg wo).pyHash (k := x) (PySem.strKind_is _ _ _ _) (add_tx (st := { t2 with toks := t2.toks + 1 }) S2 (by omega) fun h3 but S3 => ?_)))
    have more : xs.take (i + 1) = xs.take i ++ [x] := by rw [List.take_add_one, at_]; rfl
    have S4 : SetT wo h3 D (fun y => decide (y ∈ xs.take (i + 1))) (many (xs.take (i + 1))) := by
      rw [more, many_snoc]
      have z : (fun y => decide (y ∈ xs.take i ++ [x])) = fun y => decide (y ∈ xs.take i) || decide (y = x) := funext fun y => by simp [List.mem_append]
      rw [z]
      by_cases m : x ∈ xs.take i
      · rw [if_pos m]
        rw [if_pos (decide_eq_true m)] at S3
        exact S3
      · rw [if_neg m]
        rw [if_neg (by simpa using m)] at S3
        exact S3
    have keep : ∀ b o, b ≠ D → t2.heap.get? b = some o → h3.get? b = some o := fun b o ne z => by rw [but.2 b ne]; exact z
    refine wpAny_pure ⟨plainId_quiet F.plain_set_update_loop _, ih (i + 1) _ (by omega) lt (W.frame _ t2 _ _ next (Nat.le_succ _) fun b z o q => keep b o (fun e2 => far (e2 ▸ z)) q) S4 fun t4 mv2 S5 => out t4 ?_ S5⟩
    exact Moved.trans W.gtrans ((mv.mono sub).then_heap (Nat.le_succ _) fun b o z q => keep b o (fun e2 => z (e2 ▸ List.mem_cons_self)) q) mv2
/-- set(xs), xs a list or a tuple of texts -/
theorem call_set {l : Addr} {its : Array Value} (xs : List Str) {Q : Value → Shared → Prop} (cold : Ar.handled = none) (hl : st.heap.IsList l its ∨ st.heap.IsTuple l its) (each : StrsAre its.toList xs) (room : xs.length + 1 < scanBound)
    (out : ∀ h2 tk, SetT wo h2 st.heap.objs.size (fun y => decide (y ∈ xs)) (many xs) → (∀ b o, st.heap.get? b = some o → h2.get? b = some o) → Q (.ref st.heap.objs.size) { st with heap := h2, toks := tk }) :
    wpAny (model Pg wo) Ar (call (.type "set") [.ref l]) Q Er st := by
  have len : its.size = xs.length := by simpa using each.length
  have val : ∀ (i : Nat) (v : Value), its[i]? = some v → ∃ x u, xs[i]? = some x ∧ v = .str x u := fun i v z => by
    have lt : i < xs.length := by rw [← len]; exact (Array.getElem?_eq_some_iff.mp z).1
    obtain ⟨u, e⟩ := SS.strs_at each i v (by rw [Array.getElem?_toList]; exact z)
    exact ⟨xs[i], u, List.getElem?_eq_getElem lt, by rw [e, List.getD_eq_getElem?_getD, List.getElem?_eq_getElem lt]; rfl⟩
  have lo : l < st.heap.objs.size := by
    rcases hl with ⟨o, g, _⟩ | ⟨o, g, _⟩ <;> exact Heap.lt_size g
  obtain ⟨c, tl, hmro⟩ := PySem.F.called_set.mro
  have hmade := PySem.F.called_set.made
  have hsub := PySem.F.called_set.sub
  refine wpAny_call (codeAny_of_tree ?_)
  show wpAny _ _ (callAny (.type "set") _) _ _ _
  refine wpAny_pure ⟨Code.quiet_builtin _ (by decide +kernel), codeAny_builtin PySem.F.entry_type_call ?_⟩
  rw [Around.under_plain (weight_type_call_type "set" [.ref l] []) rfl]
  have h1 := PySem.F.called_set.notType
  have h2 := PySem.F.called_set.canCreate
  have hct := PySem.F.typeCall_set_1 (.ref l)
  repeat (any_goals (first | assumption | wp_step))
  refine codeAny_mono (L2.code_set_led1 (.ref l) (E := Er) (Q₁ := fun v t => v = .ref st.heap.objs.size ∧ t = { st with heap := st.heap.push (bare wo) }) ⟨rfl, rfl⟩) fun r t z => ?_
  rcases r with e | fl
  · exact z
  cases fl with
  | ret v =>
    obtain ⟨rfl, rfl⟩ := z
    have gD : (st.heap.push (bare wo)).get? st.heap.objs.size = some (bare wo) := Heap.get?_push_size _ rfl
    have isD : Shared.TypeIs { st with heap := st.heap.push (bare wo) } (.ref st.heap.objs.size) "set" := ⟨_, gD, rfl⟩
    have sz : (st.heap.push (bare wo)).objs.size = st.heap.objs.size + 1 := Heap.size_push ..
    have hli := PySem.F.called_set.init.lookup
    have hbi := PySem.F.called_set.init.bind (.ref st.heap.objs.size)
    repeat (any_goals (first | assumption | wp_step))
    refine codeAny_mono (codeAny_call_builtin (R := wants (fun r t => r = .none ∧ ∃ h2 tk, t = { st with heap := h2, toks := tk } ∧ SetT wo h2 st.heap.objs.size (fun y => decide (y ∈ xs)) (many xs) ∧ (∀ b o, st.heap.get? b = some o → h2.get? b = some o)) Er)
      PySem.F.called_set.init.plain PySem.F.entry_set_init (check_set_init_1 isD ?_)) fun r2 t2 z2 => ?_
    · have cold3 : Ar.in1.in1.in1.handled = none := by simp [cold]
      have start : ∀ {h : Heap}, h.get? st.heap.objs.size = some (bare wo) → SetT wo h st.heap.objs.size (fun y => decide (y ∈ xs.take 0)) (many (xs.take 0)) := fun g => (setT_bare g).eqv fun y => by simp
      have neI : l ≠ (st.heap.push (bare wo)).objs.size := Nat.ne_of_lt (by rw [sz]; exact Nat.lt_succ_of_lt lo)
      have far : st.heap.objs.size ∉ [(st.heap.push (bare wo)).objs.size, l] := by
        simp only [List.mem_cons, List.not_mem_nil, or_false, not_or]
        exact ⟨Nat.ne_of_lt (by rw [sz]; exact Nat.lt_succ_self _), Nat.ne_of_gt lo⟩
      have old : ∀ b o, st.heap.get? b = some o → b ∉ [st.heap.objs.size, (st.heap.push (bare wo)).objs.size] := fun b o g => by
        have lb := Heap.lt_size g
        simp only [List.mem_cons, List.not_mem_nil, or_false, not_or]
        exact ⟨Nat.ne_of_lt lb, Nat.ne_of_lt (by rw [sz]; exact Nat.lt_succ_of_lt lb)⟩
      have ne : (Value.type "tuple" == Value.type "dict") = false := by decide
      have ne2 : (Value.type "list" == Value.type "dict") = false := by decide
      rcases hl with hl | hl
      · obtain ⟨⟨ocls, odict, odata, oslots⟩, g, hc, nl, hd⟩ := hl
        simp only at hc hd
        subst hc; subst hd
        have g2 : (st.heap.push (bare wo)).get? l = some { cls := .type "list", dict := odict, data := .seq its nl, slots := oslots } := Heap.get?_push_of_some _ g
        have s1 := PySem.F.sub_list_set
        have s2 := PySem.F.sub_list_frozenset
        have hl2 : (st.heap.push (bare wo)).IsList l its := ⟨_, g2, rfl, nl, rfl⟩
        unfold Builtin.«set.__init__» noKeywords Builtin.Frozenset.updateFrom
        generalize hPI : pyIter = PI
        wp_walk
        subst hPI
        refine wpAny_pyIter_list hl2 (wpAny_bind (wpAny_runValue ?_))
        refine upd_tx (Walks.list cold3 _ l neI its).toS st.heap.objs.size far xs len room val (its.size - 0) 0 _ rfl (Nat.zero_le _) ⟨⟨_, Heap.get?_push_size _ rfl, rfl, rfl⟩, hl2.push _⟩
          (start (Heap.get?_push_of_some _ gD)) fun t4 mv S => ?_
        obtain ⟨h4, g4, d4, k4, o4⟩ := t4
        have eg : g4 = st.gens := mv.gens
        have ed : d4 = st.drawn := mv.drawn
        have eo : o4 = st.os := mv.os
        subst eg ed eo
        refine wpAny_pure (wpAny_pure ⟨rfl, h4, k4, rfl, S, fun b o q => mv.heap b o (old b o q) (Heap.get?_push_of_some _ (Heap.get?_push_of_some _ q))⟩)
      · obtain ⟨⟨ocls, odict, odata, oslots⟩, g, hc, nl, hd⟩ := hl
        simp only at hc hd
        subst hc; subst hd
        have g2 : (st.heap.push (bare wo)).get? l = some { cls := .type "tuple", dict := odict, data := .seq its nl, slots := oslots } := Heap.get?_push_of_some _ g
        have s1 := PySem.F.sub_tuple_set
        have s2 := PySem.F.sub_tuple_frozenset
        have hl2 : (st.heap.push (bare wo)).IsTuple l its := ⟨_, g2, rfl, nl, rfl⟩
        unfold Builtin.«set.__init__» noKeywords Builtin.Frozenset.updateFrom
        generalize hPI : pyIter = PI
        wp_walk
        subst hPI
        refine wpAny_pyIter_tuple hl2 (wpAny_bind (wpAny_runValue ?_))
        refine upd_tx (Walks.tuple cold3 _ l neI its).toS st.heap.objs.size far xs len room val (its.size - 0) 0 _ rfl (Nat.zero_le _) ⟨⟨_, Heap.get?_push_size _ rfl, rfl, rfl⟩, hl2.push _⟩
          (start (Heap.get?_push_of_some _ gD)) fun t4 mv S => ?_
        obtain ⟨h4, g4, d4, k4, o4⟩ := t4
        have eg : g4 = st.gens := mv.gens
        have ed : d4 = st.drawn := mv.drawn
        have eo : o4 = st.os := mv.os
        subst eg ed eo
        refine wpAny_pure (wpAny_pure ⟨rfl, h4, k4, rfl, S, fun b o q => mv.heap b o (old b o q) (Heap.get?_push_of_some _ (Heap.get?_push_of_some _ q))⟩)
    · rcases r2 with e | fl
      · exact z2
      cases fl with
      | ret r =>
        obtain ⟨rfl, h4, tk, rfl, S, k⟩ := z2
        repeat (any_goals (first | assumption | wp_step))
        exact out _ _ S k
      | _ => exact z2.elim
  | _ => exact z.elim
end
end NU

set_option Elab.async false
set_option linter.all false
set_option maxRecDepth 100000
set_option maxHeartbeats 4000000
/-! Sets of texts under the invariant: set(xs), len(set), sorted(set). -/
namespace NU
open PySem PySem.Spec PyProof.Rows L2
section
variable {Pg : Program} {wo : World} {Ar : Around} {Er : Value → Shared → Prop} {st : Shared} {a : Addr}
/-- texts in the order of their first row are listed once: how many -/
theorem many_of : ∀ l : List Str, l.Nodup → many l = l.length
  | [], _ => rfl
  | x :: l, d => by
    have ⟨d1, d2⟩ := List.nodup_cons.mp d
    show (if x ∈ l then many l else many l + 1) = l.length + 1
    rw [if_neg d1, many_of l d2]
theorem texts_of : ∀ l : List Value, (∀ v ∈ l, ∃ x u, v = Value.str x u) → ∃ xs, StrsAre l xs ∧ xs = l.map fun v => txOf (0, v)
  | [], _ => ⟨[], .nil, rfl⟩
  | v :: l, h => by
    obtain ⟨x, u, rfl⟩ := h v List.mem_cons_self
    obtain ⟨xs, s, e⟩ := texts_of l fun z hz => h z (List.mem_cons_of_mem _ hz)
    exact ⟨x :: xs, .cons x u s, by rw [e]; rfl⟩
theorem sorted_tx {mem : Str → Bool} {cnt : Nat} {Q : Value → Shared → Prop} (R : SetT wo st.heap a mem cnt) (cold : Ar.handled = none) (small : cnt < 64)
    (out : ∀ t p (arr : Array Value) (c : Nat) (ys : List Str), (∀ b o, st.heap.get? b = some o → t.heap.get? b = some o) → t.gens = st.gens → t.os = st.os → st.heap.objs.size ≤ p →
      t.heap.get? p = some (seqObj "list" arr c) → StrsAre arr.toList ys → sortedS ys = true → ys.Nodup → (∀ y, y ∈ ys ↔ mem y = true) → ys.length = cnt → Q (.ref p) t) :
    wpAny (model Pg wo) Ar (call (.builtin "sorted") [.ref a]) Q Er st := by
  obtain ⟨o, es, ep, t, g, ex, d, W⟩ := R
  refine Calls.call_function_entry kind_sorted plain_sorted entry_sorted (args_sorted1 _) ?_
  unfold Builtin.«sorted»
  refine wpAny_bind (m := checkCount "sorted" 1 1 _) (wpAny_pure (wpAny_bind (L2.collect_set (A := Ar.in1) cold ⟨o, g, ex.1, d⟩ W.fit W.few W.ris W.led fun t1 vs k1 z1 g1 o1 pm => ?_)))
  have lv : vs.length = cnt := by rw [pm.length_eq, List.length_map, Array.length_toList]; exact W.num
  obtain ⟨xs, are, exs⟩ := texts_of vs fun v hv => by
    obtain ⟨e, he, q⟩ := List.mem_map.mp (pm.mem_iff.mp hv)
    obtain ⟨x, u, e1, _⟩ := W.tx e he
    exact ⟨x, u, q ▸ e1⟩
  have px : xs.Perm (es.toList.map txOf) := by
    have q := pm.map fun v => txOf (0, v)
    rw [List.map_map, ← exs] at q
    exact q
  refine wpAny_bind (wpAny_newList ?_ (by rw [lv, sizeLine_eq]; omega))
  have oL : (t1.heap.push (seqObj "list" vs.toArray 0)).get? t1.heap.objs.size = some (seqObj "list" vs.toArray 0) := Heap.get?_push_size _ rfl
  refine wpAny_bind (wpAny_holding (wpAny_call_entry slot_list_sort ⟨_, oL, rfl⟩ entry_list_sort (list_sort_treeK strKind_oneLt (s := { t1 with heap := t1.heap.push (seqObj "list" vs.toArray 0) }) oL are.keysOf (fun v1 v2 rest e => keyKind_strs (by rw [← e]; exact are)) (by rw [lv]; exact small)
    fun st' hp hs => ⟨_, rfl, ?_⟩) (args_list_sort _)))
  obtain ⟨ys, q1, q2, q3⟩ := sorted_out_str are hp hs
  obtain ⟨c, hc⟩ := sortedHeap_at (vs := vs) (out := (arrOf st').map (·.2)) oL
  have py := q2.trans px
  refine wpAny_pure ⟨_, rfl, out _ t1.heap.objs.size _ c ys (fun b u e => ?_) g1 o1 z1 hc q1 q3 (py.nodup_iff.mpr W.nd) (fun y => py.mem_iff.trans (W.mm y).symm) (by rw [py.length_eq, List.length_map, Array.length_toList]; exact W.num)⟩
  have q := k1 b u e
  have lb := Heap.lt_size q
  show (sortedHeap (t1.heap.push (seqObj "list" vs.toArray 0)) t1.heap.objs.size vs _).get? b = some u
  rw [sortedHeap_old (Nat.ne_of_lt lb) (by rw [size_push']; exact Nat.lt_succ_of_lt lb)]
  exact Heap.get?_push_of_some _ q
end
section
variable {X : Cx}
/-- the set of the texts xs at a -/
def SetX (wo : World) (a : Addr) (xs : List Str) : HO := .ext fun h => SetT wo h a (fun y => decide (y ∈ xs)) (many xs)
theorem setX_get {pins : List (Addr × Obj)} {σ : L2.St} {H : Hp} {s : Shared} {a : Addr} {xs : List Str} (I : Inv X pins σ H s) (g : H a = some (SetX X.w a xs)) : SetT X.w s.heap a (fun y => decide (y ∈ xs)) (many xs) := (I.hok a _ g).1
/-- set(xs), xs a list or a tuple of texts -/
def rSetX (K : PySem.W.Frag) (wo : World) : List V → Hp → VK → Prop := fun vs H Q => ∃ (l : Addr) (xs : List Str), vs = [.ref l] ∧ (SqL K H l (xs.map V.str) ∨ SqT K H l (xs.map V.str)) ∧ xs.length ≤ 1000 ∧ ∀ p, H p = none → Q (.ref p) (upd H p (SetX wo p xs))
theorem cr_setX (hc : X.calm = true) : CallR X (.type "set") (rSetX X.K X.w) := by
  intro pins s σ H vs us Q I r h
  obtain ⟨l, xs, rfl, at_, few, q⟩ := h
  rw [Vals.ref1 r]
  have room : xs.length + 1 < scanBound := Nat.lt_of_le_of_lt (Nat.succ_le_succ few) (by decide)
  have look : ∃ its : Array Value, Vals (xs.map V.str) its.toList ∧ (s.heap.IsList l its ∨ s.heap.IsTuple l its) := by
    rcases at_ with z | z
    · obtain ⟨its, rv, pl, _⟩ := I.list z
      exact ⟨its.toArray, rv, .inl pl.isList⟩
    · obtain ⟨its, rv, pl, _⟩ := I.tuple z
      exact ⟨its.toArray, rv, .inr pl⟩
  obtain ⟨its, rv, pl⟩ := look
  refine call_set xs (I.ok.hd hc) pl rv.strs room fun h2 tk R k => ?_
  refine ⟨.ref _, upd H s.heap.objs.size (SetX X.w s.heap.objs.size xs), I.laid (t' := tk) k (Nat.le_refl _) ⟨R, ?_, fun h3 h4 p k2 => SetT.mv p k2⟩, rfl, q _ (I.hok.fresh (Nat.le_refl _))⟩
  have ⟨o, _, _, _, g, _⟩ := R
  exact ⟨o, g⟩
/-- len of a set of texts -/
def rLenX (wo : World) : List V → Hp → VK → Prop := fun vs H Q => ∃ (a : Addr) (xs : List Str), vs = [.ref a] ∧ H a = some (SetX wo a xs) ∧ Q (.int ((many xs : Nat) : Int)) H
theorem cr_lenX : CallR X (.builtin "len") (rLenX X.w) := by
  intro pins s σ H vs us Q I r h
  obtain ⟨a, xs, rfl, g, q⟩ := h
  obtain ⟨o, es, ep, t, go, ex, d, W⟩ := setX_get I g
  rw [Vals.ref1 r]
  have low : es.size < 2 ^ 24 := Nat.lt_of_lt_of_le W.few (by decide)
  refine call_len_set go ex d W.fit (by omega) ?_
  rw [W.num]
  exact ⟨.int ((many xs : Nat) : Int), H, I.tok _, ⟨_, rfl⟩, q⟩
/-- sorted of a set of fewer than 64 texts -/
def rSrtX (wo : World) : List V → Hp → VK → Prop := fun vs H Q => ∃ (a : Addr) (xs : List Str), vs = [.ref a] ∧ H a = some (SetX wo a xs) ∧ xs.length < 64 ∧
  ∀ (ys : List Str) (p : Addr), sortedS ys = true → ys.Nodup → (∀ y, y ∈ ys ↔ y ∈ xs) → H p = none → Q (.ref p) (upd H p (.lst (ys.map V.str)))
theorem cr_srtX (hc : X.calm = true) : CallR X (.builtin "sorted") (rSrtX X.w) := by
  intro pins s σ H vs us Q I r h
  obtain ⟨a, xs, rfl, ga, few, q⟩ := h
  rw [Vals.ref1 r]
  have low := many_le xs
  refine sorted_tx (setX_get I ga) (I.ok.hd hc) (by omega) fun t p arr c ys k g o lp gp are srt nd mm len => ?_
  have fits : (ys.map V.str).length ≤ sizeLine := by rw [List.length_map, len, sizeLine_eq]; omega
  have new : H p = none := I.hok.fresh lp
  have J : Inv X pins σ (upd H p (.lst (ys.map V.str))) { s with heap := t.heap, gens := t.gens, drawn := t.drawn, toks := t.toks } :=
    I.call (ch := []) (Un.laid k lp new) (I.hok.laid k lp ⟨fits, arr.toList, c, vals_of_strs are, gp⟩) (by rw [g]; exact I.bare) nofun
  have same : t = { s with heap := t.heap, gens := t.gens, drawn := t.drawn, toks := t.toks } := by
    obtain ⟨_, _, _, _, _⟩ := t
    subst o
    rfl
  rw [same]
  exact ⟨.ref p, _, J, rfl, q ys p srt nd (fun y => (mm y).trans decide_eq_true_iff) new⟩
end
end NU

set_option Elab.async false
set_option linter.all false
set_option maxRecDepth 100000
set_option maxHeartbeats 4000000
/-! Defs that raise where nothing is handled, said with the context None: what they ask; the weaker promise. -/
namespace NN
open PySem PySem.Spec PyProof.Rows L2
section
variable {P : Program} {w : World} {K : PySem.W.Frag} {mg : Str → Option Value} {base : Heap} {k : Nat} {f : Addr} {fd : FuncData} {ps : List Str} {sp : Sp}
theorem cx_less {outer : List Env} {H : Hp} {s s' : Shared} {E : XK} {u : Value} (h : L2N.CX P w outer H s E u s') : L2.CX P w outer H s E u s' :=
  have ⟨a, B, H2, cls, d, e, fl, r⟩ := h
  ⟨a, B, H2, cls, d, e, L2H.flyingZ_imp (fun _ z => z.zc) fl, r⟩
theorem cr_less {outer : List Env} {H : Hp} {s s' : Shared} {Q : VK} {E : XK} {r : Result} (h : CR (L2N.CX P w) outer P w H s Q E r s') : CR (L2.CX P w) outer P w H s Q E r s' := by
  cases r with
  | error e => exact cx_less h
  | ok fl => cases fl <;> exact h
theorem fnOk_less (F : FnOk P w K mg base (L2N.CX P w) k f fd ps sp) : FnOk P w K mg base (L2.CX P w) k f fd ps sp :=
  ⟨F.len, fun A outer s H args us vs Q E hr e0 hb r h => codeAny_mono (F.run A outer s H args us vs Q E hr e0 hb r h) fun _ _ q => cr_less q⟩
theorem fnR_less (F : FnR P w K mg base (L2N.CX P w) k f sp) : FnR P w K mg base (L2.CX P w) k f sp :=
  fun A outer s H us vs Q E hr e0 r h => codeAny_mono (F A outer s H us vs Q E hr e0 r h) fun _ _ q => cr_less q
theorem upN : StX.CXUp (L2N.CX P w) := by
  intro outer s H s2 H2 E e s' un kp ho h
  obtain ⟨a, B, H3, cls, d, ea, fl, hok, ub, na, os, ag, he⟩ := h
  refine ⟨a, B, H3, cls, d, ea, fl, hok, { keep := fun b o q n hb => ?_, slot := fun b o q hb => ub.slot b o (kp b o q) hb, free := fun b o q n => ?_, there := fun b o q hb => ub.there b o (kp b o q) hb, tups := fun b xs q => ub.tups b xs (un.tups b xs q), frzs := fun b o xs q => ub.frzs b o xs (un.frzs b o xs q), tbls := fun b ts q => ?_ }, na, os.trans ho, ag, he⟩
  · exact ub.keep b o (kp b o q) (un.free b o q n (by simp)) hb
  · exact ub.free b o (kp b o q) (un.free b o q n (by simp))
  · obtain ⟨m1, e1⟩ := un.tbls b ts q
    obtain ⟨m2, e2⟩ := ub.tbls b _ e1
    exact ⟨m1 ++ m2, e2.trans (by rw [Array.append_assoc])⟩
/-- a def of the text that may raise, its exceptions with the context None -/
theorem okN {x qual : Str} {st : Stmt} {N : List Str} (F : Fun K x qual st f fd) (S : FnScope N ps (defScope st)) (len : ∀ vs H Q E, sp vs H Q E → vs.length = ps.length)
    (run : ∀ (cdv : Value) (A : Around) (outer : List Env) (s : Shared) (H : Hp) (vs : List V) (Q : VK) (E : XK), Room k (A.deeper (envOfC qual (defScope st) s.heap.objs.size f cdv)) → sp vs H Q E →
      ∃ t, PSs (cxOf (L2N.CX P w) P w K mg base N qual (defScope st) f cdv A outer s H E) (defBody st) t ∧ t { nx := fun _ H2 => Q .non H2, rt := Q } (start N vs) H) : FnOk P w K mg base (L2N.CX P w) (k + 1) f fd ps sp := by
  obtain ⟨oc, od, kV, doc, pm, an, cdv, ct, osl, e, lk, cd⟩ := F.ex
  subst e
  exact fn_of lk cd S len fun A outer s H vs Q E hr h => run cdv A outer s H vs Q E hr h
end
theorem passN {X : Cx} {E : XK} (tk : L2N.Takes X (fun cls d _ H => E cls d H)) : Passes (L2N.CX X.prog X.w) X E := fun pins σ H s e s' I h => L2N.passAt tk σ pins H s e s' I h
section
variable {X : Cx} {CX : CXT} {x : Str} {e : Expr} {es : List Expr} {ta : TA} {p pos : Pos} {C fI : Addr} {k : Nat} {fd : FuncData} {ps : List Str} {sp : Sp}
/-- C(e, ..), an exception class of ours with an __init__, where nothing is handled: made with the context None -/
theorem pmkN (T : OexC X.K C) (iC : PySem.W.findIn X.K (.ref C) "__init__" = some (some (.ref fI))) (tI : PySem.W.typeIn X.K (.ref fI) = some (.type "function"))
    (F1 : FnOk X.prog X.w X.K X.mg X.base CX k fI fd ps sp) (hr : Room (k + 1) X.A) (hb : Binds X.K fd ps []) (hx : Passes CX X (fun _ _ _ => False)) (hg : Gl X x) (hm : X.mg x = some (.ref C)) (ha : PA X (e :: es) ta)
    (hdb : (x == ("__debug__" : Str)) = false := by decide) (he : starEach (e :: es) X.env = (false, eval e X.env) :: starEach es X.env := by rfl) (hpl : (backTo pos (starEach es X.env)).any (·.1) = false := by rfl) :
    L2N.PMk X (.Call (.Name x p) (e :: es) [] pos) (tMkO C sp [] ta) := by
  intro pins s σ H Q I h
  have tc := T.cls
  obtain ⟨nm, q, N, bs, bm, sn, sub, ab, col, dd, k0, k1, k2, k3, k5, hC, hbm⟩ := tc
  refine wpAny_Call_Name_kw (ld_glob I hg hm ?_ hdb)
  refine PySem.W.callWith_K (h₀ := X.base) I.ok.mod.kin T.kC (thn (ha.run pos pins s σ H _ I h) fun us s1 ⟨vs, H1, I1, r1, few, q1⟩ => ⟨I1.kIn, ?_⟩) he hpl
  show wpAny _ _ (call (.ref C) us) _ _ _
  obtain ⟨hp, g, dr, tk, os⟩ := s1
  have up : hp.objs.size ≤ hp.objs.size + 1 := Nat.le_succ _
  have new : H1 (hp.objs.size + 1) = none := I1.hok.fresh up
  have ask := q1 (hp.objs.size + 1) new
  rw [List.append_nil] at ask
  let hp2 : Heap := (hp.push (PySem.W.kdv_tup us)).push (PySem.HandSPX.excO C hp.objs.size)
  have keeps : ∀ b o, hp.get? b = some o → hp2.get? b = some o := fun b o z => Heap.get?_push_of_some _ (Heap.get?_push_of_some _ z)
  have at_ : hp2.get? (hp.objs.size + 1) = some (PySem.HandSPX.excO C hp.objs.size) := by
    show ((hp.push (PySem.W.kdv_tup us)).push (PySem.HandSPX.excO C hp.objs.size)).get? (hp.objs.size + 1) = _
    heap_get
  have I2 : Inv X pins σ (upd H1 (hp.objs.size + 1) (exo (hp.objs.size + 1) C none)) ⟨hp2, g, dr, tk, os⟩ := I1.laid (t' := tk) (a := hp.objs.size + 1) (o := exo (hp.objs.size + 1) C none) (h' := hp2) keeps up (exo_ok at_)
  have r2 : Vals (V.ref (hp.objs.size + 1) :: vs) (Value.ref (hp.objs.size + 1) :: us) := .cons rfl r1
  have len : (Value.ref (hp.objs.size + 1) :: us ++ []).length = ps.length := by
    rw [List.append_nil]
    exact r2.length.symm.trans (F1.len _ _ _ _ ask)
  have low : us.length ≤ sizeLine := by
    rw [← Paired.length r1, sizeLine_eq]
    omega
  have bd := hb _ (Value.ref (hp.objs.size + 1) :: us) I2.kIn len
  rw [List.append_nil] at bd
  refine wpAny_call (PySem.HandSPX.call_own F.excBase_ValueError (fun Y => PySem.HandSPX.refsVE_contains Y bm hbm) (I1.kIn _ _ hC) (PySem.W.looks_findIn I1.kIn iC) (fun self => PySem.W.bind_fn I1.kIn self tI) low
    (codeAny_mono (F1.run _ X.stack _ _ ⟨Value.ref (hp.objs.size + 1) :: us, []⟩ _ _ _ (fun _ _ _ => False) (hr.make C us []) (I2.env0.make C us []) bd r2 ask) fun r s2 z => ?_))
  cases r with
  | error er => exact hx pins σ _ _ er s2 I2 z
  | ok fl =>
    cases fl with
    | ret u =>
      obtain ⟨v, H2, os2, bare2, un2, hok2, rv, ev, d, fs, ea, ed, hd1, q2⟩ := z
      subst ev
      obtain ⟨h2, g2, d2, t2, os3⟩ := s2
      obtain ⟨t0, G, J, kG, ge, hoe, na⟩ := mk_end0 (d2 := d2) (t2 := t2) I1 up keeps un2 hok2 os2 bare2 ea ed hd1
      refine ⟨rv, hp.objs.size + 1, _, _, ⟨G, g2, d2, t2, os3⟩, _, .ref C, some d, rfl, J, kG, ge, hoe, ⟨rfl, rfl, fun ws hv => ?_⟩, rfl, rfl, na, rfl, bare2, raises_own T.exC T.tyC, q2⟩
      cases hv
      rfl
    | next => exact z.elim
    | brk => exact z.elim
    | cont => exact z.elim
end
end NN

set_option Elab.async false
set_option linter.all false
set_option maxRecDepth 100000
set_option maxHeartbeats 4000000
/-! xs.count(x) of a list of flat values. -/
namespace NC
open PySem PySem.Spec PyProof.Rows L2
/-- is the value equal to x -/
def like (x : V) (u : Value) : Bool := match absV u with
  | some y => eqV y x
  | none => false
theorem abs_flat {y : V} {u : Value} (r : RelV y u) (f : flatV y = true) : absV u = some y := by
  cases y with
  | non => cases r; rfl
  | bl b => cases r; rfl
  | int i => obtain ⟨t, rfl⟩ := r; rfl
  | str s => obtain ⟨t, rfl⟩ := r; rfl
  | _ => cases f
theorem like_at {x y : V} {u : Value} (r : RelV y u) (f : flatV y = true) : like x u = eqV y x := by
  unfold like
  rw [abs_flat r f]
theorem vals_has : ∀ {ys : List V} {us : List Value}, Vals ys us → ∀ {u : Value}, u ∈ us → ∃ y ∈ ys, RelV y u
  | _, _, .nil, _, h => by cases h
  | _, _, .cons r t, u, h => by
    rcases List.mem_cons.mp h with e | e
    · exact ⟨_, List.mem_cons_self, e ▸ r⟩
    · obtain ⟨y, hy, q⟩ := vals_has t e
      exact ⟨y, List.mem_cons_of_mem _ hy, q⟩
theorem like_count {x : V} : ∀ {ys : List V} {us : List Value}, Vals ys us → ys.all flatV = true → us.countP (like x) = ys.countP fun y => eqV y x
  | _, _, .nil, _ => rfl
  | _, _, .cons r t, f => by
    rw [List.all_cons, Bool.and_eq_true] at f
    rw [List.countP_cons, List.countP_cons, like_count t f.2, like_at r f.1]
def rCnt (K : PySem.W.Frag) : V → List V → Hp → VK → Prop := fun o xs H Q => ∃ (p : Addr) (ys : List V) (x : V), o = .ref p ∧ xs = [x] ∧ SqL K H p ys ∧ ys.all flatV = true ∧ flatV x = true ∧ Q (.int ((ys.countP fun y => eqV y x : Nat) : Int)) H
section
variable {X : Cx}
theorem mt_cnt : MtR X "list.count" (rCnt X.K) := by
  intro pins s σ H o xs v us Q I ro rxs h
  obtain ⟨p, ys, x, rfl, rfl, at_, fl, fx, q⟩ := h
  cases ro
  obtain ⟨u, rfl, ru⟩ := rxs.one
  obtain ⟨its, rv, ⟨⟨cls, dd, data, sl⟩, n, ho, hc, hdn, hd⟩, low⟩ := I.list at_
  simp only at hc hd
  subst hc hd
  have each : ∀ (A : Around) (t : Shared), ∀ y ∈ its, SeqAt.EqAt A t y u (like x y) := fun A t y hy => by
    obtain ⟨z, hz, rz⟩ := vals_has rv hy
    have fz := List.all_eq_true.mp fl z hz
    rw [like_at rz fz]
    exact eqAt_V rz ru fz fx
  refine call_meets PySem.F.slot_list_count ⟨_, ho, rfl⟩ PySem.F.entry_list_count (PySem.F.args_list_count_2 _ _)
    (SeqAt.list_countAt p its.toArray n dd sl u (like x)) ⟨ho, fun y hy => each _ _ y (by simpa using hy), ?_⟩
  refine ⟨.int ((ys.countP fun y => eqV y x : Nat) : Int), H, I.tok _, ⟨s.toks, ?_⟩, q⟩
  show Value.int ((its.toArray.toList.countP (like x) : Nat) : Int) s.toks = _
  rw [show its.toArray.toList = its from rfl, like_count rv fl]
end
end NC

set_option Elab.async false
set_option linter.all false
set_option maxRecDepth 100000
set_option maxHeartbeats 4000000
/-! A def's promise where no repr is under way, and the call of such a def. -/
namespace NX
open PySem PySem.Spec PyProof.Rows L2
structure FnG (P : Program) (w : World) (K : PySem.W.Frag) (mg : Str → Option Value) (base : Heap) (k : Nat) (f : Addr) (fd : FuncData) (ps : List Str) (sp : Sp) : Prop where
  len : ∀ vs H Q E, sp vs H Q E → vs.length = ps.length
  run : ∀ (A : Around) (st : List Env) (s : Shared) (H : Hp) (args : Args) (us : List Value) (vs : List V) (Q : VK), A.guards = some [] → Room k A → Env0 P w K mg base A st s H → BindsTo s fd args (ps.zip us) → Vals vs us → sp vs H Q C8.E0 →
    codeAny (model P w) A (.call (.ref f) args) (CR C8.CX0 st P w H s Q C8.E0) s
section
variable {X : Cx} {k j : Nat} {f : Addr} {fd : FuncData} {ps : List Str} {sp : Sp} {x : Str} {p pos : Pos} {e : Expr} {es : List Expr} {t : TA}
theorem pe_callG (F : FnG X.prog X.w X.K X.mg X.base k f fd ps sp) (gd : X.A.guards = some []) (hr : Room j X.A) (hj : k ≤ j) (hg : Gl X x) (hm : X.mg x = some (.ref f)) (hk : PySem.W.keepIn X.K (.ref f) = true) (hb : Binds X.K fd ps []) (ha : PA X (e :: es) t)
    (hd : (x == ("__debug__" : Str)) = false := by decide) (he : starEach (e :: es) X.env = (false, eval e X.env) :: starEach es X.env := by rfl) (hpl : (backTo pos (starEach es X.env)).any (·.1) = false := by rfl) :
    PE X (.Call (.Name x p) (e :: es) [] pos) (tCall sp [] C8.E0 t) := by
  refine ⟨fun pins s σ H Q I h => wpAny_Call_Name_kw (ld_glob I hg hm ?_ hd)⟩
  refine PySem.W.callWith_K (h₀ := X.base) I.ok.mod.kin hk (thn (ha.run pos pins s σ H _ I h) fun us s1 ⟨vs, H1, I1, rv, q⟩ => ⟨I1.kIn, ?_⟩) he hpl
  have q : sp vs H1 Q C8.E0 := by simpa using q
  have hl : us.length = ps.length := by rw [← F.len _ _ _ _ q, rv.length]
  have bt := hb s1 us I1.kIn (by simpa using hl)
  refine wpAny_call (codeAny_mono (F.run X.A X.stack s1 H1 ⟨us, []⟩ us vs Q gd (hr.mono hj) I1.env0 (by simpa using bt) rv q) fun r s' hq => ?_)
  cases r with
  | error er => exact False.elim (show False from hq)
  | ok fl =>
    cases fl with
    | ret w => exact I1.after hq
    | next => exact False.elim hq
    | brk => exact False.elim hq
    | cont => exact False.elim hq
end
end NX

set_option Elab.async false
set_option linter.all false
set_option maxRecDepth 100000
set_option maxHeartbeats 4000000
/-! The end of a row whose law wants an empty guard (FnG), in my own words. -/
namespace NX
open PySem PySem.Spec PyProof.Rows L2 LamX
section
variable {P : Program} {w : World} {K : PySem.W.Frag} {mg mb : Str → Option Value} {k : Nat} {fa a : Addr} {cs : List (Addr × Addr)} {fd : FuncData} {x : Str} {sp : Sp} {z : Shared} {vs : List Value} {ns : List Int}
/-- what is tracked at first: the empty tables, and the script where it is not written -/
def trackd (K : PySem.W.Frag) (cs : List (Addr × Addr)) (a : Addr) (vs : List Value) (ns : List Int) : Hp := fun b =>
  if b ∈ cs.map (·.2) then some (.tbl #[]) else if b = a ∧ K.lookup a = none then some (.frz { cls := .type "list", data := .seq vs.toArray } (.lst (ns.map V.int))) else none
/-- the heap of the call, as the tracked one sees it -/
structure Start (P : Program) (w : World) (K : PySem.W.Frag) (cs : List (Addr × Addr)) (a : Addr) (vs : List Value) (ns : List Int) (z : Shared) : Prop where
  KX : K.In z.heap
  hT : ∀ p ∈ cs, z.heap.get? p.2 = some { cls := .none, data := .fields #[] }
  nT : ∀ p ∈ cs, K.lookup p.2 = none
  ha : z.heap.get? a = some { cls := .type "list", data := .seq vs.toArray }
  hi : IntsAre vs ns
  hl : ns.length ≤ sizeLine
theorem Start.tab (S : Start P w K cs a vs ns z) {b : Addr} (h : b ∈ cs.map (·.2)) : z.heap.get? b = some { cls := .none, data := .fields #[] } ∧ K.lookup b = none := by
  obtain ⟨p, hp, rfl⟩ := List.mem_map.mp h
  exact ⟨S.hT p hp, S.nT p hp⟩
theorem Start.ne (S : Start P w K cs a vs ns z) : a ∉ cs.map (·.2) := fun h => by
  have q := (S.tab h).1
  rw [S.ha] at q
  injection q with q
  injection q with q1 q2 q3
  cases q3
theorem Start.at_tab (S : Start P w K cs a vs ns z) : ∀ p ∈ cs, trackd K cs a vs ns p.2 = some (.tbl #[]) := fun p hp => if_pos (List.mem_map.mpr ⟨p, hp, rfl⟩)
theorem Start.sq (S : Start P w K cs a vs ns z) : SqL K (trackd K cs a vs ns) a (ns.map V.int) := by
  cases hk : K.lookup a with
  | none => exact .inl (.inr ⟨_, (if_neg S.ne).trans (if_pos ⟨rfl, hk⟩)⟩)
  | some o =>
    have e := S.KX a o hk
    rw [S.ha] at e
    cases e
    exact .inr ⟨_, vs.toArray, _, hk, rfl, rfl, rfl, by rw [List.size_toArray, S.hi.length]; exact S.hl, by simpa using vals_ints S.hi⟩
/-- a tracked place is a table, or the script -/
theorem Start.cases (S : Start P w K cs a vs ns z) {b : Addr} {u : HO} (h : trackd K cs a vs ns b = some u) : (b ∈ cs.map (·.2) ∧ u = .tbl #[]) ∨ (b = a ∧ K.lookup a = none ∧ u = .frz { cls := .type "list", data := .seq vs.toArray } (.lst (ns.map V.int))) := by
  unfold trackd at h
  split at h
  · rename_i hb
    exact .inl ⟨hb, (Option.some.inj h).symm⟩
  · split at h
    · rename_i hb
      exact .inr ⟨hb.1, hb.2, (Option.some.inj h).symm⟩
    · cases h
theorem Start.ok (S : Start P w K cs a vs ns z) : HOk P w (trackd K cs a vs ns) z.heap := fun b u h => by
  rcases S.cases h with ⟨hb, rfl⟩ | ⟨rfl, _, rfl⟩
  · exact (S.tab hb).1
  · exact ⟨S.ha, by rw [List.length_map]; exact S.hl, vs, _, vals_ints S.hi, S.ha⟩
/-- what is neither a list nor an empty row of fields is not tracked -/
theorem Start.off (S : Start P w K cs a vs ns z) {b : Addr} {o : Obj} (e : z.heap.get? b = some o) (h1 : ∀ us n, o.data ≠ .seq us n) (h2 : o.data ≠ .fields #[]) : trackd K cs a vs ns b = none := by
  cases q : trackd K cs a vs ns b with
  | none => rfl
  | some u =>
    rcases S.cases q with ⟨hb, _⟩ | ⟨rfl, _, _⟩
    · rw [(S.tab hb).1] at e
      cases e
      exact (h2 rfl).elim
    · rw [S.ha] at e
      cases e
      exact (h1 _ _ rfl).elim
theorem Start.kin (S : Start P w K cs a vs ns z) : K.In (hidT z.heap (trackd K cs a vs ns)) := fun b o e => hidT_get (S.KX b o e) (by
  cases q : trackd K cs a vs ns b with
  | none => rfl
  | some u =>
    rcases S.cases q with ⟨hb, _⟩ | ⟨rfl, hk, _⟩
    · rw [(S.tab hb).2] at e
      cases e
    · rw [hk] at e
      cases e)
theorem Start.ns_ (S : Start P w K cs a vs ns z) {b : Addr} {m : Str → Option Value} (h : z.heap.Ns b m) : (hidT z.heap (trackd K cs a vs ns)).Ns b m := by
  obtain ⟨o, es, ep, e, d, r⟩ := h
  exact ⟨o, es, ep, hidT_get e (S.off e (fun us n q => by rw [d] at q; cases q) (fun q => by rw [d] at q; cases q)), d, r⟩
theorem Start.mod (S : Start P w K cs a vs ns z) (hg : z.heap.Ns mainGlobals mg) (hb : z.heap.Ns builtinsNs mb) (hbb : ∀ y : Str, y ≠ "__name__" → mb y = bootBuiltins y) (lim : z.heap.NoLimit) : L2.Mod K mg (hidT z.heap (trackd K cs a vs ns)) :=
  ⟨S.kin, S.ns_ hg, ⟨mb, S.ns_ hb, hbb⟩, by obtain ⟨mc, h1, h2⟩ := lim; exact ⟨mc, S.ns_ h1, h2⟩⟩
theorem Start.tabB (S : Start P w K cs a vs ns z) (hg : z.heap.Ns mainGlobals mg) (C : ∀ p ∈ cs, PySem.W.CodeHd z.heap p.1 p.2)
    (hm : ∃ (bm : Addr) (ob : Obj), mg "__builtins__" = some (.ref bm) ∧ bm ≠ builtinsNs ∧ z.heap.get? bm = some ob ∧ ob.cls = .type "module" ∧ ob.dict = some builtinsNs ∧ ob.data = .plain) : ∀ p ∈ cs, TabB (hidT z.heap (trackd K cs a vs ns)) mg p.1 p.2 := fun p hp => by
  have tp := S.hT p hp
  have gne : ∀ {b : Addr} {o : Obj}, z.heap.get? b = some o → (∀ es ep, o.data ≠ .dict es ep) → b ≠ mainGlobals := fun {b o} e d q => by
    obtain ⟨og, es, ep, eg, dg, _⟩ := hg
    rw [q, eg] at e
    cases e
    exact d es ep dg
  refine ⟨?_, ?_, fun q => gne tp (by intro es ep h; cases h) q.symm⟩
  · obtain ⟨o, us, file, tf, flags, tg, inF, text, tt, e1, r⟩ := C p hp
    refine ⟨o, us, file, tf, flags, tg, inF, text, tt, hidT_get e1 (S.off e1 (fun vs n q => ?_) fun q => ?_), r⟩
    · rw [r.2.1] at q
      cases q
    · rw [r.2.1] at q
      cases q
      have q2 := r.2.2.1
      simp at q2
  · obtain ⟨bm, ob, b1, b2, b3, b4, b5, b6⟩ := hm
    refine ⟨bm, ob, b1, b2, gne b3 (by intro es ep h; rw [b6] at h; cases h), fun q => ?_, hidT_get b3 (S.off b3 (fun vs n q => by rw [b6] at q; cases q) (fun q => by rw [b6] at q; cases q)), b4, b5, b6⟩
    rw [q, tp] at b3
    cases b3
    cases b6
theorem Start.env (S : Start P w K cs a vs ns z) (hg : z.heap.Ns mainGlobals mg) (hb : z.heap.Ns builtinsNs mb) (hbb : ∀ y : Str, y ≠ "__name__" → mb y = bootBuiltins y) (lim : z.heap.NoLimit) (gs : z.gens = #[]) : Env0 P w K mg (hidT z.heap (trackd K cs a vs ns)) callerA [] z (trackd K cs a vs ns) :=
  ⟨rfl, S.mod hg hb hbb lim, fun b o e => of_hidT e, Nat.le_of_eq (hidT_size _ _), trivial, fun b q => absurd (show b ∈ ([] : List Addr) from q) (by simp), S.ok, .of_eq gs⟩
theorem Start.sys (S : Start P w K cs a vs ns z) (h : SysB z.heap) : SysB (hidT z.heap (trackd K cs a vs ns)) := by
  obtain ⟨o, es, ep, e, d⟩ := h
  exact ⟨o, es, ep, hidT_get e (S.off e (fun us n q => by rw [d] at q; cases q) (fun q => by rw [d] at q; cases q)), d⟩
/-- the call of the law: it tells True, and what stood stands -/
theorem endG (S : Start P w K cs a vs ns z) (hg : z.heap.Ns mainGlobals mg) (hb : z.heap.Ns builtinsNs mb) (hbb : ∀ y : Str, y ≠ "__name__" → mb y = bootBuiltins y) (lim : z.heap.NoLimit) (gs : z.gens = #[]) (C : ∀ p ∈ cs, PySem.W.CodeHd z.heap p.1 p.2)
    (hm : ∃ (bm : Addr) (ob : Obj), mg "__builtins__" = some (.ref bm) ∧ bm ≠ builtinsNs ∧ z.heap.get? bm = some ob ∧ ob.cls = .type "module" ∧ ob.dict = some builtinsNs ∧ ob.data = .plain) (hr : Room k callerA) (hs : SysB z.heap)
    (F : ∀ base : Heap, K.In base → base.Ns mainGlobals mg → (∀ p ∈ cs, TabB base mg p.1 p.2) → SysB base → FnG P w K mg base k fa fd [x] sp) (bind : ∀ (t : Shared) (u : Value), BindsTo t fd ⟨[u], []⟩ [(x, u)])
    (ask : ∀ H : Hp, (∀ p ∈ cs, H p.2 = some (.tbl #[])) → SqL K H a (ns.map V.int) → sp [.ref a] H (fun v _ => v = .bl true) C8.E0) :
    codeAny (model P w) callerA (.call (.ref fa) ⟨[.ref a], []⟩) (fun r t => r = .ok (.ret (.bool true)) ∧ OldK z.heap t.heap ∧ t.os = z.os ∧ AllBare t.gens) z := by
  refine codeAny_mono ((F _ S.kin (S.ns_ hg) (S.tabB hg C hm) (S.sys hs)).run callerA [] z _ ⟨[.ref a], []⟩ [.ref a] [.ref a] _ rfl hr (S.env hg hb hbb lim gs) (bind z (.ref a)) (.cons rfl .nil) (ask _ S.at_tab S.sq)) fun r t h => ?_
  cases r with
  | error e => exact False.elim (show False from h)
  | ok fl =>
    cases fl with
    | next => exact False.elim h
    | brk => exact False.elim h
    | cont => exact False.elim h
    | ret u =>
      obtain ⟨v, H', os, bare, un, ok', ru, q⟩ := h
      have q : v = .bl true := q
      subst q
      obtain rfl : u = Value.bool true := ru
      have kept : ∀ b o, b ∉ cs.map (·.2) → z.heap.get? b = some o → t.heap.get? b = some o := fun b o nb e => by
        cases y : trackd K cs a vs ns b with
        | none => exact un.keep b o e y (by intro n; exact absurd (show b ∈ ([] : List Addr) from n) (by simp)) (by simp)
        | some u =>
          rcases S.cases y with ⟨hb, _⟩ | ⟨rfl, _, rfl⟩
          · exact absurd hb nb
          · obtain ⟨e2, _⟩ := ok' _ _ (un.frzs _ _ _ y)
            rw [S.ha] at e
            cases e
            exact e2
      have grow : ∀ p ∈ cs, ∃ more : Array Value, t.heap.get? p.2 = some { cls := .none, data := .fields more } := fun p hp => by
        obtain ⟨more, y⟩ := un.tbls p.2 #[] (S.at_tab p hp)
        exact ⟨_, ok' p.2 _ y⟩
      refine ⟨rfl, ⟨fun b o e => ?_, fun b o e => ?_⟩, os, bare⟩
      · by_cases hb : b ∈ cs.map (·.2)
        · obtain ⟨p, hp, rfl⟩ := List.mem_map.mp hb
          obtain ⟨more, hmo⟩ := grow p hp
          rw [S.hT p hp] at e
          cases e
          exact .inr (.inl ⟨((C p hp).tab (S.hT p hp)).isCodeTable, rfl, #[], more, rfl, by rw [Array.empty_append]; exact hmo⟩)
        · exact .inl (kept b o hb e)
      · by_cases hb : b ∈ cs.map (·.2)
        · obtain ⟨p, hp, rfl⟩ := List.mem_map.mp hb
          obtain ⟨more, hmo⟩ := grow p hp
          exact ⟨_, hmo⟩
        · exact ⟨o, kept b o hb e⟩
end
/-- what the head has to tell of the law at fa -/
structure LawG (l : PySem.W.OpenLaw) (w : World) (K : PySem.W.Frag) (k n : Nat) (x : Str) (mg : Str → Option Value) (fa : Addr) (h : Heap) (fd : FuncData) (cs : List (Addr × Addr)) (sp : Sp) : Prop where
  hT : ∀ p ∈ cs, h.get? p.2 = some { cls := .none, data := .fields #[] }
  nT : ∀ p ∈ cs, K.lookup p.2 = none
  C : ∀ p ∈ cs, PySem.W.CodeHd h p.1 p.2
  bind : ∀ (t : Shared) (u : Value), BindsTo t fd ⟨[u], []⟩ [(x, u)]
  ask : ∀ (H : Hp) (a : Addr) (ns : List Int), ns.length ≤ n → (∀ p ∈ cs, H p.2 = some (.tbl #[])) → SqL K H a (ns.map V.int) → sp [.ref a] H (fun v _ => v = .bl true) C8.E0
  F : ∀ base : Heap, K.In base → base.Ns mainGlobals mg → (∀ p ∈ cs, TabB base mg p.1 p.2) → SysB base → FnG l.prog w K mg base k fa fd [x] sp
theorem walkG {l : PySem.W.OpenLaw} {n k : Nat} {q : Program} {loose : List Str} {XP : (Str → Option Value) → Heap → Prop} {YP : World → Heap → Prop} {d : DefRec} {K : Params → PySem.W.Frag} {x : Str} (hn : l.most = some n) (hn2 : n ≤ sizeLine) (hdf : d.params.defaults = []) (hr : Room k callerA) (hi : importsNone q = true)
    (hY : ∀ (w : World) (h : Heap), YP w h → (K w.params).In h) (G : ∀ (w : World) (mg : Str → Option Value) (fa : Addr) (h : Heap), YP w h → (K w.params).In h → h.Ns mainGlobals mg → mg d.name = some (.ref fa) → ∃ fd cs sp, LawG l w (K w.params) k n x mg fa h fd cs sp) :
    PySem.W.WalkO q loose XP YP l.row.toRowW d [] (fun f vs => PySem.call f vs) := by
  refine Att.attach_callB hn hdf fun w s₀ s₁ mg mb fa o pm cd doc a vs ns T Y ho hd hcd hmg hobj hints hlen hbits hgen => ?_
  have KX := hY w _ Y
  obtain ⟨fd, cs, sp, L⟩ := G w mg fa _ Y KX T.T.g hmg
  exact endG ⟨KX, L.hT, L.nT, hobj, hints, Nat.le_trans hlen hn2⟩ T.T.g T.T.b T.T.builtins T.T.nolimit hgen L.C T.T.bmain hr (by obtain ⟨mm, ⟨o, es, ep, e, d, _⟩, _⟩ := (T.T.seer hi).mods; exact ⟨o, es, ep, e, d⟩) L.F L.bind (fun H h1 h2 => L.ask H a ns hlen h1 h2)
end NX

set_option Elab.async false
set_option linter.all false
set_option maxRecDepth 100000
set_option maxHeartbeats 4000000
/-! The text that repr tells of made data of any kind; what is kept of data while objects are made and tables grow. -/
namespace NX
open PySem PySem.Spec PyProof.Rows L2 LamX
section
variable {X : Cx}
/-- repr(x), x any made data -/
def rReprD (K : PySem.W.Frag) : List V → Hp → VK → Prop := fun xs H Q => ∃ (v : V) (d : PyData), xs = [v] ∧ Dr K H v d ∧ d.showable = true ∧ d.depth ≤ 50 ∧ d.shown.length ≤ sizeLine ∧ (∀ i, d = .int i → i.natAbs.log2 < 1920) ∧ Q (.str d.shown) H
theorem call_reprD (hg : X.A.guards = some []) (hu : X.A.units + 64 < cLine) (S : SysB X.base) : CallR X (.builtin "repr") (rReprD X.K) := by
  intro pins s σ H xs us Q I r h
  obtain ⟨v, d, rfl, hd, hs, hdp, hl, hi, q⟩ := h
  cases hd with
  | non =>
    cases r with
    | cons r1 r2 =>
      cases r2
      cases r1
      exact PySem.P.repr_of_none ⟨.str _, H, I.tok _, ⟨_, rfl⟩, q⟩
  | bl b =>
    cases r with
    | cons r1 r2 =>
      cases r2
      cases r1
      exact PySem.P.repr_of_bool ⟨.str _, H, I.tok _, ⟨_, rfl⟩, q⟩
  | int i =>
    cases r with
    | cons r1 r2 =>
      cases r2
      obtain ⟨t, rfl⟩ := r1
      exact PySem.P.repr_of_int (hi i rfl) ⟨.str _, H, I.tok _, ⟨_, rfl⟩, q⟩
  | str x =>
    cases r with
    | cons r1 r2 =>
      cases r2
      obtain ⟨t, rfl⟩ := r1
      exact PySem.P.repr_of_str ⟨.str _, H, I.tok _, ⟨_, rfl⟩, q⟩ hl
  | lst a b => exact call_repr hg hu S pins s σ H _ us Q I r ⟨_, _, rfl, .lst a b, hs, hdp, hl, q⟩
  | tup a b => exact call_repr hg hu S pins s σ H _ us Q I r ⟨_, _, rfl, .tup a b, hs, hdp, hl, q⟩
  | dct a b => exact call_repr hg hu S pins s σ H _ us Q I r ⟨_, _, rfl, .dct a b, hs, hdp, hl, q⟩
end
theorem seqL_keep {K : PySem.W.Frag} {H H' : Hp} {a : Addr} {xs : List V} (k : ∀ o, H a = some o → (∀ ps, o ≠ .tbl ps) → H' a = some o) (h : SqL K H a xs) : SqL K H' a xs := by
  rcases h with (h | ⟨o, h⟩) | h
  · exact .inl (.inl (k _ h (by intro p e; cases e)))
  · exact .inl (.inr ⟨o, k _ h (by intro p e; cases e)⟩)
  · exact .inr h
theorem seqT_keep {K : PySem.W.Frag} {H H' : Hp} {a : Addr} {xs : List V} (k : ∀ o, H a = some o → (∀ ps, o ≠ .tbl ps) → H' a = some o) (h : SqT K H a xs) : SqT K H' a xs := by
  rcases h with (h | ⟨o, h⟩) | h
  · exact .inl (.inl (k _ h (by intro p e; cases e)))
  · exact .inl (.inr ⟨o, k _ h (by intro p e; cases e)⟩)
  · exact .inr h
mutual
theorem Dr.extN {K : PySem.W.Frag} {H H' : Hp} (s : ExtN H H') : ∀ {v : V} {d : PyData}, Dr K H v d → Dr K H' v d
  | _, _, .non => .non
  | _, _, .bl b => .bl b
  | _, _, .int i => .int i
  | _, _, .str x => .str x
  | _, _, .lst a b => .lst (seqL_keep (s _) a) (DrAll.extN s b)
  | _, _, .tup a b => .tup (seqT_keep (s _) a) (DrAll.extN s b)
  | _, _, .dct a b => .dct (s _ _ a (by intro p e; cases e)) (DrAll.extN s b)
theorem DrAll.extN {K : PySem.W.Frag} {H H' : Hp} (s : ExtN H H') : ∀ {v : List V} {d : List PyData}, DrAll K H v d → DrAll K H' v d
  | _, _, .nil => .nil
  | _, _, .cons a b => .cons (Dr.extN s a) (DrAll.extN s b)
end
/-- data whose text is short -/
def SmD (K : PySem.W.Frag) (H : Hp) (v : V) (d : PyData) : Prop := Dr K H v d ∧ d.showable = true ∧ d.depth ≤ 3 ∧ d.shown.length ≤ 100000 ∧ ∀ i, d = .int i → i.natAbs.log2 < 1920
theorem SmD.ext {K : PySem.W.Frag} {H H' : Hp} {v : V} {d : PyData} (s : ExtN H H') (h : SmD K H v d) : SmD K H' v d := ⟨h.1.extN s, h.2⟩
theorem SmD.same {K : PySem.W.Frag} {H H' : Hp} {v : V} {d : PyData} (s : Same H H') (h : SmD K H v d) : SmD K H' v d := h.ext (ExtN.of s)
/-- what repr asks of it -/
theorem SmD.ask {K : PySem.W.Frag} {H : Hp} {v : V} {d : PyData} {Q : VK} (h : SmD K H v d) (q : Q (.str d.shown) H) : rReprD K [v] H Q :=
  ⟨v, d, rfl, h.1, h.2.1, Nat.le_trans h.2.2.1 (by decide), Nat.le_trans h.2.2.2.1 (by decide), h.2.2.2.2, q⟩
/-- a pair of a short word and such -/
theorem SmD.pair {K : PySem.W.Frag} {H : Hp} {v : V} {d : PyData} {z : Str} {a : Addr} {Q : VK} (h : SmD K H v d) (hz : z.length ≤ 100) (hc : z.cps.toList.all (fun c => decide (c < 1114112)) = true) (ha : H a = some (.tup [.str z, v])) (q : Q (.str (PyData.tuple [.str z, d]).shown) H) : rReprD K [.ref a] H Q := by
  obtain ⟨h1, h2, h3, h4, _⟩ := h
  have hr : (reprText z).length ≤ 10 * z.length + 2 := StrLaws.reprText_len z (by rw [List.all_eq_true] at hc; exact fun i hi => Nat.lt_trans (of_decide_eq_true (hc i hi)) (by decide))
  refine ⟨_, _, rfl, .tup (SqT.of ha) (.cons (.str z) (.cons h1 .nil)), ?_, ?_, ?_, (fun i e => by cases e), q⟩
  · have e : (PyData.tuple [.str z, d]).showable = ((PyData.str z).showable && (d.showable && true)) := rfl
    rw [e, h2]
    rfl
  · have e : (PyData.tuple [.str z, d]).depth = max 0 (max d.depth 0) + 1 := rfl
    rw [e]
    omega
  · show (Str.ofString "(" ++ (reprText z ++ Str.ofString ", " ++ d.shown) ++ Str.ofString ")").length ≤ sizeLine
    repeat rw [Str.length_append]
    have a : (Str.ofString "(").length = 1 := by decide +kernel
    have b : (Str.ofString ", ").length = 2 := by decide +kernel
    have c : (Str.ofString ")").length = 1 := by decide +kernel
    exact Nat.le_trans (by omega : _ ≤ 300000) (by decide)
end NX

set_option Elab.async false
set_option linter.all false
set_option maxRecDepth 100000
set_option maxHeartbeats 4000000
/-! What the head tells of classes, errors and defs, in bundles. -/
namespace NX
open PySem L2 LamX PySem.Spec PyProof.Rows
section
variable {K : PySem.W.Frag}
theorem kit_self {C : Addr} : PySem.W.kitOne K (.ref C) (.ref C) = some true := by
  unfold PySem.W.kitOne
  rw [if_pos (beq_self_eq_true _)]
theorem kitCls_of {t : Value} {D : Addr} {b : Bool} (i : PySem.W.isClsIn K D = true) (ty : PySem.W.typeIn K (.ref D) = some (.type "type")) (s : PySem.W.subIn K t (.ref D) = some b) : PySem.W.kitCls K t (.ref D) = some b := by
  have e : ((PySem.W.clsIn K D).isSome && PySem.W.typeIn K (.ref D) == some (.type "type")) = true := by
    have i' : (PySem.W.clsIn K D).isSome = true := i
    rw [i', ty] <;> rfl
  show (if ((PySem.W.clsIn K D).isSome && PySem.W.typeIn K (.ref D) == some (.type "type")) = true then PySem.W.subIn K t (.ref D) else none) = some b
  rw [if_pos e]
  exact s
theorem kit_of {t : Value} {D : Addr} {b : Bool} (ne : (t == .ref D) = false) (i : PySem.W.isClsIn K D = true) (ty : PySem.W.typeIn K (.ref D) = some (.type "type")) (s : PySem.W.subIn K t (.ref D) = some b) : PySem.W.kitOne K t (.ref D) = some b := by
  unfold PySem.W.kitOne
  rw [if_neg (by rw [ne]; exact Bool.false_ne_true)]
  exact kitCls_of i ty s
theorem kit_ref {C D : Addr} {b : Bool} (ne : decide (C = D) = false) (i : PySem.W.isClsIn K D = true) (ty : PySem.W.typeIn K (.ref D) = some (.type "type")) (s : PySem.W.subIn K (.ref C) (.ref D) = some b) : PySem.W.kitOne K (.ref C) (.ref D) = some b :=
  kit_of (by
    have n : C ≠ D := of_decide_eq_false ne
    cases q : ((.ref C : Value) == .ref D) with
    | false => rfl
    | true =>
      have z : (Value.ref C) = .ref D := eq_of_beq q
      cases z
      exact absurd rfl n) i ty s
theorem kit_tyr {T : String} {D : Addr} {b : Bool} (i : PySem.W.isClsIn K D = true) (ty : PySem.W.typeIn K (.ref D) = some (.type "type")) (s : PySem.W.subIn K (.type T) (.ref D) = some b) : PySem.W.kitOne K (.type T) (.ref D) = some b :=
  kit_of (by
    cases q : ((.type T : Value) == .ref D) with
    | false => rfl
    | true =>
      have z : (Value.type T) = .ref D := eq_of_beq q
      cases z) i ty s
theorem kit_rty {T : String} {C : Addr} {b : Bool} (m : PySem.W.kitMeta T = true) (s : PySem.W.subIn K (.ref C) (.type T) = some b) : PySem.W.kitOne K (.ref C) (.type T) = some b := by
  have ne : ((.ref C : Value) == .type T) = false := by
    cases q : ((.ref C : Value) == .type T) with
    | false => rfl
    | true =>
      have z : (Value.ref C) = .type T := eq_of_beq q
      cases z
  unfold PySem.W.kitOne
  rw [if_neg (by rw [ne]; exact Bool.false_ne_true)]
  show (if PySem.W.kitMeta T = true then PySem.W.subIn K (.ref C) (.type T) else none) = some b
  rw [if_pos m]
  exact s
theorem exm_of {C S : Addr} {b : Bool} (h1 : PySem.W.subIn K (.ref S) (.type "BaseException") = some true) (i : PySem.W.isClsIn K S = true) (ty : PySem.W.typeIn K (.ref S) = some (.type "type")) (s : PySem.W.subIn K (.ref C) (.ref S) = some b) : PySem.W.exmOne K (.ref C) (.ref S) = some b := by
  have e1 : (PySem.W.subIn K (.ref S) (.type "BaseException") == some true) = true := by rw [h1] <;> rfl
  show (if (PySem.W.subIn K (.ref S) (.type "BaseException") == some true) = true then PySem.W.kitCls K (.ref C) (.ref S) else none) = some b
  rw [if_pos e1]
  exact kitCls_of i ty s
/-- a def as it stands in the written part -/
structure FnF (K : PySem.W.Frag) (x q : Str) (st : Stmt) (f : Addr) : Prop where
  ex : ∃ fd, Fun K x q st f fd
theorem fnF {x q : Str} {st : Stmt} {f : Addr} {oc : Value} {od an : Option Addr} {osl : Array (Option Value)} {kV doc pm cdv ct : Value} (l : K.lookup f = some ⟨oc, od, .func (PySem.W.fnOf x q (defArgs st) (defBody st) (defScope st) .none kV doc pm an cdv ct), osl⟩)
    (c : PySem.W.codeIn K cdv q = true) (k : PySem.W.keepIn K (.ref f) = true) : FnF K x q st f := ⟨⟨_, fun_mk l c k⟩⟩
/-- a def of ours, with its code object -/
structure FunC (K : PySem.W.Frag) (x : Str) (st : Stmt) (f : Addr) (fd : FuncData) (c : Addr) : Prop where
  ex : ∃ oc od kV doc pm an ct osl, fd = PySem.W.fnOf x x (defArgs st) (defBody st) (defScope st) .none kV doc pm an (.ref c) ct ∧ K.lookup f = some ⟨oc, od, .func fd, osl⟩ ∧ PySem.W.codeIn K (.ref c) x = true
  kp : PySem.W.keepIn K (.ref f) = true
/-- .. and the table of that -/
structure FnT (K : PySem.W.Frag) (x : Str) (st : Stmt) (f c Pc : Addr) : Prop where
  ex : ∃ fd, FunC K x st f fd c
  hd : PySem.W.codeHdIn K c Pc = true
theorem fnT {x : Str} {st : Stmt} {f c Pc : Addr} {oc e1 : Value} {od an e2 : Option Addr} {osl sl : Array (Option Value)} {kV doc pm ct : Value} {vs : Array Value}
    (l : K.lookup f = some ⟨oc, od, .func (PySem.W.fnOf x x (defArgs st) (defBody st) (defScope st) .none kV doc pm an (.ref c) ct), osl⟩)
    (cd : PySem.W.codeIn K (.ref c) x = true) (k : PySem.W.keepIn K (.ref f) = true) (lc : K.lookup c = some ⟨e1, e2, .fields vs, sl⟩) (h11 : vs[11]? = some (.ref Pc)) (hd : PySem.W.codeHdIn K c Pc = true) : FnT K x st f c Pc :=
  ⟨⟨_, ⟨oc, od, kV, doc, pm, an, ct, osl, rfl, l, cd⟩, k⟩, hd⟩
end
theorem FunC.binds {K : PySem.W.Frag} {x : Str} {st : Stmt} {f c : Addr} {fd : FuncData} {ps : List Str} (F : FunC K x st f fd c) (hb : ∀ (kV doc pm : Value) (an : Option Addr) (ct : Value) (us : List Value), us.length = ps.length → bindArgs (PySem.W.fnOf x x (defArgs st) (defBody st) (defScope st) .none kV doc pm an (.ref c) ct) ⟨us, []⟩ = pure (ps.zip us)) : Binds K fd ps [] := by
  obtain ⟨oc, od, kV, doc, pm, an, ct, osl, rfl, lk, hcd⟩ := F.ex
  exact .all fun us hl => hb kV doc pm an ct us hl
/-- an error of ours, which keeps the field y -/
structure ErrF (K : PySem.W.Frag) (x y : Str) (C fI CS : Addr) : Prop where
  g : PySem.W.nsIn K mainGlobals x = some (some (.ref C))
  i : PySem.W.findIn K (.ref C) "__init__" = some (some (.ref fI))
  t : PySem.W.typeIn K (.ref fI) = some (.type "function")
  cls : ∃ nm q N bs sn sub ab col dd k0 k1 k2 k3 k5, K.lookup C = some (excClassObj nm q C N bs [.ref CS, .type "ValueError", .type "Exception", .type "BaseException", .type "object"] true sn sub ab col dd k0 k1 k2 k3 k5 "ValueError.__new__")
  sa : PySem.W.findIn K (.ref C) "__setattr__" = some (some (.builtin "object.__setattr__"))
  ex : PySem.W.subIn K (.ref C) (.type "BaseException") = some true
  ty : PySem.W.typeIn K (.ref C) = some (.type "type")
  kp : PySem.W.keepIn K (.ref C) = true
  v : PySem.W.findIn K (.ref C) y = some none
  ga : PySem.W.findIn K (.ref C) "__getattribute__" = some (some (.builtin "BaseException.__getattribute__"))
  gg : PySem.W.findIn K (.ref C) "__getattr__" = some none
  hd : PySem.W.hasDictIn K C = true
  cl : PySem.W.findIn K (.ref C) "__class__" = some (some (.builtin "object.__class__"))
  ob : PySem.W.mroIn K C (.type "object") = some true
  ic : PySem.W.isClsIn K C = true
  sS : PySem.W.subIn K (.ref C) (.ref CS) = some true
  sV : PySem.W.subIn K (.ref C) (.type "ValueError") = some true
theorem refs5 (CS : Addr) : PySem.HandSPX.refsVE [.ref CS, .type "ValueError", .type "Exception", .type "BaseException", .type "object"] = true := by
  show PySem.HandSPX.refsVE [.type "ValueError", .type "Exception", .type "BaseException", .type "object"] = true
  decide +kernel
/-- what is asked of the base of the errors, and of isinstance -/
structure BaseF (K : PySem.W.Frag) (CS : Addr) : Prop where
  g : PySem.W.nsIn K mainGlobals "StowError" = some (some (.ref CS))
  sB : PySem.W.subIn K (.ref CS) (.type "BaseException") = some true
  sI : PySem.W.isClsIn K CS = true
  sT : PySem.W.typeIn K (.ref CS) = some (.type "type")
  hn : PySem.W.specialIn K (.builtin "object.__class__") "__get__" = some (some (.builtin "getset_descriptor.__get__"))
  ht : PySem.W.takesIn K (.builtin "object.__class__") = some true
/-- a class of ours, made by an __init__ -/
structure ClsF (K : PySem.W.Frag) (x : Str) (C fI : Addr) : Prop where
  g : PySem.W.nsIn K mainGlobals x = some (some (.ref C))
  pg : PySem.W.plainGet K C Str.empty = true
  hd : PySem.W.hasDictIn K C = true
  po : PySem.W.plainOver K C = true
  sa : PySem.W.findIn K (.ref C) "__setattr__" = some (some (.builtin "object.__setattr__"))
  mkC : PySem.W.makesIn K C = true
  ini : PySem.W.findIn K (.ref C) "__init__" = some (some (.ref fI))
  ifn : PySem.W.isFn K (.ref fI) = true
  kp : PySem.W.keepIn K (.ref C) = true
theorem ClsF.cls {K : PySem.W.Frag} {x : Str} {C fI : Addr} (F : ClsF K x C fI) : Cls K C := ⟨F.pg, F.hd, F.po, F.sa⟩
theorem ClsF.mak {K : PySem.W.Frag} {x : Str} {C fI : Addr} (F : ClsF K x C fI) : Mk K C fI := ⟨F.mkC, F.ini, F.ifn, F.kp⟩
/-- a classmethod read off a class -/
structure CmF (K : PySem.W.Frag) (C : Addr) (m : Str) (p g : Addr) : Prop where
  at_ : PySem.W.findCls K (.ref C) (.type "type") m = some (.get (.builtin "classmethod.__get__") (.ref p) .none (.ref C))
  rc : ∃ rest, PySem.W.recIn K p "classmethod" = some (.ref g :: rest)
  fi : PySem.W.fnIn K g = true
structure RdF (K : PySem.W.Frag) (C : Addr) : Prop where
  rd : PySem.W.readsIn K C (.type "type") = true
  ga : PySem.W.specialIn K (.ref C) "__getattribute__" = some (some (.builtin "type.__getattribute__"))
section
variable {P : Program} {w : World} {K : PySem.W.Frag} {mg : Str → Option Value} {base h : Heap}
theorem ErrF.O {x y : Str} {C fI CS : Addr} (E : ErrF K x y C fI CS) : OexC K C := by
  obtain ⟨nm, q, N, bs, sn, sub, ab, col, dd, k0, k1, k2, k3, k5, e⟩ := E.cls
  exact ⟨⟨nm, q, N, bs, _, sn, sub, ab, col, dd, k0, k1, k2, k3, k5, e, refs5 CS⟩, E.sa, E.ex, E.ty, E.kp⟩
theorem ErrF.ec {x y : Str} {C fI CS : Addr} (E : ErrF K x y C fI CS) (B : BaseF K CS) : ExcC K C := ⟨E.ga, E.gg, E.ex, E.hd, E.cl, B.hn, B.ht, E.ob⟩
theorem ErrF.xf {x y : Str} {C fI CS : Addr} (E : ErrF K x y C fI CS) : XfC K C := ⟨E.ga, E.gg, E.ex, E.hd⟩
theorem ErrF.exm {x y : Str} {C fI CS : Addr} (E : ErrF K x y C fI CS) (B : BaseF K CS) : PySem.W.exmOne K (.ref C) (.ref CS) = some true := exm_of B.sB B.sI B.sT E.sS
theorem ErrF.ve {x y : Str} {C fI CS : Addr} (E : ErrF K x y C fI CS) : PySem.W.kitOne K (.ref C) (.type "ValueError") = some true := kit_rty (by decide +kernel) E.sV
/-- the tables of the lambdas: by the code objects of the defs that hold them -/
structure TbF (h : Heap) (K : PySem.W.Frag) (c p : Addr) : Prop where
  hd : PySem.W.CodeHd h c p
  n : K.lookup p = none
end
end NX

set_option Elab.async false
set_option linter.all false
set_option maxRecDepth 100000
set_option maxHeartbeats 4000000
namespace K02
open PySem L2
def top (i : Nat) : Stmt := PySem.Challenge.pw_loopstow_k02_deeds_refused.main.body.getD i (.Pass ⟨0, 0, 0, 0⟩)
abbrev sPen : Stmt := top 22
abbrev sDraw : Stmt := top 23
abbrev sPick : Stmt := top 24
/-- the pen at p: its cells at c, how many cells are read, what is left of a great cell -/
structure Pen (H : Hp) (p c : Addr) (ns : List Int) (at_ rest : Int) : Prop where
  hp : H p = some (.lst [.ref c, .int at_, .int rest])
  hc : H c = some (.lst (ns.map V.int))
  la : 0 ≤ at_
  lr : 0 ≤ rest
theorem Pen.ne {H : Hp} {p c : Addr} {ns : List Int} {at_ rest : Int} (P : Pen H p c ns at_ rest) : c ≠ p := fun e => by
  have h1 := P.hp
  rw [← e, P.hc] at h1
  have h2 : ns.map V.int = [.ref c, .int at_, .int rest] := by injection h1 with h; injection h
  cases ns with
  | nil => cases h2
  | cons a r => simp at h2
/-- all but what stands at p is as it was -/
def But (p : Addr) (H H' : Hp) : Prop := ∀ b o, H b = some o → b ≠ p → H' b = some o
/-- what a draw leaves -/
def Drawn (H : Hp) (p c : Addr) (ns : List Int) (m : Int) (H' : Hp) : Prop := ∃ at' rest', Pen H' p c ns at' rest' ∧ at' ≤ m ∧ But p H H'
def spDraw : Sp := fun vs H Q _ => ∃ (p c : Addr) (ns : List Int) (at_ rest many : Int), vs = [.ref p, .int many] ∧ Pen H p c ns at_ rest ∧ at_ ≤ 1000000 ∧ 1 ≤ many ∧ many < 1000000000 ∧
  ∀ d H', 0 ≤ d → d < many → Drawn H p c ns (at_ + 1) H' → Q (.int d) H'
theorem scDraw : FnScope ["_law_pen_here", "_law_many", "_law_digit", "_law_at", "_law_cell", "_law_great", "_law_mixed"] ["_law_pen_here", "_law_many"] (defScope sDraw) := ⟨rfl, rfl, rfl, by decide +kernel, rfl, by decide +kernel, by decide +kernel⟩
theorem dpInts {K : PySem.W.Frag} {H : Hp} : ∀ ns : List Int, DpAll K H (ns.map V.int) (ns.map PyData.int)
  | [] => .nil
  | n :: r => .cons (.int n) (dpInts r)
structure TxtB (mg : Str → Option Value) : Prop where
  bint : mg "int" = none
  blen : mg "len" = none
  babs : mg "abs" = none
  blist : mg "list" = none
  bstr : mg "str" = none
  btuple : mg "tuple" = none
  bisinstance : mg "isinstance" = none
  brepr : mg "repr" = none
  brange : mg "range" = none
  benumerate : mg "enumerate" = none
  bVE : mg "ValueError" = none
section
variable {P : Program} {w : World} {K : PySem.W.Frag} {mg : Str → Option Value} {base : Heap}
theorem ok_draw {f : Addr} {fd : FuncData} (F : Fun K "_law_draw" "_law_draw" sDraw f fd) (T : TxtB mg) : FnOk P w K mg base CX0 1 f fd ["_law_pen_here", "_law_many"] spDraw := by
  refine F.ok scDraw (fun vs H Q E h => ?_) (fun cdv A outer s H vs Q E hr h => ?_)
  · obtain ⟨p, c, ns, a, r, m, rfl, _⟩ := h
    rfl
  · obtain ⟨p, c, ns, at_, rest, many, rfl, Pn, ha, hm1, hm2, k⟩ := h
    have hu := hu_of hr
    refine ⟨_, (pss_cons (ps_if (pt_cmpR op_gt (pe_ix ix_list (pv 0) pe_int (fun _ _ => rfl)) pe_int (nomark _)) (pss_cons (ps_set (i := 2) scDraw.nd rfl (Or.inl rfl) (pe_op op_mod (pe_callTy call_int1 (by rfl) T.bint (by decide +kernel) (pa_cons (pe_ix ix_list (pv 0) pe_int (fun _ _ => rfl)) pa_nil)) (pv 1)))
      (pss_cons (ps_asg (pe_op op_fdiv (pe_callTy call_int1 (by rfl) T.bint (by decide +kernel) (pa_cons (pe_ix ix_list (pv 0) pe_int (fun _ _ => rfl)) pa_nil)) (pv 1)) (pg_sub (pv 0) pe_int set_list))
      (pss_one (ps_ret (pv 2))))) pss_nil)
      (pss_cons (ps_set (i := 3) scDraw.nd rfl (Or.inl rfl) (pe_ix ix_list (pv 0) pe_int (fun _ _ => rfl)))
      (pss_cons (ps_asg (pe_op op_add (pv 3) pe_int) (pg_sub (pv 0) pe_int set_list))
      (pss_cons (ps_set (i := 4) scDraw.nd rfl (Or.inl rfl) (pe_op op_add (pe_op op_mul pe_int (pv 3)) pe_int))
      (C8.pss_cut (ps_if (pt_cmpR (op_neD hr.units) (pe_ix ix_list (pv 0) pe_int (fun _ _ => rfl)) (pe_lst pa_nil) (nomark _)) (pss_one (ps_set (i := 4) scDraw.nd rfl (Or.inl rfl) (pe_ix ix_list (pe_ix ix_list (pv 0) pe_int (fun _ _ => rfl)) (pe_op op_mod (pe_callTy call_int1 (by rfl) T.bint (by decide +kernel) (pa_cons (pv 3) pa_nil)) (pe_callB call_len_seq (by rfl) T.blen (by decide +kernel) (pa_cons (pe_ix ix_list (pv 0) pe_int (fun _ _ => rfl)) pa_nil))) (fun _ _ => rfl)))) pss_nil)
      (C8.pss_cut (ps_if (PW.pt (pw_and (pt_cmpR op_lt (pv 3) (pe_callB call_len_seq (by rfl) T.blen (by decide +kernel) (pa_cons (pe_ix ix_list (pv 0) pe_int (fun _ _ => rfl)) pa_nil)) (nomark _)) (pw_and1 (pt_cmpR op_ge (pe_callB call_abs (by rfl) T.babs (by decide +kernel) (pa_cons (pv 4) pa_nil)) (pe_op op_pow pe_int pe_int) (nomark _))))) (pss_cons (ps_set (i := 5) scDraw.nd rfl (Or.inl rfl) (pe_op op_add (pe_op op_mul pe_int (pe_op op_sub (pe_callB call_abs (by rfl) T.babs (by decide +kernel) (pa_cons (pv 4) pa_nil)) (pe_op op_pow pe_int pe_int))) (pe_callTy call_int1 (by rfl) T.bint (by decide +kernel) (pa_cons (pe_cmpR op_lt (pv 4) pe_int (nomark _)) pa_nil))))
      (pss_cons (ps_asg (pe_op op_fdiv (pe_callTy call_int1 (by rfl) T.bint (by decide +kernel) (pa_cons (pv 5) pa_nil)) (pv 1)) (pg_sub (pv 0) pe_int set_list))
      (pss_one (ps_ret (pe_op op_mod (pe_callTy call_int1 (by rfl) T.bint (by decide +kernel) (pa_cons (pv 5) pa_nil)) (pv 1)))))) pss_nil)
      (pss_cons (ps_set (i := 6) scDraw.nd rfl (Or.inl rfl) (pe_op op_mod (pe_callTy call_int1 (by rfl) T.bint (by decide +kernel) (pa_cons (pe_op op_pow (pe_op op_add (pe_op op_add (pe_op op_mod (pe_callTy call_int1 (by rfl) T.bint (by decide +kernel) (pa_cons (pv 4) pa_nil)) pe_int) (pe_op op_mul pe_int (pv 3))) pe_int) pe_int) pa_nil)) pe_int))
      (pss_cons (ps_set (i := 6) scDraw.nd rfl (Or.inl rfl) (pe_op op_mod (pe_callTy call_int1 (by rfl) T.bint (by decide +kernel) (pa_cons (pe_op op_pow (pe_op op_add (pe_op op_add (pe_op op_mul (pv 6) (pe_op op_add (pe_op op_mul pe_int (pv 3)) pe_int)) (pe_op op_mul (pe_op op_mul pe_int (pv 3)) (pv 3))) pe_int) pe_int) pa_nil)) pe_int))
      (pss_one (ps_ret (pe_op op_mod (pe_callTy call_int1 (by rfl) T.bint (by decide +kernel) (pa_cons (pe_op op_fdiv (pv 6) pe_int) pa_nil)) (pv 1)))))))))))), ?_⟩
    -- pen[2] > 0
    refine ⟨_, rfl, p, _, _, _, rfl, rfl, SqL.of Pn.hp, rfl, rest, 0, rfl, rfl, _, rfl, ite2 (fun h0 => ?_) (fun h0 => ?_)⟩
    · have hr0 : 0 < rest := of_decide_eq_true h0
      refine ⟨_, rfl, p, _, _, _, rfl, rfl, SqL.of Pn.hp, rfl, .inl ⟨rest, rfl, _, rfl, rest, many, rfl, rfl, (by show 0 < many; omega), ?_⟩⟩
      refine ⟨_, rfl, p, _, _, _, rfl, rfl, SqL.of Pn.hp, rfl, .inl ⟨rest, rfl, _, rfl, rest, many, rfl, rfl, ⟨by omega, by omega⟩, ?_⟩⟩
      refine ⟨_, rfl, p, _, _, _, rfl, rfl, Pn.hp, rfl, _, rfl, ?_⟩
      refine k _ _ (Int.emod_nonneg _ (by omega)) (Int.emod_lt_of_pos _ (by omega)) ⟨at_, rest / many, ⟨upd_same, by rw [upd_ne Pn.ne]; exact Pn.hc, Pn.la, Int.ediv_nonneg Pn.lr (by omega)⟩, by omega, fun b o hb hn => by rw [upd_ne hn]; exact hb⟩
    · -- at = pen[1]; pen[1] = at + 1
      refine ⟨_, rfl, p, _, _, _, rfl, rfl, SqL.of Pn.hp, rfl, ?_⟩
      refine ⟨_, rfl, at_, 1, rfl, rfl, _, rfl, p, _, _, _, rfl, rfl, Pn.hp, rfl, ?_⟩
      have P1 : Pen (upd H p (.lst [.ref c, .int (at_ + 1), .int rest])) p c ns (at_ + 1) rest := ⟨upd_same, by rw [upd_ne Pn.ne]; exact Pn.hc, by have := Pn.la; omega, Pn.lr⟩
      have B1 : But p H (upd H p (.lst [.ref c, .int (at_ + 1), .int rest])) := fun b o hb hn => by rw [upd_ne hn]; exact hb
      -- cell = ..
      refine ⟨_, rfl, _, at_, rfl, rfl, .inl ⟨by decide, by decide⟩, _, _, rfl, rfl, ?_⟩
      refine ⟨fun σ H' => ∃ (cell : Int) (v2 v5 v6 : Option V), σ = [some (.ref p), some (.int many), v2, some (.int at_), some (.int cell), v5, v6] ∧ Pen H' p c ns (at_ + 1) rest ∧ But p H H', ?_, ?_⟩
      · -- if pen[0] != []
        refine ⟨_, rfl, p, _, _, _, rfl, rfl, SqL.of P1.hp, rfl, by decide, fun l hl => ?_⟩
        have npl : p ≠ l := ne_of_none P1.hp hl
        have ncl : c ≠ l := ne_of_none P1.hc hl
        have P2 : Pen (upd (upd H p (.lst [.ref c, .int (at_ + 1), .int rest])) l (.lst [])) p c ns (at_ + 1) rest := ⟨by rw [upd_ne npl]; exact P1.hp, by rw [upd_ne ncl]; exact P1.hc, P1.la, P1.lr⟩
        have B2 : But p H (upd (upd H p (.lst [.ref c, .int (at_ + 1), .int rest])) l (.lst [])) := fun b o hb hn => by
          rw [upd_ne (ne_of_none (B1 b o hb hn) hl)]
          exact B1 b o hb hn
        refine ⟨_, _, .lst (SqL.of P2.hc) (dpInts ns), .lst (SqL.of upd_same) .nil, PySem.W.ke_shaped_ints ns, by decide +kernel, _, rfl, ?_⟩
        cases ns with
        | nil => exact iteF ⟨_, none, none, none, rfl, P2, B2⟩
        | cons n0 nr =>
          refine iteT ?_
          refine ⟨_, rfl, p, _, _, _, rfl, rfl, SqL.of P2.hp, rfl, _, rfl, .inl ⟨at_, rfl, _, rfl, p, _, _, _, rfl, rfl, SqL.of P2.hp, rfl, c, _, rfl, .inl (SqL.of P2.hc), at_, _, rfl, rfl, (by simp), ?_⟩⟩
          have hpos : (0 : Int) < (((n0 :: nr).map V.int).length : Int) := by simp
          have h1 := Int.emod_nonneg at_ (Int.ne_of_gt hpos)
          have h2 := Int.emod_lt_of_pos at_ hpos
          obtain ⟨j, hj⟩ := Int.eq_ofNat_of_zero_le h1
          have hjl : j < (n0 :: nr).length := by rw [hj] at h2; simp at h2 ⊢; omega
          refine ⟨c, _, _, .int ((n0 :: nr)[j]'hjl), rfl, rfl, SqL.of P2.hc, ?_, ?_⟩
          · rw [hj]
            exact atI_nat (by rw [List.getElem?_map, List.getElem?_eq_getElem hjl]; rfl)
          · exact ⟨_, none, none, none, rfl, P2, B2⟩
      · rintro σ' H' ⟨cell, v2, v5, v6, rfl, P2, B2⟩
        have hla := Pn.la
        have fin : ∀ (H2 : Hp) (x : Int), Drawn H p c ns (at_ + 1) H2 → Q (.int (x % many)) H2 := fun H2 x hd => k _ _ (Int.emod_nonneg _ (by omega)) (Int.emod_lt_of_pos _ (by omega)) hd
        have D2 : Drawn H p c ns (at_ + 1) H' := ⟨_, _, P2, by omega, B2⟩
        have m1 := Int.emod_nonneg cell (show (2147483563 : Int) ≠ 0 by decide)
        have m2 := Int.emod_lt_of_pos cell (show (0 : Int) < 2147483563 by decide)
        refine ⟨fun σ H2 => σ = [some (.ref p), some (.int many), v2, some (.int at_), some (.int cell), v5, v6] ∧ H2 = H', ?_, ?_⟩
        · -- at < len(pen[0]) and abs(cell) >= 10 ** 18
          refine ⟨_, rfl, _, rfl, p, _, _, _, rfl, rfl, SqL.of P2.hp, rfl, c, _, rfl, .inl (SqL.of P2.hc), at_, _, rfl, rfl, _, rfl, ?_⟩
          refine ite2 (fun hlt => ?_) (fun hlt => iteF ⟨rfl, rfl⟩)
          refine ⟨_, rfl, cell, rfl, 10, 18, rfl, rfl, ⟨by decide, by decide, by decide⟩, _, _, rfl, rfl, _, rfl, ?_⟩
          refine ite2 (fun hge => ?_) (fun hge => ⟨rfl, rfl⟩)
          have hge := of_decide_eq_true hge
          have h3 : (1000000000000000000 : Int) ≤ if cell < 0 then -cell else cell := hge
          refine ⟨_, rfl, cell, rfl, 10, 18, rfl, rfl, ⟨by decide, by decide, by decide⟩, _, _, rfl, rfl, 2, _, rfl, rfl, .inl ⟨by decide, by decide⟩, _, rfl, cell, 0, rfl, rfl, .inr ⟨_, rfl, _, _, rfl, rfl, ?_⟩⟩
          refine ⟨_, rfl, .inl ⟨_, rfl, _, rfl, _, many, rfl, rfl, ⟨by omega, by omega⟩, _, rfl, p, _, _, _, rfl, rfl, P2.hp, rfl, ?_⟩⟩
          refine ⟨_, rfl, .inl ⟨_, rfl, _, rfl, _, many, rfl, rfl, (by show 0 < many; omega), ?_⟩⟩
          refine fin _ _ ⟨at_ + 1, _, ⟨upd_same, by rw [upd_ne Pn.ne]; exact P2.hc, P2.la, Int.ediv_nonneg ?_ (by omega)⟩, by omega, fun b o hb hn => by rw [upd_ne hn]; exact B2 b o hb hn⟩
          have h4 : (0 : Int) ≤ if decide (cell < 0) = true then 1 else 0 := by split <;> omega
          show (0 : Int) ≤ 2 * ((if cell < 0 then -cell else cell) - 1000000000000000000) + (if decide (cell < 0) = true then 1 else 0)
          omega
        · rintro σ2 H2 ⟨rfl, rfl⟩
          -- mixed, twice
          refine ⟨_, rfl, .inl ⟨cell, rfl, cell, _, rfl, rfl, (by show (0 : Int) < 2147483563; decide), _, rfl, _, at_, rfl, rfl, .inl ⟨by decide, by decide⟩, _, _, rfl, rfl, _, _, rfl, rfl, _, 3, rfl, rfl, ⟨by decide, by decide, ?_⟩, .inl ⟨_, rfl, _, _, rfl, rfl, (by show (0 : Int) < 2147483587; decide), ?_⟩⟩⟩
          · show (cell % 2147483563 + 50053 * at_ + 73).natAbs < 2 ^ 64
            omega
          obtain ⟨M, hM⟩ : ∃ M : Int, M = (cell % 2147483563 + 50053 * at_ + 73) ^ (3 : Int).toNat % 2147483587 := ⟨_, rfl⟩
          have m3 : 0 ≤ M := by rw [hM]; exact Int.emod_nonneg _ (by decide)
          have m4 : M < 2147483587 := by rw [hM]; exact Int.emod_lt_of_pos _ (by decide)
          have m5 : 0 ≤ M * (2 * at_ + 79) := Int.mul_nonneg m3 (by omega)
          have m6 : M * (2 * at_ + 79) ≤ 2147483587 * 2000079 := Int.mul_le_mul (by omega) (by omega) (by omega) (by decide)
          have m7 : 0 ≤ 61099 * at_ * at_ := Int.mul_nonneg (by omega) (by omega)
          have m8 : 61099 * at_ * at_ ≤ 61099 * 1000000 * 1000000 := Int.mul_le_mul (by omega) (by omega) (by omega) (by decide)
          refine ⟨V.int M, by rw [hM]; rfl, _, rfl, 2, at_, rfl, rfl, .inl ⟨by decide, by decide⟩, _, _, rfl, rfl, M, _, rfl, rfl, .inl ⟨by omega, by omega⟩, ?_⟩
          refine ⟨_, rfl, 61099, at_, rfl, rfl, .inl ⟨by decide, by decide⟩, _, rfl, _, at_, rfl, rfl, .inr ⟨by omega, by omega⟩, _, _, rfl, rfl, _, _, rfl, rfl, _, 5, rfl, rfl, ⟨by decide, by decide, ?_⟩, ?_⟩
          · show (M * (2 * at_ + 79) + 61099 * at_ * at_ + 23).natAbs < 2 ^ 64
            omega
          refine .inl ⟨_, rfl, _, _, rfl, rfl, (by show (0 : Int) < 2147483629; decide), ?_⟩
          exact ⟨_, rfl, _, 16, rfl, rfl, ⟨by decide, by decide⟩, .inl ⟨_, rfl, _, rfl, _, many, rfl, rfl, (by show 0 < many; omega), fin _ _ D2⟩⟩
end
end K02

set_option Elab.async false
set_option linter.all false
set_option maxRecDepth 100000
set_option maxHeartbeats 4000000
namespace K02
open PySem L2
theorem But.seq {K : PySem.W.Frag} {H H' : Hp} {p a : Addr} {xs : List V} (B : But p H H') (n : a ≠ p) (h : SqL K H a xs) : SqL K H' a xs := by
  rcases h with (h | ⟨o, h⟩) | h
  · exact .inl (.inl (B _ _ h n))
  · exact .inl (.inr ⟨o, B _ _ h n⟩)
  · exact .inr h
theorem But.trans {p : Addr} {H H1 H2 : Hp} (a : But p H H1) (b : But p H1 H2) : But p H H2 := fun c o h n => b c o (a c o h n) n
theorem But.refl {p : Addr} {H : Hp} : But p H H := fun _ _ h _ => h
theorem But.new {p a : Addr} {H : Hp} {o : HO} (h : H a = none) : But p H (upd H a o) := fun b u e _ => by rw [upd_ne (ne_of_none e h)]; exact e
theorem But.same {p : Addr} {H H1 : Hp} (s : Same H H1) : But p H H1 := fun b o h _ => s b o h
theorem Same.new {a : Addr} {H : Hp} {o : HO} (h : H a = none) : Same H (upd H a o) := fun b u e => by rw [upd_ne (ne_of_none e h)]; exact e
theorem Pen.same {H H' : Hp} {p c : Addr} {ns : List Int} {at_ rest : Int} (P : Pen H p c ns at_ rest) (s : Same H H') : Pen H' p c ns at_ rest := ⟨s _ _ P.hp, s _ _ P.hc, P.la, P.lr⟩
def spPen (K : PySem.W.Frag) : Sp := fun vs H Q _ => ∃ (a : Addr) (ns : List Int), vs = [.ref a] ∧ SqL K H a (ns.map V.int) ∧ ∀ (p c : Addr) (ms : List Int) (H' : Hp), H p = none → Pen H' p c ms 0 0 → Same H H' → Q (.ref p) H'
theorem scPen : FnScope ["_law_script"] ["_law_script"] (defScope sPen) := ⟨rfl, rfl, rfl, by decide +kernel, rfl, by decide +kernel, by decide +kernel⟩
def spPick (K : PySem.W.Frag) : Sp := fun vs H Q _ => ∃ (p c : Addr) (ns : List Int) (at_ rest : Int) (x : V), vs = [.ref p, x] ∧ Pen H p c ns at_ rest ∧ at_ ≤ 1000000 ∧
  ((∃ (a : Addr) (xs : List V), x = .ref a ∧ SqL K H a xs ∧ a ≠ p ∧ 0 < xs.length ∧ xs.length < 1000 ∧ ∀ v H', v ∈ xs → Drawn H p c ns (at_ + 1) H' → Q v H') ∨
   (∃ (z : Str), x = .str z ∧ 0 < z.length ∧ z.length < 1000 ∧ ∀ (ch : Nat) H', ch ∈ z.cps.toList → Drawn H p c ns (at_ + 1) H' → Q (.str ⟨#[ch]⟩) H'))
theorem scPick : FnScope ["_law_pen_here", "_law_some"] ["_law_pen_here", "_law_some"] (defScope sPick) := ⟨rfl, rfl, rfl, by decide +kernel, rfl, by decide +kernel, by decide +kernel⟩
def cutM (ns : List Int) : List Int := (ns.drop (HT.sIx ns.length 0 none)).take (HT.sIx ns.length ns.length (some 63) - HT.sIx ns.length 0 none)
section
variable {P : Program} {w : World} {K : PySem.W.Frag} {mg : Str → Option Value} {base : Heap}
theorem ok_pen {f : Addr} {fd : FuncData} (F : Fun K "_law_pen" "_law_pen" sPen f fd) (T : TxtB mg) : FnOk P w K mg base CX0 1 f fd ["_law_script"] (spPen K) := by
  refine F.ok scPen (fun vs H Q E h => ?_) (fun cdv A outer s H vs Q E hr h => ?_)
  · obtain ⟨a, ns, rfl, _⟩ := h
    rfl
  · obtain ⟨a, ns, rfl, hS, k⟩ := h
    refine ⟨_, (pss_one (ps_ret (pe_lst (pa_cons (pe_callTy call_list_of (by rfl) T.blist (by decide +kernel) (pa_cons (pe_slice sl_list (pv 0) po_none (po_some pe_int)) pa_nil)) (pa_cons pe_int (pa_cons pe_int pa_nil)))))), ?_⟩
    refine ⟨_, rfl, _, rfl, a, _, rfl, hS, fun d hd => ?_⟩
    refine ⟨d, _, rfl, .inl (SqL.of upd_same), fun c hc => ⟨by show 3 ≤ sizeLine; decide, fun p hp => ?_⟩⟩
    have n1 : d ≠ c := ne_of_none upd_same hc
    have n2 : c ≠ p := ne_of_none upd_same hp
    have s1 : Same H (upd H d (.lst (cutV (ns.map V.int) none (some 63)))) := Same.new hd
    have s2 : Same (upd H d (.lst (cutV (ns.map V.int) none (some 63)))) (upd (upd H d (.lst (cutV (ns.map V.int) none (some 63)))) c (.lst (cutV (ns.map V.int) none (some 63)))) := Same.new hc
    have e : cutV (ns.map V.int) none (some 63) = (cutM ns).map V.int := by
      unfold cutV cutM
      rw [← List.map_drop, ← List.map_take, List.length_map]
    refine k p c (cutM ns) _ ((s1.trans s2).free hp) ⟨upd_same, ?_, Int.le_refl _, Int.le_refl _⟩ ((s1.trans s2).trans (Same.new hp))
    rw [upd_ne n2, upd_same, e]
theorem ok_pick {f : Addr} {fd : FuncData} (F : Fun K "_law_pick" "_law_pick" sPick f fd) (T : TxtB mg) (cDraw : C8.Cal P w K mg base 1 "_law_draw" spDraw []) : FnOk P w K mg base CX0 2 f fd ["_law_pen_here", "_law_some"] (spPick K) := by
  refine F.ok scPick (fun vs H Q E h => ?_) (fun cdv A outer s H vs Q E hr h => ?_)
  · obtain ⟨p, c, ns, at_, rest, x, rfl, _⟩ := h
    rfl
  · obtain ⟨p, c, ns, at_, rest, x, rfl, Pn, ha, h⟩ := h
    refine ⟨_, (pss_one (ps_ret (pe_ix ix_seq (pv 1) (C8.pe_c cDraw hr (by decide) rfl (pa_cons (pv 0) (pa_cons (pe_callB (CallR.or call_len_seq call_len_str) (by rfl) T.blen (by decide +kernel) (pa_cons (pv 1) pa_nil)) pa_nil))) (fun _ _ => rfl)))), ?_⟩
    rcases h with ⟨a, xs, rfl, hS, hne, h0, h1, k⟩ | ⟨z, rfl, h0, h1, k⟩
    · refine ⟨_, rfl, _, rfl, _, rfl, .inl ⟨a, xs, rfl, .inl hS, ?_⟩⟩
      refine ⟨p, c, ns, at_, rest, _, rfl, Pn, ha, by omega, by omega, fun d H' d0 d1 hD => ?_⟩
      obtain ⟨at', rest', _, _, hB⟩ := id hD
      obtain ⟨j, rfl⟩ := Int.eq_ofNat_of_zero_le d0
      have hj : j < xs.length := by omega
      refine .inl ⟨a, xs, _, xs[j], rfl, rfl, hB.seq hne hS, atI_nat (List.getElem?_eq_getElem hj), k _ _ (List.getElem_mem hj) hD⟩
    · refine ⟨_, rfl, _, rfl, _, rfl, .inr ⟨z, rfl, Nat.le_of_lt (small1000 (by omega)), ?_⟩⟩
      refine ⟨p, c, ns, at_, rest, _, rfl, Pn, ha, by omega, by omega, fun d H' d0 d1 hD => ?_⟩
      obtain ⟨j, rfl⟩ := Int.eq_ofNat_of_zero_le d0
      have hj : j < z.cps.toList.length := by show j < z.cps.toList.length; rw [Array.length_toList]; exact Int.ofNat_lt.mp d1
      refine .inr (.inr ⟨z, _, z.cps.toList[j], rfl, rfl, Nat.le_of_lt (small1000 (by omega)), atI_nat (List.getElem?_eq_getElem hj), k _ _ (List.getElem_mem hj) hD⟩)
end
end K02

set_option Elab.async false
set_option linter.all false
set_option maxRecDepth 100000
set_option maxHeartbeats 4000000
namespace K02
open PySem L2 NX
abbrev sIs : Stmt := top 10
theorem scIs : FnScope ["value"] ["value"] (defScope sIs) := ⟨rfl, rfl, rfl, by decide +kernel, rfl, by decide +kernel, by decide +kernel⟩
/-- no text -/
def NoStr (K : PySem.W.Frag) (H : Hp) (x : V) : Prop := ∃ t, TyX K H x t ∧ PySem.W.kitOne K t (.type "str") = some false
def spIs (K : PySem.W.Frag) : Sp := fun vs H Q _ => ∃ x, vs = [x] ∧ ((∃ z, x = .str z ∧ z.length ≤ 1000 ∧ Q (.bl (nm z)) H) ∨ (NoStr K H x ∧ Q (.bl false) H))
structure TxtN (mg : Str → Option Value) : Prop where
  gLet : ∃ t, mg "LETTERS" = some (.str "abcdefghijklmnopqrstuvwxyz" t)
  gMost : ∃ t, mg "MOST_LETTERS" = some (.int 6 t)
section
variable {P : Program} {w : World} {K : PySem.W.Frag} {mg : Str → Option Value} {base : Heap}
theorem ok_is {f : Addr} {fd : FuncData} (F : Fun K "is_name" "is_name" sIs f fd) (T : TxtB mg) (N : TxtN mg) : FnOk P w K mg base CX0 1 f fd ["value"] (spIs K) := by
  refine F.ok scIs (fun vs H Q E h => ?_) (fun cdv A outer s H vs Q E hr h => ?_)
  · obtain ⟨x, rfl, _⟩ := h
    rfl
  · obtain ⟨x, rfl, h⟩ := h
    obtain ⟨t1, gL⟩ := N.gLet
    obtain ⟨t2, gM⟩ := N.gMost
    refine ⟨_, (pss_one (ps_ret (pe_and (pe_callB call_isi (by rfl) T.bisinstance (by decide +kernel) (pa_cons (pv 0) (pa_cons (pe_bltn (v := .ty "str") (by rfl) T.bstr (by decide +kernel) rfl) pa_nil))) (pe_and (pe_chain op_le op_le pe_int (pe_callB call_len_str (by rfl) T.blen (by decide +kernel) (pa_cons (pv 0) pa_nil)) (pe_glob (v := .int 6) rfl gM ⟨_, rfl⟩)) (pe_one (pe_cmpR op_eq (pe_bm PySem.F.plainAttrs_str PySem.F.slot_str_strip PySem.F.type_str_strip mt_stripChars (pv 0) (pa_cons (pe_glob (v := .str "abcdefghijklmnopqrstuvwxyz") rfl gL ⟨_, rfl⟩) pa_nil)) pe_str (nomark _))))))), ?_⟩
    rcases h with ⟨z, rfl, hz, q⟩ | ⟨⟨t, ty, k⟩, q⟩
    · refine ⟨_, rfl, _, _, _, _, true, rfl, .ty "str", .base (.str z), kit_ty (by decide +kernel), true, rfl, iteT ?_⟩
      refine ⟨_, rfl, z, rfl, Nat.le_of_lt (small1000 hz), 1, _, rfl, rfl, _, rfl, ite2 (fun h1 => ?_) (fun h1 => ?_)⟩
      · refine ⟨_, 6, rfl, rfl, _, rfl, ite2 (fun h2 => ?_) (fun h2 => ?_)⟩
        · have e : ∀ b : Bool, b = nm z → Q (.bl b) H := fun b e => by rw [e]; exact q
          refine ⟨_, rfl, rfl, z, _, rfl, rfl, Nat.le_trans hz (by decide), by rfl, e _ ?_⟩
          have e1 := of_decide_eq_true h1
          have e2 := of_decide_eq_true h2
          have g : decide (V.str (Txt.stripChars z (Str.ofString "abcdefghijklmnopqrstuvwxyz")) = V.str (Str.ofString "")) = decide (Txt.stripChars z ("abcdefghijklmnopqrstuvwxyz" : Str) = ("" : Str)) := by
            rw [Bool.eq_iff_iff, decide_eq_true_eq, decide_eq_true_eq]
            exact ⟨fun h => by injection h, fun h => by rw [← h]⟩
          rw [g, strip_nm]
          unfold nm
          rw [decide_eq_true (by omega : 1 ≤ z.length), decide_eq_true (by omega : z.length ≤ 6)]
          rfl
        · have e1 : ¬ (z.length ≤ 6) := fun h => h2 (decide_eq_true (by omega))
          have e : nm z = false := by unfold nm; rw [decide_eq_false e1]; simp
          rw [e] at q
          exact q
      · have e1 : ¬ (1 ≤ z.length) := fun h => h1 (decide_eq_true (by omega))
        have e : nm z = false := by unfold nm; rw [decide_eq_false e1]; simp
        rw [e] at q
        exact ⟨false, rfl, iteF q⟩
    · exact ⟨_, rfl, _, _, _, _, false, rfl, .ty "str", ty, k, false, rfl, iteF q⟩
end
end K02

set_option Elab.async false
set_option linter.all false
set_option maxRecDepth 100000
set_option maxHeartbeats 4000000
namespace K02
open PySem L2 NX NU
abbrev sErrN : Stmt := inClass (top 3) 0
abbrev sErrD : Stmt := inClass (top 4) 0
abbrev sErrT : Stmt := inClass (top 5) 0
abbrev sErrM : Stmt := inClass (top 6) 0
abbrev sCns : Stmt := top 11
abbrev sCun : Stmt := top 12
abbrev sAsc : Stmt := top 13
abbrev sCus : Stmt := top 19
/-- what stood stands, and an error's dict at d is new, with its one field -/
def Told (H : Hp) (d : Addr) (x : Str) (v : V) (H' : Hp) : Prop := Same H H' ∧ H d = none ∧ H' d = some (.xd [(x, v)])
theorem sameNone {H H' : Hp} {d : Addr} (s : Same H H') (h : H' d = none) : H d = none := by
  cases e : H d with
  | none => rfl
  | some o =>
    rw [s d o e] at h
    cases h
theorem Told.old {H0 H H' : Hp} {d : Addr} {x : Str} {v : V} (s : Same H0 H) (t : Told H d x v H') : Told H0 d x v H' := ⟨s.trans t.1, sameNone s t.2.1, t.2.2⟩
def spErr (K : PySem.W.Frag) (x : Str) : Sp := fun vs H Q _ => ∃ (a C : Addr) (v : V), vs = [.ref a, v] ∧ OexC K C ∧ PySem.W.findIn K (.ref C) x = some none ∧ H a = some (exo a C none) ∧
  ∀ dx, H dx = none → dx ≠ a → Q .non (upd (upd H dx (exd dx [(x, v)])) a (exo a C (some dx)))
theorem scErrN : FnScope ["self", "value"] ["self", "value"] (defScope sErrN) := ⟨rfl, rfl, rfl, by decide +kernel, rfl, by decide +kernel, by decide +kernel⟩
theorem scErrD : FnScope ["self", "value"] ["self", "value"] (defScope sErrD) := ⟨rfl, rfl, rfl, by decide +kernel, rfl, by decide +kernel, by decide +kernel⟩
theorem scErrT : FnScope ["self", "name"] ["self", "name"] (defScope sErrT) := ⟨rfl, rfl, rfl, by decide +kernel, rfl, by decide +kernel, by decide +kernel⟩
theorem scErrM : FnScope ["self", "most"] ["self", "most"] (defScope sErrM) := ⟨rfl, rfl, rfl, by decide +kernel, rfl, by decide +kernel, by decide +kernel⟩
theorem scCns : FnScope ["values", "value"] ["values"] (defScope sCns) := ⟨rfl, rfl, rfl, by decide +kernel, rfl, by decide +kernel, by decide +kernel⟩
theorem scCun : FnScope ["names", "seen", "name"] ["names"] (defScope sCun) := ⟨rfl, rfl, rfl, by decide +kernel, rfl, by decide +kernel, by decide +kernel⟩
theorem scAsc : FnScope ["names"] ["names"] (defScope sAsc) := ⟨rfl, rfl, rfl, by decide +kernel, rfl, by decide +kernel, by decide +kernel⟩
theorem scCus : FnScope ["names"] ["names"] (defScope sCus) := ⟨rfl, rfl, rfl, by decide +kernel, rfl, by decide +kernel, by decide +kernel⟩
/-- a name, or something that is none -/
def IsNm (v : V) (z : Str) : Prop := v = .str z ∧ z.length ≤ 1000 ∧ nm z = true
def NoNm (K : PySem.W.Frag) (H : Hp) (v : V) : Prop := (∃ z, v = .str z ∧ z.length ≤ 1000 ∧ nm z = false) ∨ NoStr K H v
/-- the texts ws are names -/
def Nms (ws : List Str) : Prop := ∀ z ∈ ws, z.length ≤ 1000 ∧ nm z = true
/-- the first of some values that is no name, behind the names ws -/
def Bad (K : PySem.W.Frag) (H : Hp) (xs : List V) (ws : List Str) (v : V) : Prop := ∃ l, xs = ws.map V.str ++ v :: l ∧ Nms ws ∧ NoNm K H v
section
variable {P : Program} {w : World} {K : PySem.W.Frag} {mg : Str → Option Value} {base : Heap}
theorem ok_errN {f : Addr} {fd : FuncData} (F : Fun K "__init__" "BadName.__init__" sErrN f fd) : FnOk P w K mg base CX0 1 f fd ["self", "value"] (spErr K "value") := by
  refine F.ok scErrN (fun vs H Q E h => ?_) (fun cdv A outer s H vs Q E hr h => ?_)
  · obtain ⟨a, C, v, rfl, _⟩ := h
    rfl
  · obtain ⟨a, C, v, rfl, T, hf, ha, k⟩ := h
    exact ⟨_, (pss_one (ps_ost (pv 0) (pv 1))), _, rfl, _, rfl, a, C, rfl, T, hf, .inl ⟨ha, fun dx h1 h2 => k dx h1 h2⟩⟩
theorem ok_errD {f : Addr} {fd : FuncData} (F : Fun K "__init__" "BadDeed.__init__" sErrD f fd) : FnOk P w K mg base CX0 1 f fd ["self", "value"] (spErr K "value") := by
  refine F.ok scErrD (fun vs H Q E h => ?_) (fun cdv A outer s H vs Q E hr h => ?_)
  · obtain ⟨a, C, v, rfl, _⟩ := h
    rfl
  · obtain ⟨a, C, v, rfl, T, hf, ha, k⟩ := h
    exact ⟨_, (pss_one (ps_ost (pv 0) (pv 1))), _, rfl, _, rfl, a, C, rfl, T, hf, .inl ⟨ha, fun dx h1 h2 => k dx h1 h2⟩⟩
theorem ok_errT {f : Addr} {fd : FuncData} (F : Fun K "__init__" "Twice.__init__" sErrT f fd) : FnOk P w K mg base CX0 1 f fd ["self", "name"] (spErr K "name") := by
  refine F.ok scErrT (fun vs H Q E h => ?_) (fun cdv A outer s H vs Q E hr h => ?_)
  · obtain ⟨a, C, v, rfl, _⟩ := h
    rfl
  · obtain ⟨a, C, v, rfl, T, hf, ha, k⟩ := h
    exact ⟨_, (pss_one (ps_ost (pv 0) (pv 1))), _, rfl, _, rfl, a, C, rfl, T, hf, .inl ⟨ha, fun dx h1 h2 => k dx h1 h2⟩⟩
theorem ok_errM {f : Addr} {fd : FuncData} (F : Fun K "__init__" "TooMany.__init__" sErrM f fd) : FnOk P w K mg base CX0 1 f fd ["self", "most"] (spErr K "most") := by
  refine F.ok scErrM (fun vs H Q E h => ?_) (fun cdv A outer s H vs Q E hr h => ?_)
  · obtain ⟨a, C, v, rfl, _⟩ := h
    rfl
  · obtain ⟨a, C, v, rfl, T, hf, ha, k⟩ := h
    exact ⟨_, (pss_one (ps_ost (pv 0) (pv 1))), _, rfl, _, rfl, a, C, rfl, T, hf, .inl ⟨ha, fun dx h1 h2 => k dx h1 h2⟩⟩
/-- an error class x of ours with its __init__, which keeps the field y -/
structure ErrC (P : Program) (w : World) (K : PySem.W.Frag) (mg : Str → Option Value) (base : Heap) (x y : Str) (C fI : Addr) : Prop where
  O : OexC K C
  i : PySem.W.findIn K (.ref C) "__init__" = some (some (.ref fI))
  t : PySem.W.typeIn K (.ref fI) = some (.type "function")
  ok : ∃ fd, FnOk P w K mg base CX0 1 fI fd ["self", y] (spErr K y) ∧ Binds K fd ["self", y] []
  g : mg x = some (.ref C)
  v : PySem.W.findIn K (.ref C) y = some none
/-- what making an error of ours asks -/
theorem mkO_of {H : Hp} {C : Addr} {y : Str} {v : V} {Q : XK} (O : OexC K C) (hv : PySem.W.findIn K (.ref C) y = some none) (k : ∀ d H', Told H d y v H' → Q (.ref C) (some d) H') :
    [v].length ≤ 1000 ∧ ∀ a : Addr, H a = none → spErr K y (.ref a :: ([v] ++ [])) (upd H a (exo a C none)) (fun x H2 => x = .non ∧ ∃ (d : Addr) (fs : List (Str × V)), H2 a = some (exo a C (some d)) ∧ H2 d = some (exd d fs) ∧ H d = none ∧ Q (.ref C) (some d) (upd (L2.del H2 a) d (.xd fs))) (fun _ _ _ => False) := by
  refine ⟨by show 1 ≤ 1000; decide, fun a ha => ⟨a, C, v, rfl, O, hv, upd_same, fun d hd hne => ?_⟩⟩
  have hd' : H d = none := by rw [upd_ne hne] at hd; exact hd
  refine ⟨rfl, d, [(y, v)], upd_same, by rw [upd_ne hne]; exact upd_same, hd', k d _ ⟨fun b o hb => ?_, hd', upd_same⟩⟩
  have n1 : b ≠ d := fun e => by rw [e, hd'] at hb; cases hb
  have n2 : b ≠ a := fun e => by rw [e, ha] at hb; cases hb
  rw [upd_ne n1]
  unfold L2.del
  rw [if_neg n2, upd_ne n2, upd_ne n1, upd_ne n2]
  exact hb
/-- check_names(values) -/
def spCns (K : PySem.W.Frag) (CN : Addr) : Sp := fun vs H Q E => ∃ (p : Addr) (xs : List V), vs = [.ref p] ∧ SqT K H p xs ∧
  ((∃ ws, xs = ws.map V.str ∧ Nms ws ∧ Q .non H) ∨ ∃ ws v, Bad K H xs ws v ∧ ∀ d H', Told H d "value" v H' → E (.ref CN) (some d) H')
theorem ok_cns {CN fI f : Addr} {fd : FuncData} (F : Fun K "check_names" "check_names" sCns f fd) (cIs : C8.Cal P w K mg base 1 "is_name" (spIs K) []) (B : ErrC P w K mg base "BadName" "value" CN fI) :
    FnOk P w K mg base (L2N.CX P w) 3 f fd ["values"] (spCns K CN) := by
  obtain ⟨fde, Fe, hbe⟩ := B.ok
  refine NN.okN F scCns (fun vs H Q E h => ?_) (fun cdv A outer s H vs Q E hr h => ?_)
  · obtain ⟨p, xs, rfl, _⟩ := h
    rfl
  · obtain ⟨p, xs, rfl, hS, h⟩ := h
    refine ⟨_, (pss_one (ps_for (passes_of rfl) rfl (pi_tup (pv 0)) (pg_name (i := 1) scCns.nd rfl (Or.inl rfl)) (pss_one (ps_if (pt_not (pt_val (C8.pe_c cIs hr (by decide) rfl (pa_cons (pv 1) pa_nil))))
      (pss_one (L2N.ps_raise rfl (L2N.takes_of rfl rfl rfl rfl) (NN.pmkN B.O B.i B.t Fe hr hbe pass0 rfl B.g (pa_cons (pv 1) pa_nil)))) pss_nil)))), ?_⟩
    refine ⟨_, rfl, p, rfl, ⟨xs, hS⟩, ?_⟩
    rcases h with ⟨ws, rfl, hn, q⟩ | ⟨ws, v, ⟨l, rfl, hn, bad⟩, q⟩
    · refine for_tup (xs := ws.map V.str) (fun i σ H' => H' = H ∧ ∃ y, σ = [some (.ref p), y]) ⟨rfl, _, rfl⟩ (fun i σ H' _ ⟨e, _⟩ => by rw [e]; exact hS) (fun i x σ H' hx ⟨e, y, eσ⟩ => ?_) (fun σ H' ⟨e, _⟩ => by rw [e]; exact q)
      subst e eσ
      rw [List.getElem?_map] at hx
      obtain ⟨z, hz, rfl⟩ : ∃ z, ws[i]? = some z ∧ V.str z = x := by
        cases e : ws[i]? with
        | none => rw [e] at hx; cases hx
        | some z => rw [e] at hx; exact ⟨z, rfl, Option.some.inj hx⟩
      obtain ⟨h1, h2⟩ := hn z (List.mem_of_getElem? hz)
      refine ⟨_, rfl, _, rfl, .inl ⟨z, rfl, h1, ?_⟩⟩
      rw [h2]
      exact ⟨_, rfl, iteF ⟨rfl, _, rfl⟩⟩
    · refine for_tup (xs := ws.map V.str ++ v :: l) (fun i σ H' => i ≤ ws.length ∧ H' = H ∧ ∃ y, σ = [some (.ref p), y]) ⟨Nat.zero_le _, rfl, _, rfl⟩ (fun i σ H' _ ⟨_, e, _⟩ => by rw [e]; exact hS) (fun i x σ H' hx ⟨hi, e, y, eσ⟩ => ?_) (fun σ H' ⟨hi, _⟩ => ?_)
      · subst e eσ
        by_cases lt : i < ws.length
        · rw [List.getElem?_append_left (by rw [List.length_map]; exact lt), List.getElem?_map, List.getElem?_eq_getElem lt] at hx
          obtain rfl := Option.some.inj hx
          obtain ⟨h1, h2⟩ := hn ws[i] (List.getElem_mem lt)
          refine ⟨_, rfl, _, rfl, .inl ⟨ws[i], rfl, h1, ?_⟩⟩
          rw [h2]
          exact ⟨_, rfl, iteF ⟨lt, rfl, _, rfl⟩⟩
        · obtain rfl : i = ws.length := by omega
          rw [List.getElem?_append_right (by rw [List.length_map]; exact Nat.le_refl _), List.length_map, Nat.sub_self] at hx
          obtain rfl : v = x := Option.some.inj hx
          refine ⟨_, rfl, _, rfl, ?_⟩
          rcases bad with ⟨z, rfl, hz, hb⟩ | bad
          · refine .inl ⟨z, rfl, hz, ?_⟩
            rw [hb]
            exact ⟨_, rfl, iteT ⟨_, rfl, mkO_of B.O B.v q⟩⟩
          · exact .inr ⟨bad, _, rfl, iteT ⟨_, rfl, mkO_of B.O B.v q⟩⟩
      · rw [List.length_append, List.length_map, List.length_cons] at hi
        omega
end
end K02

set_option Elab.async false
set_option linter.all false
set_option maxRecDepth 100000
set_option maxHeartbeats 4000000
namespace K02
open PySem L2 NX NU
open PyProof.Rows (sortedS)
theorem sqT_same {K : PySem.W.Frag} {H H' : Hp} {a : Addr} {xs : List V} (s : Same H H') (h : SqT K H a xs) : SqT K H' a xs := by
  rcases h with (h | ⟨o, h⟩) | h
  · exact .inl (.inl (s _ _ h))
  · exact .inl (.inr ⟨o, s _ _ h⟩)
  · exact .inr h
/-- a def of ours that may raise, called by its name -/
structure CalL (P : Program) (w : World) (K : PySem.W.Frag) (mg : Str → Option Value) (base : Heap) (k : Nat) (x : Str) (sp : Sp) : Prop where
  ex : ∃ (f : Addr) (fd : FuncData) (ps : List Str), FnOk P w K mg base (L2N.CX P w) k f fd ps sp ∧ mg x = some (.ref f) ∧ PySem.W.keepIn K (.ref f) = true ∧ Binds K fd ps []
theorem pe_cL {X : Cx} {k j : Nat} {x : Str} {sp : Sp} {E : XK} {e : Expr} {es : List Expr} {t : TA} {p pos : Pos} (c : CalL X.prog X.w X.K X.mg X.base k x sp) (hr : Room j X.A) (hk : k ≤ j) (hg : Gl X x) (hx : Passes (L2N.CX X.prog X.w) X E) (ha : PA X (e :: es) t)
    (hdb : (x == ("__debug__" : Str)) = false := by decide) (he : starEach (e :: es) X.env = (false, eval e X.env) :: starEach es X.env := by rfl) (hpl : (backTo pos (starEach es X.env)).any (·.1) = false := by rfl) :
    PE X (.Call (.Name x p) (e :: es) [] pos) (tCall sp [] E t) := by
  obtain ⟨f, fd, ps, F, hm, kp, b⟩ := c.ex
  exact pe_call F (hr.mono hk) hg hm kp b .nil hx ha hdb he hpl
/-- no text stands twice; the first that does, at place i -/
def NoRep (ws : List Str) : Prop := ∀ i z, ws[i]? = some z → z ∉ ws.take i
def Rep (ws : List Str) (i : Nat) (z : Str) : Prop := ws[i]? = some z ∧ z ∈ ws.take i ∧ ∀ j, j < i → ∀ y, ws[j]? = some y → y ∉ ws.take j
theorem rep_or (ws : List Str) : NoRep ws ∨ ∃ i z, Rep ws i z := by
  suffices h : ∀ n, n ≤ ws.length → (∀ j, j < n → ∀ y, ws[j]? = some y → y ∉ ws.take j) ∨ ∃ i z, Rep ws i z by
    rcases h ws.length (Nat.le_refl _) with h | h
    · exact .inl fun i z e => h i (List.getElem?_eq_some_iff.mp e).1 z e
    · exact .inr h
  intro n
  induction n with
  | zero => exact fun _ => .inl nofun
  | succ n ih =>
    intro hn
    rcases ih (by omega) with h | h
    · have at_ : ws[n]? = some ws[n] := List.getElem?_eq_getElem (by omega)
      by_cases m : ws[n] ∈ ws.take n
      · exact .inr ⟨n, _, at_, m, h⟩
      · refine .inl fun j hj y e => ?_
        by_cases e2 : j = n
        · subst e2
          rw [at_] at e
          exact Option.some.inj e ▸ m
        · exact h j (by omega) y e
    · exact .inr h
/-- check_unlike(names), the names texts -/
def spCun (K : PySem.W.Frag) (CT : Addr) : Sp := fun vs H Q E => ∃ (p : Addr) (ws : List Str), vs = [.ref p] ∧ SqT K H p (ws.map V.str) ∧ ws.length ≤ 1000 ∧
  ((NoRep ws ∧ ∀ H', Same H H' → Q .non H') ∨ ∃ i z, Rep ws i z ∧ ∀ d H', Told H d "name" (.str z) H' → E (.ref CT) (some d) H')
/-- ascending(names) -/
structure TxtA (mg : Str → Option Value) : Prop where
  bset : mg "set" = none
  bsorted : mg "sorted" = none
  btuple : mg "tuple" = none
def spAsc (K : PySem.W.Frag) : Sp := fun vs H Q _ => ∃ (p : Addr) (ws : List Str), vs = [.ref p] ∧ (SqL K H p (ws.map V.str) ∨ SqT K H p (ws.map V.str)) ∧ ws.length < 64 ∧
  ∀ (ys : List Str) q H', sortedS ys = true → ys.Nodup → (∀ y, y ∈ ys ↔ y ∈ ws) → Same H H' → H q = none → H' q = some (.tup (ys.map V.str)) → Q (.ref q) H'
section
variable {P : Program} {w : World} {K : PySem.W.Frag} {mg : Str → Option Value} {base : Heap}
theorem ok_cun {CT fI f : Addr} {fd : FuncData} (F : Fun K "check_unlike" "check_unlike" sCun f fd) (B : ErrC P w K mg base "Twice" "name" CT fI) :
    FnOk P w K mg base (L2N.CX P w) 3 f fd ["names"] (spCun K CT) := by
  obtain ⟨fde, Fe, hbe⟩ := B.ok
  refine NN.okN F scCun (fun vs H Q E h => ?_) (fun cdv A outer s H vs Q E hr h => ?_)
  · obtain ⟨p, ws, rfl, _⟩ := h
    rfl
  · obtain ⟨p, ws, rfl, hS, few, h⟩ := h
    have hu := hu_of hr
    refine ⟨_, (pss_cons (ps_set (i := 1) scCun.nd rfl (Or.inl rfl) pe_dnewK) (pss_one (ps_for (passes_of rfl) rfl (pi_tup (pv 0)) (pg_name (i := 2) scCun.nd rfl (Or.inl rfl))
      (pss_cons (ps_if (pt_cmp (pc_din hu (pv 2) (pv 1))) (pss_one (L2N.ps_raise rfl (L2N.takes_of rfl rfl rfl rfl) (NN.pmkN B.O B.i B.t Fe hr hbe pass0 rfl B.g (pa_cons (pv 2) pa_nil)))) pss_nil)
        (pss_one (ps_dput hu (pv 1) (pv 2) pe_bl rfl)))))), ?_⟩
    intro d hd
    refine ⟨_, rfl, p, rfl, ⟨_, sqT_same (Same.new hd) hS⟩, ?_⟩
    have step : ∀ (i : Nat) (z : Str) (H' : Hp) (kvs : List (Key × V)), ws[i]? = some z → (∀ b o, H b = some o → H' b = some o) → H' d = some (.dK kvs) → kvs.length ≤ i → (∀ y : Str, (valV kvs (.inr y)).isSome = decide (y ∈ ws.take i)) →
        z ∉ ws.take i → (∀ b o, H b = some o → upd H' d (.dK (putK kvs (.inr z) (.bl true))) b = some o) ∧ (putK kvs (.inr z) (.bl true)).length ≤ i + 1 ∧ ∀ y : Str, (valV (putK kvs (.inr z) (.bl true)) (.inr y)).isSome = decide (y ∈ ws.take (i + 1)) := fun i z H' kvs hz s g l k no => by
      refine ⟨fun b o hb => ?_, Nat.le_trans (length_putK kvs _ _) (by omega), fun y => ?_⟩
      · have ne : b ≠ d := fun e => by rw [e, hd] at hb; cases hb
        rw [upd_ne ne]
        exact s b o hb
      · rw [valV_put, List.take_add_one, hz]
        by_cases e : y = z
        · subst e
          rw [if_pos rfl]
          simp
        · rw [if_neg (fun q => e (Sum.inr.inj q)), k y]
          simp [e]
    let Iv : Nat → L2.St → Hp → Prop := fun i σ H' => (∀ b o, H b = some o → H' b = some o) ∧ (∃ kvs, H' d = some (.dK kvs) ∧ kvs.length ≤ i ∧ ∀ y : Str, (valV kvs (.inr y)).isSome = decide (y ∈ ws.take i)) ∧ ∃ y, σ = [some (.ref p), some (.ref d), y]
    have base0 : Iv 0 [some (.ref p), some (.ref d), none] (upd H d (.dK [])) := ⟨Same.new hd, ⟨[], upd_same, Nat.le_refl _, fun y => by simp [valV]⟩, _, rfl⟩
    rcases h with ⟨nr, q⟩ | ⟨n, zn, ⟨hn, hin, hfirst⟩, q⟩
    · refine for_tup (xs := ws.map V.str) Iv base0 (fun i σ H' _ ⟨s, _⟩ => sqT_same s hS) (fun i x σ H' hx ⟨s, ⟨kvs, g, l, k⟩, y, eσ⟩ => ?_) (fun σ H' ⟨s, _⟩ => q _ s)
      subst eσ
      rw [List.getElem?_map] at hx
      obtain ⟨z, hz, rfl⟩ : ∃ z, ws[i]? = some z ∧ V.str z = x := by
        cases e : ws[i]? with
        | none => rw [e] at hx; cases hx
        | some z => rw [e] at hx; exact ⟨z, rfl, Option.some.inj hx⟩
      have no := nr i z hz
      obtain ⟨a1, a2, a3⟩ := step i z H' kvs hz s g l k no
      refine ⟨_, rfl, _, rfl, _, _, rfl, DGet.k (k := .inr z) g, ?_⟩
      rw [k z, decide_eq_false no]
      exact ⟨_, rfl, iteF ⟨_, rfl, _, rfl, _, _, rfl, DPut.k (k := .inr z) g (by have := (List.getElem?_eq_some_iff.mp hz).1; rw [sizeLine_eq]; omega), a1, ⟨_, upd_same, a2, a3⟩, _, rfl⟩⟩
    · have ltn : n < ws.length := (List.getElem?_eq_some_iff.mp hn).1
      refine for_tup (xs := ws.map V.str) (fun i σ H' => i ≤ n ∧ Iv i σ H') ⟨Nat.zero_le _, base0⟩ (fun i σ H' _ ⟨_, s, _⟩ => sqT_same s hS) (fun i x σ H' hx ⟨hi, s, ⟨kvs, g, l, k⟩, y, eσ⟩ => ?_) (fun σ H' ⟨hi, _⟩ => ?_)
      · subst eσ
        rw [List.getElem?_map] at hx
        obtain ⟨z, hz, rfl⟩ : ∃ z, ws[i]? = some z ∧ V.str z = x := by
          cases e : ws[i]? with
          | none => rw [e] at hx; cases hx
          | some z => rw [e] at hx; exact ⟨z, rfl, Option.some.inj hx⟩
        refine ⟨_, rfl, _, rfl, _, _, rfl, DGet.k (k := .inr z) g, ?_⟩
        rw [k z]
        by_cases e : i = n
        · subst e
          rw [hn] at hz
          obtain rfl := Option.some.inj hz
          rw [decide_eq_true hin]
          exact ⟨_, rfl, iteT ⟨_, rfl, mkO_of B.O B.v fun d2 H2 t => q d2 H2 (t.old s)⟩⟩
        · have no := hfirst i (by omega) z hz
          obtain ⟨a1, a2, a3⟩ := step i z H' kvs hz s g l k no
          rw [decide_eq_false no]
          exact ⟨_, rfl, iteF ⟨_, rfl, _, rfl, _, _, rfl, DPut.k (k := .inr z) g (by rw [sizeLine_eq]; omega), (by omega), a1, ⟨_, upd_same, a2, a3⟩, _, rfl⟩⟩
      · rw [List.length_map] at hi
        omega
theorem ok_asc {f : Addr} {fd : FuncData} (F : Fun K "ascending" "ascending" sAsc f fd) (T : TxtA mg) : FnOk P w K mg base CX0 1 f fd ["names"] (spAsc K) := by
  refine F.ok scAsc (fun vs H Q E h => ?_) (fun cdv A outer s H vs Q E hr h => ?_)
  · obtain ⟨p, ws, rfl, _⟩ := h
    rfl
  · obtain ⟨p, ws, rfl, hS, few, q⟩ := h
    refine ⟨_, (pss_one (ps_ret (pe_callTy call_tuple_of (by rfl) T.btuple (by decide +kernel) (pa_cons (pe_callB (cr_srtX rfl) (by rfl) T.bsorted (by decide +kernel) (pa_cons (pe_callTy (cr_setX rfl) (by rfl) T.bset (by decide +kernel) (pa_cons (pv 0) pa_nil)) pa_nil)) pa_nil)))), ?_⟩
    refine ⟨_, rfl, p, ws, rfl, hS, by omega, fun a ha => ⟨a, ws, rfl, upd_same, few, fun ys b srt nd mm hb => ?_⟩⟩
    refine ⟨b, _, rfl, .inl ⟨SqL.of upd_same, fun l hl => ?_⟩⟩
    have s1 : Same H (upd H a (SetX w a ws)) := Same.new ha
    have s2 := s1.trans (Same.new (o := .lst (ys.map V.str)) hb)
    exact q ys l _ srt nd mm (s2.trans (Same.new hl)) (sameNone s2 hl) upd_same
end
end K02

set_option Elab.async false
set_option linter.all false
set_option maxRecDepth 100000
set_option maxHeartbeats 4000000
namespace K02
open PySem L2 NX NU
open PyProof.Rows (sortedS)
/-- what is refused: a value that is no name, a text that stands twice, too many, none -/
inductive Fa
  | nm (v : V)
  | tw (z : Str)
  | mn
  | em
/-- the four error classes -/
structure C4 where
  n : Addr
  t : Addr
  m : Addr
  d : Addr
def Fa.cls (c : C4) : Fa → Addr
  | .nm _ => c.n
  | .tw _ => c.t
  | .mn => c.m
  | .em => c.d
def Fa.fld : Fa → Str
  | .nm _ => "value"
  | .tw _ => "name"
  | .mn => "most"
  | .em => "value"
def Fa.val : Fa → V
  | .nm v => v
  | .tw z => .str z
  | .mn => .int 3
  | .em => .non
/-- what used names are refused with -/
inductive UsedF (ws : List Str) : Option Fa → Prop
  | tw {i : Nat} {z : Str} : Rep ws i z → UsedF ws (some (.tw z))
  | mn : NoRep ws → 3 < ws.length → UsedF ws (some .mn)
  | em : ws = [] → UsedF ws (some .em)
  | ok : NoRep ws → 0 < ws.length → ws.length ≤ 3 → UsedF ws none
/-- what values are refused with, those from place k on being used -/
inductive DueF (K : PySem.W.Frag) (H : Hp) (xs : List V) (k : Nat) : Option Fa → Prop
  | nm {ws : List Str} {v : V} : Bad K H xs ws v → DueF K H xs k (some (.nm v))
  | rest {ws : List Str} {r : Option Fa} : xs = ws.map V.str → Nms ws → UsedF (ws.drop k) r → DueF K H xs k r
/-- it is so, or the error comes -/
def Ends (c : C4) (H : Hp) (E : XK) (ok : Prop) : Option Fa → Prop
  | none => ok
  | some f => ∀ d H', Told H d f.fld f.val H' → E (.ref (f.cls c)) (some d) H'
theorem usedF_any (ws : List Str) : ∃ r, UsedF ws r := by
  rcases rep_or ws with h | ⟨i, z, h⟩
  · by_cases l0 : ws.length = 0
    · exact ⟨_, .em (List.length_eq_zero_iff.mp l0)⟩
    · by_cases l3 : ws.length ≤ 3
      · exact ⟨_, .ok h (by omega) l3⟩
      · exact ⟨_, .mn h (by omega)⟩
  · exact ⟨_, .tw h⟩
structure DeedC (K : PySem.W.Frag) (mg : Str → Option Value) (CD : Addr) : Prop where
  g : mg "Deed" = some (.ref CD)
  rd : ∃ mc u, ClX.CRead K CD mc ∧ ClX.CVal K CD mc "MOST" (.int 3) u
def spCus (K : PySem.W.Frag) (c : C4) : Sp := fun vs H Q E => ∃ (p : Addr) (ws : List Str) (r : Option Fa), vs = [.ref p] ∧ SqT K H p (ws.map V.str) ∧ ws.length ≤ 1000 ∧ UsedF ws r ∧ Ends c H E (∀ H', Same H H' → Q .non H') r
section
variable {P : Program} {w : World} {K : PySem.W.Frag} {mg : Str → Option Value} {base : Heap}
theorem ok_cus {c : C4} {CD fT fM fD f : Addr} {fd : FuncData} (F : Fun K "check_used" "check_used" sCus f fd) (T : TxtB mg) (cUn : CalL P w K mg base 3 "check_unlike" (spCun K c.t)) (D : DeedC K mg CD) (BM : ErrC P w K mg base "TooMany" "most" c.m fM) (BD : ErrC P w K mg base "BadDeed" "value" c.d fD) :
    FnOk P w K mg base (L2N.CX P w) 4 f fd ["names"] (spCus K c) := by
  obtain ⟨fdm, Fm, hbm⟩ := BM.ok
  obtain ⟨fdd, Fd, hbd⟩ := BD.ok
  obtain ⟨mc, u, rd, cv⟩ := D.rd
  refine NN.okN F scCus (fun vs H Q E h => ?_) (fun cdv A outer s H vs Q E hr h => ?_)
  · obtain ⟨p, ws, r, rfl, _⟩ := h
    rfl
  · obtain ⟨p, ws, r, rfl, hS, few, hU, h⟩ := h
    refine ⟨_, (pss_cons (ps_expr (pe_cL cUn hr (by decide) rfl (NN.passN (L2N.takes_of rfl rfl rfl rfl)) (pa_cons (pv 0) pa_nil)))
      (pss_cons (ps_if (pt_cmpR op_gt (pe_callB call_len_seq (by rfl) T.blen (by decide +kernel) (pa_cons (pv 0) pa_nil)) (ClX.pe_cval (C8.pe_gc (v := .ref CD) rfl ⟨_, D.g, rfl⟩)) (nomark _)) (pss_one (L2N.ps_raise rfl (L2N.takes_of rfl rfl rfl rfl) (NN.pmkN BM.O BM.i BM.t Fm (hr.mono (by decide)) hbm pass0 rfl BM.g (pa_cons (ClX.pe_cval (C8.pe_gc (v := .ref CD) rfl ⟨_, D.g, rfl⟩)) pa_nil)))) pss_nil)
      (pss_one (ps_if (pt_not (pt_truth (pv 0) (fun _ => rfl))) (pss_one (L2N.ps_raise rfl (L2N.takes_of rfl rfl rfl rfl) (NN.pmkN BD.O BD.i BD.t Fd (hr.mono (by decide)) hbd pass0 rfl BD.g (pa_cons pe_non pa_nil)))) pss_nil)))), ?_⟩
    refine ⟨_, rfl, p, ws, rfl, hS, few, ?_⟩
    have split : (∃ i z, Rep ws i z ∧ ∀ d H', Told H d "name" (.str z) H' → E (.ref c.t) (some d) H') ∨ (NoRep ws ∧ (∀ d H', Told H d "most" (.int 3) H' → 3 < ws.length → E (.ref c.m) (some d) H') ∧ (∀ d H', Told H d "value" .non H' → ws = [] → E (.ref c.d) (some d) H') ∧ ∀ H', Same H H' → 0 < ws.length → ws.length ≤ 3 → Q .non H') := by
      cases hU with
      | tw rp => exact .inl ⟨_, _, rp, h⟩
      | mn nr l => exact .inr ⟨nr, fun d H' t _ => h d H' t, fun d H' t e => (by rw [e] at l; cases l), fun H' s _ l3 => by omega⟩
      | em e => exact .inr ⟨(by rw [e]; exact fun i z q => by simp at q), fun d H' t l => (by rw [e] at l; cases l), fun d H' t _ => h d H' t, fun H' s l0 _ => by rw [e] at l0; cases l0⟩
      | ok nr l0 l3 => exact .inr ⟨nr, fun d H' t l => (by omega), fun d H' t e => (by rw [e] at l0; cases l0), fun H' s _ _ => h H' s⟩
    rcases split with ⟨i, z, rp, q⟩ | ⟨nr, q1, q2, q3⟩
    · exact .inr ⟨i, z, rp, q⟩
    refine .inl ⟨nr, fun H' s => ?_⟩
    refine ⟨_, rfl, p, _, rfl, .inr (sqT_same s hS), CD, mc, _, u, rfl, rd, cv, _, _, rfl, rfl, _, rfl, ite2 (fun h1 => ?_) (fun h1 => ?_)⟩
    · have h1 := of_decide_eq_true h1
      rw [List.length_map] at h1
      exact ⟨CD, mc, _, u, rfl, rd, cv, mkO_of BM.O BM.v fun d H2 t => q1 d H2 (t.old s) (by omega)⟩
    · have h1 : ¬ ((ws.map V.str).length : Int) > 3 := fun z => h1 (decide_eq_true z)
      rw [List.length_map] at h1
      refine ⟨_, rfl, !(ws.map V.str).isEmpty, .inr (.inl ⟨_, sqT_same s hS, rfl⟩), ?_⟩
      cases ws with
      | nil => exact iteT (mkO_of BD.O BD.v fun d H2 t => q2 d H2 (t.old s) rfl)
      | cons z l => exact iteF (q3 H' s (Nat.succ_pos _) (by omega))
end
end K02

set_option Elab.async false
set_option linter.all false
set_option maxRecDepth 100000
set_option maxHeartbeats 4000000
namespace K02
open PySem L2 NX NU
open PyProof.Rows (sortedS)
theorem tyOf_same {K : PySem.W.Frag} {H H' : Hp} {v : V} {t : Value} (s : Same H H') (h : TyOf K H v t) : TyOf K H' v t := by
  cases h with
  | non => exact .non
  | bl x => exact .bl x
  | int x => exact .int x
  | str x => exact .str x
  | flt x => exact .flt x
  | lst h => exact .lst (s _ _ h)
  | frz h => exact .frz (s _ _ h)
  | tup h => exact .tup (s _ _ h)
  | dK h => exact .dK (s _ _ h)
  | dT h => exact .dT (s _ _ h)
  | ins h a b c d e => exact .ins (s _ _ h) a b c d e
theorem tyX_same {K : PySem.W.Frag} {H H' : Hp} {v : V} {t : Value} (s : Same H H') (h : TyX K H v t) : TyX K H' v t := by
  cases h with
  | base h => exact .base (tyOf_same s h)
  | byt b => exact .byt b
  | set h => exact .set (s _ _ h)
  | kList a b => exact .kList a b
  | kTuple a b => exact .kTuple a b
  | kDict a b => exact .kDict a b
  | fTuple h => exact .fTuple (s _ _ h)
  | fDict h => exact .fDict (s _ _ h)
theorem NoStr.same {K : PySem.W.Frag} {H H' : Hp} {v : V} (s : Same H H') (h : NoStr K H v) : NoStr K H' v := by
  obtain ⟨t, a, b⟩ := h
  exact ⟨t, tyX_same s a, b⟩
theorem NoNm.same {K : PySem.W.Frag} {H H' : Hp} {v : V} (s : Same H H') (h : NoNm K H v) : NoNm K H' v := by
  rcases h with h | h
  · exact .inl h
  · exact .inr (NoStr.same s h)

theorem Bad.same {K : PySem.W.Frag} {H H' : Hp} {xs : List V} {ws : List Str} {v : V} (s : Same H H') (h : Bad K H xs ws v) : Bad K H' xs ws v := by
  obtain ⟨l, a, b, c⟩ := h
  exact ⟨l, a, b, c.same s⟩
theorem DueF.same {K : PySem.W.Frag} {H H' : Hp} {xs : List V} {k : Nat} {r : Option Fa} (s : Same H H') (h : DueF K H xs k r) : DueF K H' xs k r := by
  cases h with
  | nm b => exact .nm (b.same s)
  | rest a b c => exact .rest a b c
theorem Ends.old {c : C4} {H H' : Hp} {E : XK} {ok ok2 : Prop} {r : Option Fa} (s : Same H H') (h : Ends c H E ok r) (k : ok → ok2) : Ends c H' E ok2 r := by
  cases r with
  | none => exact k h
  | some f => exact fun d H2 t => h d H2 (t.old s)
abbrev sUse : Stmt := inClass (top 16) 0
abbrev sMake : Stmt := inClass (top 17) 0
abbrev sDo : Stmt := inClass (top 18) 0
theorem scUse : FnScope ["self", "names"] ["self", "names"] (defScope sUse) := ⟨rfl, rfl, rfl, by decide +kernel, rfl, by decide +kernel, by decide +kernel⟩
theorem scMake : FnScope ["self", "name"] ["self", "name"] (defScope sMake) := ⟨rfl, rfl, rfl, by decide +kernel, rfl, by decide +kernel, by decide +kernel⟩
theorem scDo : FnScope ["self", "name", "names"] ["self", "name", "names"] (defScope sDo) := ⟨rfl, rfl, rfl, by decide +kernel, rfl, by decide +kernel, by decide +kernel⟩
/-- ys: the texts of ws, ascending, each once -/
def Asc (ys ws : List Str) : Prop := sortedS ys = true ∧ ys.Nodup ∧ ∀ y, y ∈ ys ↔ y ∈ ws
/-- a deed at x, of the class at C -/
def Dd (H : Hp) (x C : Addr) (us : List Str) (mk : V) (ys : List Str) : Prop := ∃ dx p q, H x = some (.ins C dx [("uses", .ref p), ("makes", mk), ("_names", .ref q)]) ∧ H p = some (.tup (us.map V.str)) ∧ H q = some (.tup (ys.map V.str))
structure DCls (K : PySem.W.Frag) (C : Addr) : Prop where
  cl : Cls K C
  nu : NoAttr K C "uses"
  nk : NoAttr K C "makes"
  nn : NoAttr K C "_names"
/-- a Use is made of what stands in the tuple at p -/
def spUse0 (K : PySem.W.Frag) (c : C4) : Sp := fun vs H Q E => ∃ (x C dx p : Addr) (xs : List V) (r : Option Fa), vs = [.ref x, .ref p] ∧ DCls K C ∧ H x = some (.ins C dx []) ∧ H p = some (.tup xs) ∧ xs.length < 60 ∧ DueF K H xs 0 r ∧
  Ends c H E (∀ ws ys H', xs = ws.map V.str → Asc ys ws → But x H H' → Dd H' x C ws .non ys → Q .non H') r
def spMake (K : PySem.W.Frag) (c : C4) : Sp := fun vs H Q E => ∃ (x C dx : Addr) (v : V), vs = [.ref x, v] ∧ DCls K C ∧ H x = some (.ins C dx []) ∧
  ((∃ z, IsNm v z ∧ ∀ H', But x H H' → Dd H' x C [] (.str z) [z] → Q .non H') ∨ (NoNm K H v ∧ ∀ d H', Told H d "value" v H' → E (.ref c.n) (some d) H'))
def spDo0 (K : PySem.W.Frag) (c : C4) : Sp := fun vs H Q E => ∃ (x C dx p : Addr) (v : V) (xs : List V) (r : Option Fa), vs = [.ref x, v, .ref p] ∧ DCls K C ∧ H x = some (.ins C dx []) ∧ H p = some (.tup xs) ∧ xs.length < 60 ∧ DueF K H (v :: xs) 1 r ∧
  Ends c H E (∀ m ws ys H', v = .str m → xs = ws.map V.str → Asc ys (m :: ws) → But x H H' → Dd H' x C ws (.str m) ys → Q .non H') r
section
variable {P : Program} {w : World} {K : PySem.W.Frag} {mg : Str → Option Value} {base : Heap}
/-- the calls that the three inits make -/
structure Cks (P : Program) (w : World) (K : PySem.W.Frag) (mg : Str → Option Value) (base : Heap) (c : C4) : Prop where
  ns : CalL P w K mg base 3 "check_names" (spCns K c.n)
  us : CalL P w K mg base 4 "check_used" (spCus K c)
  as : C8.Cal P w K mg base 1 "ascending" (spAsc K) []
theorem body_use {c : C4} (k : Cks P w K mg base c) {f : Addr} {cdv : Value} {A : Around} {outer : List Env} {s : Shared} {H : Hp} {vs : List V} {Q : VK} {E : XK} (hr : Room 4 (A.deeper (PyProof.Rows.envOfC "Use.__init__" (defScope sUse) s.heap.objs.size f cdv))) (h : spUse0 K c vs H Q E) :
    ∃ t, PSs (cxOf (L2N.CX P w) P w K mg base ["self", "names"] "Use.__init__" (defScope sUse) f cdv A outer s H E) (defBody sUse) t ∧ t { nx := fun _ H' => Q .non H', rt := Q } (start ["self", "names"] vs) H := by
  obtain ⟨x, C, dx, p, xs, r, rfl, hC, hx, hp, few, hD, h⟩ := h
  have px : p ≠ x := fun e => by rw [e, hx] at hp; cases hp
  refine ⟨_, (pss_cons (ps_expr (pe_cL k.ns hr (by decide) rfl (NN.passN (L2N.takes_of rfl rfl rfl rfl)) (pa_cons (pv 1) pa_nil)))
    (pss_cons (ps_expr (pe_cL k.us hr (by decide) rfl (NN.passN (L2N.takes_of rfl rfl rfl rfl)) (pa_cons (pv 1) pa_nil)))
    (pss_cons (ps_fld (pv 0) (pv 1) rfl) (pss_cons (ps_fld (pv 0) pe_non rfl) (pss_one (ps_fld (pv 0) (C8.pe_c k.as hr (by decide) rfl (pa_cons (pv 1) pa_nil)) rfl)))))), ?_⟩
  cases hD with
  | nm b => exact ⟨_, rfl, p, xs, rfl, SqT.of hp, .inr ⟨_, _, b, h⟩⟩
  | rest e hn hU =>
    rename_i ws
    subst e
    rw [List.drop_zero] at hU
    rw [List.length_map] at few
    refine ⟨_, rfl, p, _, rfl, SqT.of hp, .inl ⟨ws, rfl, hn, ?_⟩⟩
    refine ⟨_, rfl, p, ws, r, rfl, SqT.of hp, by omega, hU, Ends.old (fun _ _ z => z) h fun h H1 s1 => ?_⟩
    refine ⟨_, rfl, _, rfl, x, C, dx, _, rfl, s1 _ _ hx, hC.cl, hC.nu, by decide, ?_⟩
    refine ⟨_, rfl, x, C, dx, _, rfl, upd_same, hC.cl, hC.nk, by show 1 < 1000; decide, ?_⟩
    refine ⟨_, rfl, p, ws, rfl, .inr (SqT.of (by rw [upd_ne px, upd_ne px]; exact s1 _ _ hp)), by omega, fun ys q H2 srt nd mm s2 hq gq => ?_⟩
    refine ⟨_, rfl, x, C, dx, _, rfl, s2 _ _ upd_same, hC.cl, hC.nn, by show 2 < 1000; decide, ?_⟩
    have qx : q ≠ x := fun e => by rw [e] at hq; rw [upd_same] at hq; cases hq
    refine h ws ys _ rfl ⟨srt, nd, mm⟩ (fun b o hb ne => ?_) ⟨dx, p, q, upd_same, ?_, ?_⟩
    · rw [upd_ne ne]
      exact s2 _ _ (by rw [upd_ne ne, upd_ne ne]; exact s1 _ _ hb)
    · rw [upd_ne px]
      exact s2 _ _ (by rw [upd_ne px, upd_ne px]; exact s1 _ _ hp)
    · rw [upd_ne qx]
      exact gq
theorem ok_make {c : C4} (k : Cks P w K mg base c) {f : Addr} {fd : FuncData} (F : Fun K "__init__" "Make.__init__" sMake f fd) : FnOk P w K mg base (L2N.CX P w) 4 f fd ["self", "name"] (spMake K c) := by
  refine NN.okN F scMake (fun vs H Q E h => ?_) (fun cdv A outer s H vs Q E hr h => ?_)
  · obtain ⟨x, C, dx, v, rfl, _⟩ := h
    rfl
  · obtain ⟨x, C, dx, v, rfl, hC, hx, h⟩ := h
    refine ⟨_, (pss_cons (ps_expr (pe_cL k.ns hr (by decide) rfl (NN.passN (L2N.takes_of rfl rfl rfl rfl)) (pa_cons (pe_tup (pa_cons (pv 1) pa_nil)) pa_nil)))
      (pss_cons (ps_fld (pv 0) (pe_tup pa_nil) rfl) (pss_cons (ps_fld (pv 0) (pv 1) rfl) (pss_one (ps_fld (pv 0) (pe_tup (pa_cons (pv 1) pa_nil)) rfl))))), ?_⟩
    refine ⟨_, rfl, by show 1 ≤ sizeLine; decide, fun t ht => ?_⟩
    have s1 : Same H (upd H t (.tup [v])) := Same.new ht
    refine ⟨t, [v], rfl, SqT.of upd_same, ?_⟩
    rcases h with ⟨z, ⟨rfl, hz, hn⟩, q⟩ | ⟨bad, q⟩
    · refine .inl ⟨[z], rfl, fun y hy => by rw [List.mem_singleton.mp hy]; exact ⟨hz, hn⟩, ?_⟩
      refine ⟨by show 0 ≤ sizeLine; decide, fun p hp => ?_⟩
      have s2 := s1.trans (Same.new (o := .tup []) hp)
      have px : p ≠ x := fun e => by rw [e, s1 _ _ hx] at hp; cases hp
      refine ⟨_, rfl, x, C, dx, _, rfl, s2 _ _ hx, hC.cl, hC.nu, by decide, ?_⟩
      refine ⟨_, rfl, _, rfl, x, C, dx, _, rfl, upd_same, hC.cl, hC.nk, by show 1 < 1000; decide, ?_⟩
      refine ⟨_, rfl, by show 1 ≤ sizeLine; decide, fun r hr => ?_⟩
      have rx : r ≠ x := fun e => by rw [e, upd_same] at hr; cases hr
      have hr0 := hr
      rw [upd_ne rx, upd_ne rx] at hr0
      have rp : p ≠ r := fun e => by rw [← e, upd_same] at hr0; cases hr0
      refine ⟨_, rfl, x, C, dx, _, rfl, (by rw [upd_ne (Ne.symm rx)]; exact upd_same), hC.cl, hC.nn, by show 2 < 1000; decide, ?_⟩
      refine q _ (fun b o hb ne => ?_) ⟨dx, p, r, upd_same, ?_, ?_⟩
      · have br : b ≠ r := fun e => by rw [← e, s2 _ _ hb] at hr0; cases hr0
        rw [upd_ne ne, upd_ne br, upd_ne ne, upd_ne ne]
        exact s2 _ _ hb
      · rw [upd_ne px, upd_ne rp, upd_ne px, upd_ne px]
        exact upd_same
      · rw [upd_ne rx]
        exact upd_same
    · exact .inr ⟨[], v, ⟨[], rfl, nofun, bad.same s1⟩, fun d H' t => q d H' (t.old s1)⟩
theorem body_do {c : C4} (k : Cks P w K mg base c) {f : Addr} {cdv : Value} {A : Around} {outer : List Env} {s : Shared} {H : Hp} {vs : List V} {Q : VK} {E : XK} (hr : Room 4 (A.deeper (PyProof.Rows.envOfC "Do.__init__" (defScope sDo) s.heap.objs.size f cdv))) (h : spDo0 K c vs H Q E) :
    ∃ t, PSs (cxOf (L2N.CX P w) P w K mg base ["self", "name", "names"] "Do.__init__" (defScope sDo) f cdv A outer s H E) (defBody sDo) t ∧ t { nx := fun _ H' => Q .non H', rt := Q } (start ["self", "name", "names"] vs) H := by
  obtain ⟨x, C, dx, p, v, xs, r, rfl, hC, hx, hp, few, hD, h⟩ := h
  have px : p ≠ x := fun e => by rw [e, hx] at hp; cases hp
  refine ⟨_, (pss_cons (ps_expr (pe_cL k.ns hr (by decide) rfl (NN.passN (L2N.takes_of rfl rfl rfl rfl)) (pa_cons (pe_tup (pa_cons (pv 1) (StX.pa_star (pv 2) pa_nil))) pa_nil)))
    (pss_cons (ps_expr (pe_cL k.us hr (by decide) rfl (NN.passN (L2N.takes_of rfl rfl rfl rfl)) (pa_cons (pv 2) pa_nil)))
    (pss_cons (ps_fld (pv 0) (pv 2) rfl) (pss_cons (ps_fld (pv 0) (pv 1) rfl) (pss_one (ps_fld (pv 0) (C8.pe_c k.as hr (by decide) rfl (pa_cons (pe_tup (pa_cons (pv 1) (StX.pa_star (pv 2) pa_nil))) pa_nil)) rfl)))))), ?_⟩
  have lz : 61 ≤ sizeLine := by decide
  refine ⟨_, rfl, _, rfl, p, xs, rfl, .inl (SqT.of hp), ?_⟩
  dsimp only [tNil]
  rw [List.append_nil]
  refine ⟨by show xs.length + 1 ≤ sizeLine; omega, fun t ht => ?_⟩
  have s0 : Same H (upd H t (.tup (v :: xs))) := Same.new ht
  refine ⟨t, _, rfl, SqT.of upd_same, ?_⟩
  cases hD with
  | nm b => exact .inr ⟨_, _, b.same s0, fun d H' t => h d H' (t.old s0)⟩
  | rest e hn hU =>
    rename_i ws
    cases ws with
    | nil => cases e
    | cons m ws =>
      injection e with e1 e2
      subst e1 e2
      rw [List.length_map] at few
      refine .inl ⟨m :: ws, rfl, hn, ?_⟩
      refine ⟨_, rfl, p, ws, r, rfl, SqT.of (s0 _ _ hp), by omega, hU, Ends.old s0 h fun h H1 s1 => ?_⟩
      have s1 := s0.trans s1
      refine ⟨_, rfl, _, rfl, x, C, dx, _, rfl, s1 _ _ hx, hC.cl, hC.nu, by decide, ?_⟩
      refine ⟨_, rfl, _, rfl, x, C, dx, _, rfl, upd_same, hC.cl, hC.nk, by show 1 < 1000; decide, ?_⟩
      refine ⟨_, rfl, _, rfl, p, _, rfl, .inl (SqT.of (by rw [upd_ne px, upd_ne px]; exact s1 _ _ hp)), ?_⟩
      dsimp only [tNil]
      rw [List.append_nil]
      refine ⟨by show (ws.map V.str).length + 1 ≤ sizeLine; rw [List.length_map]; omega, fun t2 ht2 => ?_⟩
      have tx : t2 ≠ x := fun e => by rw [e, upd_same] at ht2; cases ht2
      refine ⟨t2, m :: ws, rfl, .inr (SqT.of upd_same), by show ws.length + 1 < 64; omega, fun ys q H2 srt nd mm s2 hq gq => ?_⟩
      have qx : q ≠ x := fun e => by rw [e, upd_ne (Ne.symm tx), upd_same] at hq; cases hq
      have pt : p ≠ t2 := fun e => by rw [← e, upd_ne px, upd_ne px, s1 _ _ hp] at ht2; cases ht2
      refine ⟨_, rfl, x, C, dx, _, rfl, s2 _ _ (by rw [upd_ne (Ne.symm tx)]; exact upd_same), hC.cl, hC.nn, by show 2 < 1000; decide, ?_⟩
      refine h m ws ys _ rfl rfl ⟨srt, nd, mm⟩ (fun b o hb ne => ?_) ⟨dx, p, q, upd_same, ?_, ?_⟩
      · rw [upd_ne ne]
        have bt : b ≠ t2 := fun e => by rw [← e, upd_ne ne, upd_ne ne, s1 _ _ hb] at ht2; cases ht2
        exact s2 _ _ (by rw [upd_ne bt, upd_ne ne, upd_ne ne]; exact s1 _ _ hb)
      · rw [upd_ne px]
        exact s2 _ _ (by rw [upd_ne pt, upd_ne px, upd_ne px]; exact s1 _ _ hp)
      · rw [upd_ne qx]
        exact gq
/-- Use.__init__ and Do.__init__, from what is passed -/
def spUse (K : PySem.W.Frag) (c : C4) : Sp := fun vs H Q E => ∃ ws rest, vs = ws ++ rest ∧ ws.length = ["self"].length ∧ rest.length ≤ sizeLine ∧ ∀ p, H p = Option.none → spUse0 K c (ws ++ [V.ref p]) (upd H p (.tup rest)) Q E
def spDo (K : PySem.W.Frag) (c : C4) : Sp := fun vs H Q E => ∃ ws rest, vs = ws ++ rest ∧ ws.length = ["self", "name"].length ∧ rest.length ≤ sizeLine ∧ ∀ p, H p = Option.none → spDo0 K c (ws ++ [V.ref p]) (upd H p (.tup rest)) Q E
theorem ok_use {c : C4} (k : Cks P w K mg base c) {f : Addr} {fd : FuncData} (F : Fun K "__init__" "Use.__init__" sUse f fd) : FnR P w K mg base (L2N.CX P w) 5 f (spUse K c) := by
  obtain ⟨oc, od, kV, doc, pm, an, cdv, ct, osl, rfl, lk, hcd⟩ := F.ex
  exact StX.fn_star (N := ["self", "names"]) (ps := ["self"]) (pv := "names") lk hcd scUse NN.upN (StX.bind_star1 (B := fun us => bindArgs _ ⟨us, []⟩) (fun a => rfl) (fun a r rs => rfl)) fun A outer s H vs Q E hr h => body_use k hr h
theorem ok_do {c : C4} (k : Cks P w K mg base c) {f : Addr} {fd : FuncData} (F : Fun K "__init__" "Do.__init__" sDo f fd) : FnR P w K mg base (L2N.CX P w) 5 f (spDo K c) := by
  obtain ⟨oc, od, kV, doc, pm, an, cdv, ct, osl, rfl, lk, hcd⟩ := F.ex
  exact StX.fn_star (N := ["self", "name", "names"]) (ps := ["self", "name"]) (pv := "names") lk hcd scDo NN.upN (StX.bind_star2 (B := fun us => bindArgs _ ⟨us, []⟩) (fun a b => rfl) (fun a b r rs => rfl)) fun A outer s H vs Q E hr h => body_do k hr h
end
end K02

set_option Elab.async false
set_option linter.all false
set_option maxRecDepth 100000
set_option maxHeartbeats 4000000
namespace K02
open PySem L2 NX NU
open PyProof.Rows (sortedS)
section
variable {X : Cx} {CX : CXT} {k : Nat} {f C : Addr} {sp : Sp} {E : XK} {x : Str} {e : Expr} {te : TE} {p q pos : Pos}
/-- C(*e), C a class of ours whose __init__ takes what is passed by place -/
theorem pe_makeS (M : Mk X.K C f) (F : FnR X.prog X.w X.K X.mg X.base CX k f sp) (hr : Room (k + 1) X.A) (hg : Gl X x) (hm : X.mg x = some (.ref C)) (hx : Passes CX X E) (he : PE X e te) (hd : (x == ("__debug__" : Str)) = false := by decide)
    (hst : starEach [.Starred e q] X.env = [(true, eval e X.env)] := by rfl) :
    PE X (.Call (.Name x p) [.Starred e q] [] pos) (fun σ H Q => te σ H fun y H1 => ∃ a xs, y = V.ref a ∧ (SqT X.K H1 a xs ∨ SqL X.K H1 a xs) ∧
      ∀ x dx, H1 x = none → H1 dx = none → dx ≠ x → sp (V.ref x :: xs) (upd (upd H1 dx (.own x)) x (.ins C dx [])) (fun v H2 => v = .non ∧ Q (.ref x) H2) E) := by
  refine ⟨fun pins s σ H Q I h => ?_⟩
  refine wpAny_Call_Name_kw (ld_glob I hg hm ?_ hd)
  refine PySem.W.callWith_S (h₀ := X.base) I.ok.mod.kin M.kp (thn (he.run pins s σ H _ I h) fun v s1 ⟨y, H1, I1, ry, a, xs, ey, hxs, z⟩ => ?_) hst
  subst ey
  obtain rfl : v = Value.ref a := ry
  exact StX.star_any I1 hxs fun us s2 I2 rv => ⟨I2.kIn, StX.run_makeR M F hr hx I2 rv z⟩
end
/-- what makes a deed: a word and names -/
def Good (us : List Str) : Prop := NoRep us ∧ 0 < us.length ∧ us.length ≤ 3
inductive DP : Str → List Str → Option Str → List Str → Prop
  | use {us : List Str} : Nms us → Good us → DP "use" us none us
  | make {m : Str} : Nms [m] → DP "make" [m] (some m) []
  | both {m : Str} {us : List Str} : Nms (m :: us) → Good us → DP "do" (m :: us) (some m) us
/-- what is refused of texts -/
theorem dueT (K : PySem.W.Frag) (H : Hp) (k : Nat) : ∀ ws : List Str, (∀ z ∈ ws, z.length ≤ 1000) → ∃ r, DueF K H (ws.map V.str) k r ∧ (r = none → Nms ws ∧ Good (ws.drop k)) := by
  intro ws short
  have look : ∀ l : List Str, (∀ z ∈ l, z.length ≤ 1000) → Nms l ∨ ∃ us z rest, l = us ++ z :: rest ∧ Nms us ∧ nm z = false := by
    intro l
    induction l with
    | nil => exact fun _ => .inl nofun
    | cons y l ih =>
      intro sh
      cases e : nm y with
      | false => exact .inr ⟨[], y, l, rfl, nofun, e⟩
      | true =>
        have me : y.length ≤ 1000 ∧ nm y = true := ⟨sh y List.mem_cons_self, e⟩
        rcases ih fun z hz => sh z (List.mem_cons_of_mem _ hz) with h | ⟨us, z, rest, e1, e2, e3⟩
        · exact .inl fun z hz => (List.mem_cons.mp hz).elim (fun q => by rw [q]; exact me) (h z)
        · exact .inr ⟨y :: us, z, rest, by rw [e1]; rfl, fun z hz => (List.mem_cons.mp hz).elim (fun q => by rw [q]; exact me) (e2 z), e3⟩
  rcases look ws short with h | ⟨us, z, rest, e1, e2, e3⟩
  · obtain ⟨r, hr⟩ := usedF_any (ws.drop k)
    refine ⟨r, .rest rfl h hr, fun e => ?_⟩
    subst e
    cases hr with
    | ok a b c => exact ⟨h, a, b, c⟩
  · refine ⟨_, .nm ⟨rest.map V.str, by rw [e1, List.map_append]; rfl, e2, .inl ⟨z, rfl, short z (by rw [e1]; simp), e3⟩⟩, fun e => by cases e⟩
/-- the classes of deeds -/
structure D3 where
  u : Addr
  m : Addr
  d : Addr
structure Dcs (K : PySem.W.Frag) (mg : Str → Option Value) (c : D3) (fU fM fD : Addr) : Prop where
  mu : Mk K c.u fU
  mm : Mk K c.m fM
  md : Mk K c.d fD
  gu : mg "Use" = some (.ref c.u)
  gm : mg "Make" = some (.ref c.m)
  gd : mg "Do" = some (.ref c.d)
  du : DCls K c.u
  dm : DCls K c.m
  dd : DCls K c.d
def D3.of (c : D3) : Option Str → List Str → Addr
  | none, _ => c.u
  | some _, [] => c.m
  | some _, _ :: _ => c.d
def mkV : Option Str → V
  | none => .non
  | some m => .str m
/-- a new deed -/
def NewD (c : D3) (H : Hp) (x : Addr) (mk : Option Str) (us : List Str) (H' : Hp) : Prop := Same H H' ∧ H x = none ∧ ∃ ys, Asc ys (mk.toList ++ us) ∧ Dd H' x (c.of mk us) us (mkV mk) ys
def spOf (K : PySem.W.Frag) (c : C4) (d : D3) : Sp := fun vs H Q E => ∃ (wd : Str) (p : Addr) (ws : List Str), vs = [.str wd, .ref p] ∧ wd.length ≤ 1000 ∧ SqL K H p (ws.map V.str) ∧ ws.length < 60 ∧ (∀ z ∈ ws, z.length ≤ 1000) ∧
  ((∃ mk us, DP wd ws mk us ∧ ∀ x H', NewD d H x mk us H' → Q (.ref x) H') ∨ ((∀ mk us, ¬ DP wd ws mk us) ∧ ∀ C y v dd H', (C = c.n ∨ C = c.t ∨ C = c.m ∨ C = c.d) → Told H dd y v H' → E (.ref C) (some dd) H'))
end K02

set_option Elab.async false
set_option linter.all false
set_option maxRecDepth 100000
set_option maxHeartbeats 4000000
namespace K02
open PySem L2 NX NU
open PyProof.Rows (sortedS)
abbrev sOf : Stmt := top 20
theorem scOf : FnScope ["word", "names"] ["word", "names"] (defScope sOf) := ⟨rfl, rfl, rfl, by decide +kernel, rfl, by decide +kernel, by decide +kernel⟩
theorem vstr {a b : Str} : decide (V.str a = V.str b) = decide (a = b) := by
  rw [Bool.eq_iff_iff, decide_eq_true_eq, decide_eq_true_eq]
  exact ⟨fun h => by injection h, fun h => by rw [h]⟩
theorem Ends.four {c : C4} {H : Hp} {E : XK} {ok : Prop} {r : Option Fa} (g : r = none → ok) (b : r ≠ none → ∀ C y v dd H', (C = c.n ∨ C = c.t ∨ C = c.m ∨ C = c.d) → Told H dd y v H' → E (.ref C) (some dd) H') : Ends c H E ok r := by
  cases r with
  | none => exact g rfl
  | some f =>
    intro d H' t
    refine b (fun e => by cases e) _ _ _ _ _ ?_ t
    cases f with
    | nm v => exact .inl rfl
    | tw z => exact .inr (.inl rfl)
    | mn => exact .inr (.inr (.inl rfl))
    | em => exact .inr (.inr (.inr rfl))
theorem made2 {H : Hp} {x dx C : Addr} (h1 : H x = none) (h2 : H dx = none) (h3 : dx ≠ x) : Same H (upd (upd H dx (.own x)) x (.ins C dx [])) := (Same.new h2).trans (Same.new (by rw [upd_ne (Ne.symm h3)]; exact h1))
/-- behind the making of an instance, and what its __init__ lays -/
theorem new_of {H H1 H' : Hp} {x : Addr} (h1 : H x = none) (s : Same H H1) (b : But x H1 H') : Same H H' := fun a o e => b a o (s a o e) (fun z => by rw [z, h1] at e; cases e)
theorem map_str {a b : List Str} (h : a.map V.str = b.map V.str) : a = b := (List.map_inj_right fun a b q => by injection q).mp h
theorem noStr_str {K : PySem.W.Frag} {H : Hp} {z : Str} (h : NoStr K H (.str z)) : False := by
  obtain ⟨t, ty, k⟩ := h
  have e : t = .type "str" := by
    cases ty with
    | base b => cases b; rfl
  subst e
  have y : PySem.W.kitOne K (.type "str") (.type "str") = some true := kit_ty (by decide +kernel)
  rw [k] at y
  cases y
theorem rep_no {ws : List Str} {i : Nat} {z : Str} (h : NoRep ws) (r : Rep ws i z) : False := h i z r.1 r.2.1
theorem due_good {K : PySem.W.Frag} {H : Hp} {k : Nat} {ws : List Str} {r : Option Fa} (a : Nms ws) (b : Good (ws.drop k)) (h : DueF K H (ws.map V.str) k r) : r = none := by
  cases h with
  | nm bd =>
    exfalso
    obtain ⟨l, e1, e2, e3⟩ := bd
    rename_i us v
    have m : v ∈ ws.map V.str := by rw [e1]; simp
    obtain ⟨z, hz, rfl⟩ := List.mem_map.mp m
    rcases e3 with ⟨z2, e, _, n⟩ | e3
    · injection e with e
      subst e
      rw [(a z hz).2] at n
      cases n
    · exact noStr_str e3
  | rest e1 e2 e3 =>
    have e1 := map_str e1
    subst e1
    obtain ⟨n1, n2, n3⟩ := b
    cases e3 with
    | tw r => exact (rep_no n1 r).elim
    | mn _ l => omega
    | em e => rw [e] at n2; cases n2
    | ok _ _ _ => rfl
section
variable {P : Program} {w : World} {K : PySem.W.Frag} {mg : Str → Option Value} {base : Heap}
/-- Use(*names), as deed_of calls it -/
theorem use_of {c : C4} {d : D3} {fU fM fD : Addr} (D : Dcs K mg d fU fM fD) {H : Hp} {Q : VK} {E : XK} {ws : List Str} (few : ws.length < 60) (short : ∀ z ∈ ws, z.length ≤ 1000)
    (h : (∃ mk us, DP "use" ws mk us ∧ ∀ x H', NewD d H x mk us H' → Q (.ref x) H') ∨ ((∀ mk us, ¬ DP "use" ws mk us) ∧ ∀ C y v dd H', (C = c.n ∨ C = c.t ∨ C = c.m ∨ C = c.d) → Told H dd y v H' → E (.ref C) (some dd) H')) :
    ∀ x dx, H x = none → H dx = none → dx ≠ x → spUse K c (V.ref x :: ws.map V.str) (upd (upd H dx (.own x)) x (.ins d.u dx [])) (fun v H2 => v = .non ∧ Q (.ref x) H2) E := by
  intro x dx h1 h2 h3
  have s1 := made2 (C := d.u) h1 h2 h3
  have lz : 60 ≤ sizeLine := by decide
  refine ⟨[.ref x], ws.map V.str, rfl, rfl, by rw [List.length_map]; omega, fun p hp => ?_⟩
  have s2 := s1.trans (Same.new (o := .tup (ws.map V.str)) hp)
  obtain ⟨r, hr, good⟩ := dueT K (upd (upd (upd H dx (.own x)) x (.ins d.u dx [])) p (.tup (ws.map V.str))) 0 ws short
  have px : x ≠ p := fun e => by rw [← e, upd_same] at hp; cases hp
  refine ⟨x, d.u, dx, p, ws.map V.str, r, rfl, D.du, (upd_ne px).trans upd_same, upd_same, by rw [List.length_map]; exact few, hr, .four (fun e => ?_) fun ne C y v dd H' hC t => ?_⟩
  · intro ws2 ys H' e2 asc but dd
    have e2 : ws = ws2 := map_str e2
    subst e2
    obtain ⟨n1, n2⟩ := good e
    rw [List.drop_zero] at n2
    refine ⟨rfl, ?_⟩
    rcases h with ⟨mk, us, dp, q⟩ | ⟨no, _⟩
    · cases dp with
      | use a b => exact q x H' ⟨new_of h1 s2 but, h1, ys, asc, dd⟩
    · exact absurd (.use n1 n2) (no _ _)
  · rcases h with ⟨mk, us, dp, q⟩ | ⟨_, q⟩
    · cases dp with
      | use a b =>
        exact absurd (due_good a (by rw [List.drop_zero]; exact b) hr) ne
    · exact q C y v dd H' hC (t.old s2)
/-- Do(*names), as deed_of calls it -/
theorem do_of {c : C4} {d : D3} {fU fM fD : Addr} (D : Dcs K mg d fU fM fD) {H : Hp} {Q : VK} {E : XK} {m : Str} {ws : List Str} (few : ws.length < 59) (short : ∀ z ∈ m :: ws, z.length ≤ 1000)
    (h : (∃ mk us, DP "do" (m :: ws) mk us ∧ ∀ x H', NewD d H x mk us H' → Q (.ref x) H') ∨ ((∀ mk us, ¬ DP "do" (m :: ws) mk us) ∧ ∀ C y v dd H', (C = c.n ∨ C = c.t ∨ C = c.m ∨ C = c.d) → Told H dd y v H' → E (.ref C) (some dd) H')) :
    ∀ x dx, H x = none → H dx = none → dx ≠ x → spDo K c (V.ref x :: (m :: ws).map V.str) (upd (upd H dx (.own x)) x (.ins d.d dx [])) (fun v H2 => v = .non ∧ Q (.ref x) H2) E := by
  intro x dx h1 h2 h3
  have s1 := made2 (C := d.d) h1 h2 h3
  have lz : 60 ≤ sizeLine := by decide
  refine ⟨[.ref x, .str m], ws.map V.str, rfl, rfl, by rw [List.length_map]; omega, fun p hp => ?_⟩
  have s2 := s1.trans (Same.new (o := .tup (ws.map V.str)) hp)
  obtain ⟨r, hr, good⟩ := dueT K (upd (upd (upd H dx (.own x)) x (.ins d.d dx [])) p (.tup (ws.map V.str))) 1 (m :: ws) short
  have px : x ≠ p := fun e => by rw [← e, upd_same] at hp; cases hp
  refine ⟨x, d.d, dx, p, .str m, ws.map V.str, r, rfl, D.dd, (upd_ne px).trans upd_same, upd_same, by rw [List.length_map]; omega, hr, .four (fun e => ?_) fun ne C y v dd H' hC t => ?_⟩
  · intro m2 ws2 ys H' e1 e2 asc but dd
    have e2 : ws = ws2 := map_str e2
    injection e1 with e1
    subst e1 e2
    obtain ⟨n1, n2⟩ := good e
    have n2 : Good ws := n2
    refine ⟨rfl, ?_⟩
    rcases h with ⟨mk, us, dp, q⟩ | ⟨no, _⟩
    · cases dp with
      | both a b =>
        refine q x H' ⟨new_of h1 s2 but, h1, ys, asc, ?_⟩
        cases ws with
        | nil => exact absurd b.2.1 (by decide)
        | cons z l => exact dd
    · exact absurd (.both n1 n2) (no _ _)
  · rcases h with ⟨mk, us, dp, q⟩ | ⟨_, q⟩
    · cases dp with
      | both a b => exact absurd (due_good (k := 1) a b hr) ne
    · exact q C y v dd H' hC (t.old s2)
/-- Make(name), as deed_of calls it -/
theorem make_of {c : C4} {d : D3} {fU fM fD : Addr} (D : Dcs K mg d fU fM fD) {H : Hp} {Q : VK} {E : XK} {m : Str} (short : m.length ≤ 1000)
    (h : (∃ mk us, DP "make" [m] mk us ∧ ∀ x H', NewD d H x mk us H' → Q (.ref x) H') ∨ ((∀ mk us, ¬ DP "make" [m] mk us) ∧ ∀ C y v dd H', (C = c.n ∨ C = c.t ∨ C = c.m ∨ C = c.d) → Told H dd y v H' → E (.ref C) (some dd) H')) :
    ∀ x dx, H x = none → H dx = none → dx ≠ x → spMake K c (V.ref x :: ([V.str m] ++ [])) (upd (upd H dx (.own x)) x (.ins d.m dx [])) (fun v H2 => v = .non ∧ Q (.ref x) H2) E := by
  intro x dx h1 h2 h3
  have s1 := made2 (C := d.m) h1 h2 h3
  refine ⟨x, d.m, dx, .str m, rfl, D.dm, upd_same, ?_⟩
  cases e : nm m with
  | true =>
    have n : Nms [m] := fun z hz => by rw [List.mem_singleton.mp hz]; exact ⟨short, e⟩
    refine .inl ⟨m, ⟨rfl, short, e⟩, fun H' but dd => ⟨rfl, ?_⟩⟩
    rcases h with ⟨mk, us, dp, q⟩ | ⟨no, _⟩
    · cases dp with
      | make a => exact q x H' ⟨new_of h1 s1 but, h1, [m], ⟨rfl, (by simp), fun y => by simp⟩, dd⟩
    · exact absurd (.make n) (no _ _)
  | false =>
    refine .inr ⟨.inl ⟨m, rfl, short, e⟩, fun dd H' t => ?_⟩
    rcases h with ⟨mk, us, dp, q⟩ | ⟨_, q⟩
    · cases dp with
      | make a =>
        have z := (a m (List.mem_singleton.mpr rfl)).2
        rw [e] at z
        cases z
    · exact q _ _ _ dd H' (.inl rfl) (t.old s1)
theorem ok_of {c : C4} {d : D3} {fU fM fD fE f : Addr} {fd fdm : FuncData} (F : Fun K "deed_of" "deed_of" sOf f fd) (T : TxtB mg) (D : Dcs K mg d fU fM fD) (U : FnR P w K mg base (L2N.CX P w) 5 fU (spUse K c)) (M : FnOk P w K mg base (L2N.CX P w) 4 fM fdm ["self", "name"] (spMake K c)) (hbm : Binds K fdm ["self", "name"] [])
    (O : FnR P w K mg base (L2N.CX P w) 5 fD (spDo K c)) (B : ErrC P w K mg base "BadDeed" "value" c.d fE) : FnOk P w K mg base (L2N.CX P w) 7 f fd ["word", "names"] (spOf K c d) := by
  obtain ⟨fde, Fe, hbe⟩ := B.ok
  refine NN.okN F scOf (fun vs H Q E h => ?_) (fun cdv A outer s H vs Q E hr h => ?_)
  · obtain ⟨wd, p, ws, rfl, _⟩ := h
    rfl
  · obtain ⟨wd, p, ws, rfl, hw, hS, few, short, h⟩ := h
    refine ⟨_, (pss_cons (ps_if (pt_cmpR op_eq (pv 0) pe_str (nomark _)) (pss_one (ps_ret (pe_makeS D.mu U hr rfl D.gu (NN.passN (L2N.takes_of rfl rfl rfl rfl)) (pv 1)))) pss_nil)
      (pss_cons (ps_if (PW.pt (pw_and (pt_cmpR op_eq (pv 0) pe_str (nomark _)) (pw_and1 (pt_cmpR op_eq (pe_callB call_len_seq (by rfl) T.blen (by decide +kernel) (pa_cons (pv 1) pa_nil)) pe_int (nomark _))))) (pss_one (ps_ret (pe_make (ds := []) (dvs := []) D.mm M (hr.mono (by decide)) rfl D.gm hbm .nil (NN.passN (L2N.takes_of rfl rfl rfl rfl)) (pa_cons (pe_ix ix_list (pv 1) pe_int (fun _ _ => rfl)) pa_nil)))) pss_nil)
      (pss_cons (ps_if (PW.pt (pw_and (pt_cmpR op_eq (pv 0) pe_str (nomark _)) (pw_and1 (pt_truth (pv 1) (fun _ => rfl))))) (pss_one (ps_ret (pe_makeS D.md O hr rfl D.gd (NN.passN (L2N.takes_of rfl rfl rfl rfl)) (pv 1)))) pss_nil)
      (pss_one (L2N.ps_raise rfl (L2N.takes_of rfl rfl rfl rfl) (NN.pmkN B.O B.i B.t Fe (hr.mono (by decide)) hbe pass0 rfl B.g (pa_cons (pv 0) pa_nil))))))), ?_⟩
    have bad : (∀ mk us, ¬ DP wd ws mk us) → ∀ dd H', Told H dd "value" (.str wd) H' → E (.ref c.d) (some dd) H' := fun no dd H' t => by
      rcases h with ⟨mk, us, dp, _⟩ | ⟨_, q⟩
      · exact absurd dp (no _ _)
      · exact q _ _ _ dd H' (.inr (.inr (.inr rfl))) t
    refine ⟨_, rfl, rfl, _, rfl, ?_⟩
    by_cases e1 : wd = "use"
    · subst e1
      exact iteT ⟨_, rfl, p, _, rfl, .inr hS, use_of D few short h⟩
    · rw [vstr, decide_eq_false e1]
      refine iteF ⟨_, rfl, rfl, _, rfl, ?_⟩
      by_cases e2 : wd = "make"
      · subst e2
        rw [vstr, decide_eq_true rfl]
        refine iteT ⟨_, rfl, p, _, rfl, .inl hS, rfl, _, rfl, ?_⟩
        match ws, hS, short, h, bad with
        | [m], hS, short, h, bad => exact iteT ⟨_, rfl, p, _, _, _, rfl, rfl, hS, rfl, make_of D (short m (by simp)) h⟩
        | [], hS, short, h, bad => exact iteF ⟨_, rfl, rfl, _, rfl, iteF ⟨_, rfl, mkO_of B.O B.v (bad fun mk us dp => by cases dp)⟩⟩
        | m :: n :: l, hS, short, h, bad =>
          have ne : ¬ V.int (((m :: n :: l).map V.str).length : Nat) = V.int 1 := fun z => by
            injection z with z
            rw [List.length_map] at z
            simp only [List.length_cons] at z
            omega
          rw [decide_eq_false ne]
          exact iteF ⟨_, rfl, rfl, _, rfl, iteF ⟨_, rfl, mkO_of B.O B.v (bad fun mk us dp => by cases dp)⟩⟩
      · rw [vstr, decide_eq_false e2]
        refine iteF (iteF ⟨_, rfl, rfl, _, rfl, ?_⟩)
        by_cases e3 : wd = "do"
        · subst e3
          rw [vstr, decide_eq_true rfl]
          refine iteT ⟨_, rfl, !(ws.map V.str).isEmpty, .inl ⟨_, hS, rfl⟩, ?_⟩
          cases ws with
          | nil => exact iteF ⟨_, rfl, mkO_of B.O B.v (bad fun mk us dp => by cases dp)⟩
          | cons m ws => exact iteT ⟨_, rfl, p, _, rfl, .inr hS, do_of D (Nat.lt_of_succ_lt_succ few) short h⟩
        · rw [vstr, decide_eq_false e3]
          refine iteF (iteF ⟨_, rfl, mkO_of B.O B.v (bad fun mk us dp => ?_)⟩)
          cases dp with
          | use a b => exact e1 rfl
          | make a => exact e2 rfl
          | both a b => exact e3 rfl
end
end K02

set_option Elab.async false
set_option linter.all false
set_option maxRecDepth 100000
set_option maxHeartbeats 4000000
namespace K02
open PySem L2 NX NU
open PyProof.Rows (sortedS)
abbrev sRead : Stmt := inClass (top 15) 3
theorem scRead : FnScope ["cls", "text", "word", "names"] ["cls", "text"] (defScope sRead) := ⟨rfl, rfl, rfl, by decide +kernel, rfl, by decide +kernel, by decide +kernel⟩
/-- the text of a deed -/
def DT (z : Str) (mk : Option Str) (us : List Str) : Prop := ∃ wd ws, Txt.split z " " = wd :: ws ∧ DP wd ws mk us
def NoDeed (K : PySem.W.Frag) (H : Hp) (v : V) : Prop := (∃ z, v = .str z ∧ z.length ≤ 1000 ∧ (Txt.split z " ").length ≤ 60 ∧ ∀ mk us, ¬ DT z mk us) ∨ NoStr K H v
def spRd (K : PySem.W.Frag) (c : C4) (d : D3) : Sp := fun vs H Q E => ∃ (a : Addr) (v : V), vs = [.ref a, v] ∧
  ((∃ z mk us, v = .str z ∧ z.length ≤ 1000 ∧ (Txt.split z " ").length ≤ 60 ∧ DT z mk us ∧ ∀ x H', NewD d H x mk us H' → Q (.ref x) H') ∨ (NoDeed K H v ∧ ∀ dd H', Told H dd "value" v H' → E (.ref c.d) (some dd) H'))
/-- the four errors are StowErrors -/
structure Stow (K : PySem.W.Frag) (mg : Str → Option Value) (c : C4) (CS : Addr) : Prop where
  g : mg "StowError" = some (.ref CS)
  n : PySem.W.exmOne K (.ref c.n) (.ref CS) = some true
  t : PySem.W.exmOne K (.ref c.t) (.ref CS) = some true
  m : PySem.W.exmOne K (.ref c.m) (.ref CS) = some true
  d : PySem.W.exmOne K (.ref c.d) (.ref CS) = some true
section
variable {P : Program} {w : World} {K : PySem.W.Frag} {mg : Str → Option Value} {base : Heap}
theorem ok_errDH {f : Addr} {fd : FuncData} (F : Fun K "__init__" "BadDeed.__init__" sErrD f fd) : L2H.FnH P w K mg base CX0 1 f fd ["self", "value"] (spErr K "value") := by
  obtain ⟨oc, od, kV, doc, pm, an, cdv, ct, osl, rfl, lk, cd⟩ := F.ex
  refine L2H.fn_ofH lk cd scErrD (fun vs H Q E h => ?_) fun A outer s H vs Q E p hot hr h => ?_
  · obtain ⟨a, C, v, rfl, _⟩ := h
    rfl
  · obtain ⟨a, C, v, rfl, T, hf, ha, k⟩ := h
    exact ⟨_, (pss_one (ps_ost (pv 0) (pv 1))), _, rfl, _, rfl, a, C, rfl, T, hf, .inl ⟨ha, fun dx h1 h2 => k dx h1 h2⟩⟩
/-- BadDeed, made where an error is handled -/
structure ErrH (P : Program) (w : World) (K : PySem.W.Frag) (mg : Str → Option Value) (base : Heap) (C fI : Addr) : Prop where
  ok : ∃ fd, L2H.FnH P w K mg base CX0 1 fI fd ["self", "value"] (spErr K "value") ∧ Binds K fd ["self", "value"] []
theorem ok_read {c : C4} {d : D3} {CS fE f : Addr} {fd : FuncData} (F : Fun K "read" "Deed.read" sRead f fd) (T : TxtB mg) (cOf : CalL P w K mg base 7 "deed_of" (spOf K c d)) (B : ErrC P w K mg base "BadDeed" "value" c.d fE) (BH : ErrH P w K mg base c.d fE) (S : Stow K mg c CS) :
    FnOk P w K mg base (L2.CX P w) 8 f fd ["cls", "text"] (spRd K c d) := by
  obtain ⟨fde, Fe, hbe⟩ := B.ok
  obtain ⟨fdh, Fh, hbh⟩ := BH.ok
  obtain ⟨fo, fdo, pso, Fo, go, ko, bo⟩ := cOf.ex
  refine F.okX scRead (fun vs H Q E h => ?_) (fun cdv A outer s H vs Q E hr h => ?_)
  · obtain ⟨a, v, rfl, _⟩ := h
    rfl
  · obtain ⟨a, v, rfl, h⟩ := h
    refine ⟨_, (pss_cons (ps_if (pt_not (pt_val (pe_callB call_isi (by rfl) T.bisinstance (by decide +kernel) (pa_cons (pv 1) (pa_cons (pe_bltn (v := .ty "str") (by rfl) T.bstr (by decide +kernel) rfl) pa_nil))))) (pss_one (L2.ps_raise rfl (L2.takes_of rfl rfl rfl rfl) (pmk_oex (ds := []) (dvs := []) B.O B.i B.t Fe (hr.mono (by decide)) hbe .nil pass0 rfl B.g (pa_cons (pv 1) pa_nil)))) pss_nil)
      (pss_cons (ps_asg (pe_split (pv 1) pe_str) (pg_star rfl (pgs_cons (pg_name (i := 2) scRead.nd rfl (Or.inl rfl)) (pgs_cons (pg_name (i := 3) scRead.nd rfl (Or.inl rfl)) pgs_nil))))
      (pss_one (L2H.ps_try_onlyX (c := .ref CS) (tb := fun W D σ H => tRet (tCallS (spOf K c d) (WE W) (tCons (tVar 2) (tCons (tVar 3) tNil))) D σ H) (ts := fun _ _ _ D σ H => tMkO c.d (spErr K "value") [] (tCons (tVar 1) tNil) σ H fun cls dd H' => E cls dd H') (Wout := fun cls dd _ H => E cls dd H)
        rfl rfl ⟨rfl, by decide, .inl S.g⟩ (fun hd => L2H.passesAt_of rfl hd) (L2.takes_of rfl rfl rfl rfl)
        (fun W pn xe tkN _ _ => pss_one (ps_ret (pe_callS Fo hr rfl go ko bo (fun σ => L2N.passAt tkN σ) (pa_cons (pv 2) (pa_cons (pv 3) pa_nil)))))
        (fun a oe cls dd pn _ _ tkL hot => pss_one (L2H.ps_raiseHN hot tkL (L2H.pmk5_oexH B.O B.i B.t Fh (L2H.roomH_mark (hr.mono (by decide)) _) hot hbh pass0 rfl B.g (pa_cons (pv 1) pa_nil)))))))), ?_⟩
    rcases (show (∃ z, v = .str z ∧ z.length ≤ 1000 ∧ (Txt.split z " ").length ≤ 60 ∧ ((∃ mk us, DT z mk us ∧ ∀ x H', NewD d H x mk us H' → Q (.ref x) H') ∨ ((∀ mk us, ¬ DT z mk us) ∧ ∀ dd H', Told H dd "value" v H' → E (.ref c.d) (some dd) H'))) ∨ (NoStr K H v ∧ ∀ dd H', Told H dd "value" v H' → E (.ref c.d) (some dd) H') from by
      rcases h with ⟨z, mk, us, e, hz, hl, dt, q⟩ | ⟨⟨z, e, hz, hl, no⟩ | ns, q⟩
      · exact .inl ⟨z, e, hz, hl, .inl ⟨mk, us, dt, q⟩⟩
      · exact .inl ⟨z, e, hz, hl, .inr ⟨no, q⟩⟩
      · exact .inr ⟨ns, q⟩) with ⟨z, rfl, hz, hl, h⟩ | ⟨⟨t, ty, k⟩, q⟩
    · refine ⟨_, rfl, _, _, _, _, true, rfl, .ty "str", .base (.str z), kit_ty (by decide +kernel), true, rfl, iteF ?_⟩
      refine ⟨_, rfl, ⟨z, rfl⟩, z, _, rfl, rfl, by decide +kernel, Nat.le_trans (Nat.add_le_add_right hz 2) (by decide), fun p hp => ?_⟩
      have pos := PyProof.Rows.split_pos z (Str.ofString " ")
      have sh : ∀ a, a ∈ Txt.split z (Str.ofString " ") → a.length ≤ 1000 := fun a ha => Nat.le_trans (PyProof.Rows.part_short ha) hz
      have s1 : Same H (upd H p (.lst ((Txt.split z (Str.ofString " ")).map V.str))) := Same.new hp
      obtain ⟨w0, rest, el⟩ : ∃ w0 rest, Txt.split z (Str.ofString " ") = w0 :: rest := by
        cases e : Txt.split z (Str.ofString " ") with
        | nil => rw [e] at pos; cases pos
        | cons a l => exact ⟨a, l, rfl⟩
      have hl : (Txt.split z (Str.ofString " ")).length ≤ 60 := hl
      rw [el] at hl sh s1
      rw [el]
      have hl : rest.length + 1 ≤ 60 := hl
      have ls : 1000 ≤ sizeLine := by decide
      refine ⟨p, .str w0, rest.map V.str, rfl, SqL.of upd_same, by rw [List.length_map]; omega, fun D hD => ?_⟩
      have s2 : Same H (upd (upd H p (.lst ((w0 :: rest).map V.str))) D (.lst (rest.map V.str))) := s1.trans (Same.new hD)
      refine ⟨_, _, rfl, _, _, rfl, rfl, _, rfl, _, rfl, w0, D, rest, rfl, sh w0 (by simp), SqL.of upd_same, by omega, fun y hy => sh y (List.mem_cons_of_mem _ hy), ?_⟩
      rcases h with ⟨mk, us, ⟨wd, ws, e1, dp⟩, q⟩ | ⟨no, q⟩
      · have e2 := el.symm.trans e1
        injection e2 with e3 e4
        subst e3 e4
        exact .inl ⟨mk, us, dp, fun x H' nd => q x H' ⟨s2.trans nd.1, sameNone s2 nd.2.1, nd.2.2⟩⟩
      · refine .inr ⟨fun mk us dp => no mk us ⟨w0, rest, el, dp⟩, fun C y v2 dd H' hC tl => ⟨true, ?_, fun _ a ha => ?_, fun z => by cases z⟩⟩
        · rcases hC with e | e | e | e <;> subst e
          · exact S.n
          · exact S.t
          · exact S.m
          · exact S.d
        · exact ⟨_, rfl, mkO_of B.O B.v fun d2 H2 t2 => q d2 H2 (t2.old (s2.trans tl.1))⟩
    · exact ⟨_, rfl, _, _, _, _, false, rfl, .ty "str", ty, k, false, rfl, iteT ⟨_, rfl, mkO_of B.O B.v q⟩⟩
end
end K02

set_option Elab.async false
set_option linter.all false
set_option maxRecDepth 100000
set_option maxHeartbeats 4000000
namespace NX
open PySem L2
/-- a comprehension over the signs of a text -/
theorem lcTxt {z : Str} {tg : TG} {tst : TT} {el : TE} {own : List Nat} {σ₀ : L2.St} {Ha : Hp} {L : Addr} {Fin : Hp → Prop} (Iv : Nat → Hp → Prop) (start : Iv 0 (upd Ha L (.lst [])))
    (turn : ∀ j ch Hb, z.cps[j]? = some ch → Iv j Hb → tg (.str ⟨#[ch]⟩) (wipe σ₀ own) Hb fun τ Hc => wipe τ own = wipe σ₀ own ∧ tst τ Hc fun yes Hd =>
      if yes = true then el τ Hd fun v He => ∃ got, He L = some (.lst got) ∧ got.length < sizeLine ∧ Iv (j + 1) (upd He L (.lst (got ++ [v]))) else Iv (j + 1) Hd) (fin : ∀ Hb, Iv z.cps.size Hb → Fin Hb) :
    ∃ W : Nat → Nat → Hp → Prop, (∃ k, W 0 k (upd Ha L (.lst []))) ∧ ∀ j k Hb, W j k Hb →
      ((Its z).stop j Hb ∧ Fin Hb) ∨ ((Its z).go j Hb ∧ ∃ Nx : Hp → Prop, (∀ Hc, Nx Hc → ∃ k', k' < k ∧ W (j + 1) k' Hc) ∧ ∀ x Hc, (Its z).yld j Hb x Hc → tg x (wipe σ₀ own) Hc fun τ Hd => wipe τ own = wipe σ₀ own ∧ tst τ Hd fun yes He =>
        if yes = true then el τ He fun v Hf => ∃ got, Hf L = some (.lst got) ∧ got.length < sizeLine ∧ Nx (upd Hf L (.lst (got ++ [v]))) else Nx He) := by
  refine ⟨fun j k Hb => k + j = z.cps.size ∧ Iv j Hb, ⟨z.cps.size, rfl, start⟩, fun j k Hb ⟨e, iv⟩ => ?_⟩
  cases k with
  | zero =>
    have e' : j = z.cps.size := by omega
    subst e'
    exact .inl ⟨Nat.le_refl _, fin Hb iv⟩
  | succ k =>
    refine .inr ⟨by show j < z.cps.size; omega, Iv (j + 1), fun Hc q => ⟨k, Nat.lt_succ_self k, by omega, q⟩, fun x Hc y => ?_⟩
    obtain ⟨rfl, ch, hc, rfl⟩ := y
    exact turn j ch _ hc iv
end NX
namespace K02
open PySem L2 NX NU
abbrev sLIs : Stmt := top 26
theorem scLIs : FnScope ["_law_value", "_law_sign"] ["_law_value"] (defScope sLIs) := ⟨rfl, rfl, rfl, by decide +kernel, rfl, by decide +kernel, by decide +kernel⟩
/-- one letter -/
def one (ch : Nat) : Str := ⟨#[ch]⟩
theorem strEqv (l : List Nat) : PyData.eqv (.list ((l.map one).map PyData.str)) (.list []) = l.isEmpty := by
  cases l with
  | nil => rfl
  | cons a r => rfl
theorem samePut {H H' : Hp} {D : Addr} {o : HO} (s : Same H H') (h : H D = none) : Same H (upd H' D o) := fun b u hb => by
  rw [upd_ne (ne_of_none hb h)]
  exact s b u hb
theorem layOnes : ∀ l : List Nat, (∀ ch ∈ l, ch < 256) → PyData.canLayAll0 ((l.map one).map PyData.str) = true
  | [], _ => rfl
  | a :: r, h => by
    rw [List.map_cons, List.map_cons, PyData.canLayAll0.eq_2, PyData.canLay0.eq_4, layOnes r (fun c hc => h c (List.mem_cons_of_mem _ hc)), Bool.and_true]
    have z := h a List.mem_cons_self
    show (#[a] : Array Nat).all (fun x => decide (x < 1114112)) = true
    rw [Array.all_eq_true]
    intro i hi
    have e : i = 0 := by simp at hi; exact hi
    subst e
    exact decide_eq_true (Nat.lt_trans z (by decide))
theorem depOnes : ∀ l : List Nat, PyData.depthAll ((l.map one).map PyData.str) = 0
  | [] => rfl
  | a :: r => by
    rw [List.map_cons, List.map_cons, PyData.depthAll.eq_2, depOnes r]
    rfl
theorem shapedOnes (l : List Nat) (h : ∀ ch ∈ l, ch < 256) : SeqAt.shaped (.list ((l.map one).map PyData.str)) = true := by
  unfold SeqAt.shaped
  rw [PyData.canLay0.eq_5, layOnes l h, PyData.depth.eq_def]
  show (true && decide (PyData.depthAll _ + 1 ≤ 64)) = true
  rw [depOnes]
  rfl
/-- signs of small codes -/
def okS (z : Str) : Prop := ∀ ch ∈ z.cps.toList, ch < 256
/-- a text of small signs, or no text: what the law asks of its names -/
def spLIs (K : PySem.W.Frag) : Sp := fun vs H Q _ => ∃ v, vs = [v] ∧ ((∃ z, v = .str z ∧ z.length ≤ 1000 ∧ okS z ∧ ∀ H', Same H H' → Q (.bl (nm z)) H') ∨ (NoStr K H v ∧ Q (.bl false) H))
section
variable {P : Program} {w : World} {K : PySem.W.Frag} {mg : Str → Option Value} {base : Heap}
theorem dpOnes {H : Hp} : ∀ l : List Nat, DpAll K H (l.map fun ch => V.str (one ch)) ((l.map one).map PyData.str)
  | [] => .nil
  | a :: r => .cons (.str _) (dpOnes r)
theorem in16 (n : Nat) : (if true = true then !inV (.int (n : Int)) [.int 1, .int 2, .int 3, .int 4, .int 5, .int 6] else inV (.int (n : Int)) [.int 1, .int 2, .int 3, .int 4, .int 5, .int 6]) = !decide (1 ≤ n ∧ n ≤ 6) := by
  rw [if_pos rfl]
  congr 1
  match n with
  | 0 | 1 | 2 | 3 | 4 | 5 | 6 => rfl
  | n + 7 =>
    rw [decide_eq_false (by omega)]
    have ne : ∀ k : Int, k ≤ 6 → eqV (.int k) (.int ((n + 7 : Nat) : Int)) = false := fun k hk => by
      have q : ¬ k = ((n + 7 : Nat) : Int) := by omega
      show (k == ((n + 7 : Nat) : Int)) = false
      exact beq_eq_false_iff_ne.mpr q
    simp only [inV, List.any_cons, List.any_nil, ne 1 (by decide), ne 2 (by decide), ne 3 (by decide), ne 4 (by decide), ne 5 (by decide), ne 6 (by decide), Bool.or_false]
theorem ok_lis {f : Addr} {fd : FuncData} (F : Fun K "_law_is_name" "_law_is_name" sLIs f fd) (T : TxtB mg) : FnOk P w K mg base CX0 1 f fd ["_law_value"] (spLIs K) := by
  refine F.ok scLIs (fun vs H Q E h => ?_) (fun cdv A outer s H vs Q E hr h => ?_)
  · obtain ⟨v, rfl, _⟩ := h
    rfl
  · obtain ⟨v, rfl, h⟩ := h
    refine ⟨_, (pss_cons (ps_if (PW.pt (pw_or (pt_not (pt_val (pe_callB call_isi (by rfl) T.bisinstance (by decide +kernel) (pa_cons (pv 0) (pa_cons (pe_bltn (v := .ty "str") (by rfl) T.bstr (by decide +kernel) rfl) pa_nil))))) (pw_or1 (pt_cmpR op_notIn_seq (pe_callB call_len_str (by rfl) T.blen (by decide +kernel) (pa_cons (pv 0) pa_nil)) (pe_tup (pa_cons pe_int (pa_cons pe_int (pa_cons pe_int (pa_cons pe_int (pa_cons pe_int (pa_cons pe_int pa_nil))))))) rfl)))) (pss_one (ps_ret pe_bl)) pss_nil)
      (pss_one (ps_ret (pe_cmpR (op_eqD hr.units) (pe_lc (own := [("_law_sign", 1)]) (g := gName 1) rfl scLIs.nd (pi_str (pv 0)) (blkOk_by (own := [("_law_sign", 1)]) (N := ["_law_value", "_law_sign"]) (sc := defScope sLIs) (by decide +kernel)) (fun _ _ _ _ _ => (pg_name (i := 1) scLIs.nd rfl (Or.inl rfl))) (fun _ _ _ _ _ => (pts_one (pt_cmpR op_notIn_sign (pv 1) pe_str rfl))) (fun _ _ _ _ _ => (pv 1))) (pe_lst pa_nil) (nomark _))))), ?_⟩
    rcases h with ⟨z, rfl, hz, ho, q⟩ | ⟨⟨t, ty, k⟩, q⟩
    · refine ⟨_, rfl, _, _, _, _, true, rfl, .ty "str", .base (.str z), kit_ty (by decide +kernel), true, rfl, iteF ?_⟩
      refine ⟨_, rfl, z, rfl, Nat.le_of_lt (small1000 hz), by show 6 ≤ sizeLine; decide, fun p hp => ?_⟩
      have s1 : Same H (upd H p (.tup [.int 1, .int 2, .int 3, .int 4, .int 5, .int 6])) := Same.new hp
      refine ⟨p, _, rfl, .inr (SqT.of upd_same), rfl, rfl, _, rfl, ?_⟩
      rw [in16]
      by_cases few : 1 ≤ z.length ∧ z.length ≤ 6
      · rw [decide_eq_true few]
        refine iteF ⟨_, rfl, z, rfl, fun D hD => ?_⟩
        refine lcTxt (fun i H' => Same H H' ∧ ∃ l : List Nat, l = ((z.cps.toList.take i).filter fun ch => !lett ch) ∧ H' D = some (.lst (l.map fun ch => V.str (one ch)))) ?_ ?_ ?_
        · exact ⟨s1.trans (Same.new hD), [], rfl, upd_same⟩
        · intro i ch H' hc hP
          obtain ⟨s', l, hl, hD'⟩ := hP
          have hD0 : H D = none := sameNone s1 hD
          have hin : decide (ch ∈ (Str.ofString "abcdefghijklmnopqrstuvwxyz").cps.toList) = lett ch := by
            rw [Bool.eq_iff_iff, decide_eq_true_eq]
            exact letters_mem ch
          have ht : z.cps.toList.take (i + 1) = z.cps.toList.take i ++ [ch] := by
            rw [List.take_succ, Array.getElem?_toList, hc]
            rfl
          have hf : (z.cps.toList.take (i + 1)).filter (fun ch => !lett ch) = l ++ (if lett ch = true then [] else [ch]) := by
            rw [ht, List.filter_append, hl, List.filter_cons, List.filter_nil]
            cases lett ch <;> rfl
          refine ⟨rfl, _, rfl, ch, _, rfl, rfl, _, rfl, ?_⟩
          rw [hin]
          cases hlt : lett ch with
          | true =>
            refine iteF ⟨s', l, ?_, hD'⟩
            rw [hf, hlt]
            simp
          | false =>
            refine iteT ⟨_, rfl, _, hD', ?_, samePut s' hD0, l ++ [ch], ?_, ?_⟩
            · rw [List.length_map, hl]
              refine Nat.lt_of_le_of_lt (List.length_filter_le _ _) (Nat.lt_of_le_of_lt (List.length_take_le' _ _) ?_)
              rw [Array.length_toList]
              exact Nat.lt_of_le_of_lt (show z.length ≤ 1000 from hz) (by decide)
            · rw [hf, hlt]
              simp
            · rw [upd_same, List.map_append]
              rfl
        · intro H' hP
          obtain ⟨s', l, hl, hD'⟩ := hP
          have hl : l = z.cps.toList.filter fun ch => !lett ch := by
            rw [hl, ← Array.length_toList, List.take_length]
          refine ⟨by show 0 ≤ sizeLine; decide, fun r hr2 => ?_⟩
          refine ⟨_, _, .lst (SqL.of (by rw [upd_ne (ne_of_none hD' hr2)]; exact hD')) (dpOnes l), .lst (SqL.of upd_same) .nil, shapedOnes l (fun c hc => ho c (List.mem_filter.mp (hl ▸ hc)).1), by decide +kernel, ?_⟩
          rw [strEqv]
          have e : l.isEmpty = nm z := by
            unfold nm
            rw [decide_eq_true few.1, decide_eq_true few.2, hl, Bool.eq_iff_iff, List.isEmpty_iff, List.filter_eq_nil_iff, Bool.true_and, Bool.true_and, List.all_eq_true]
            simp
          rw [e]
          exact q _ (s'.trans (Same.new hr2))
      · rw [decide_eq_false few]
        have e : nm z = false := by
          unfold nm
          by_cases a : 1 ≤ z.length
          · rw [decide_eq_false (fun b => few ⟨a, b⟩ : ¬ z.length ≤ 6)]
            simp
          · rw [decide_eq_false a]
            rfl
        have q := q _ s1
        rw [e] at q
        exact iteT q
    · exact ⟨_, rfl, _, _, _, _, false, rfl, .ty "str", ty, k, false, rfl, iteT (iteT q)⟩
end
end K02

set_option Elab.async false
set_option linter.all false
set_option maxRecDepth 100000
set_option maxHeartbeats 4000000
namespace K02
open PySem L2 NX NU
abbrev sDue : Stmt := top 27
theorem scDue : FnScope ["_law_values_here", "_law_first", "_law_value", "_law_used_here", "_law_at"] ["_law_values_here", "_law_first"] (defScope sDue) := ⟨rfl, rfl, rfl, by decide +kernel, rfl, by decide +kernel, by decide +kernel⟩
def Fa.word : Fa → Str
  | .nm _ => "name"
  | .tw _ => "twice"
  | .mn => "many"
  | .em => "deed"
/-- what the law tells of a refusal -/
def Tells (H : Hp) (Q : VK) : Option Fa → Prop
  | none => ∀ H', Same H H' → Q .non H'
  | some f => ∀ p H', Same H H' → H p = none → H' p = some (.tup [.str f.word, f.val]) → Q (.ref p) H'
/-- a text of small signs, or none -/
def Sml (K : PySem.W.Frag) (H : Hp) (v : V) : Prop := (∃ z, v = .str z ∧ z.length ≤ 1000 ∧ okS z) ∨ NoStr K H v
def spDue (K : PySem.W.Frag) : Sp := fun vs H Q _ => ∃ (l : Addr) (k : Nat) (xs : List V) (r : Option Fa), vs = [.ref l, .int (k : Int)] ∧ SqL K H l xs ∧ xs.length ≤ 60 ∧ k ≤ xs.length ∧ (∀ v ∈ xs, Sml K H v) ∧ DueF K H xs k r ∧ Tells H Q r
theorem cut_from (xs : List V) (k : Nat) : cutV xs (some (k : Int)) none = xs.drop k := by
  unfold cutV
  rw [HT.sIx_none, HT.sIx_nat, ← List.length_drop]
  by_cases h : k ≤ xs.length
  · rw [Nat.min_eq_left h, List.take_length]
  · rw [Nat.min_eq_right (by omega), List.drop_length, List.take_nil, List.drop_of_length_le (by omega)]
theorem cut_to (xs : List V) (k : Nat) : cutV xs none (some (k : Int)) = xs.take k := by
  unfold cutV
  rw [HT.sIx_none, HT.sIx_nat, List.drop_zero, Nat.sub_zero]
  by_cases h : k ≤ xs.length
  · rw [Nat.min_eq_left h]
  · rw [Nat.min_eq_right (by omega), List.take_length, List.take_of_length_le (by omega)]
theorem in_txts (z : Str) : ∀ l : List Str, inV (.str z) (l.map V.str) = decide (z ∈ l)
  | [] => rfl
  | a :: l => by
    have q := in_txts z l
    unfold inV at q ⊢
    rw [List.map_cons, List.any_cons, q, Bool.eq_iff_iff]
    simp only [Bool.or_eq_true, decide_eq_true_eq, List.mem_cons]
    exact ⟨fun h => h.imp (fun e => by have e : (a == z) = true := e; exact (beq_iff_eq.mp e).symm) id, fun h => h.imp (fun e => by show (a == z) = true; rw [e]; exact beq_self_eq_true a) id⟩
theorem flat_txts : ∀ l : List Str, (l.map V.str).all flatV = true
  | [] => rfl
  | a :: l => by rw [List.map_cons, List.all_cons, flat_txts l]; rfl
theorem sqL_same {K : PySem.W.Frag} {H H' : Hp} {a : Addr} {xs : List V} (s : Same H H') (h : SqL K H a xs) : SqL K H' a xs := by
  rcases h with (h | ⟨o, h⟩) | h
  · exact .inl (.inl (s _ _ h))
  · exact .inl (.inr ⟨o, s _ _ h⟩)
  · exact .inr h
theorem Tells.old {H H' : Hp} {Q : VK} {r : Option Fa} (s : Same H H') (h : Tells H Q r) : Tells H' Q r := by
  cases r with
  | none => exact fun H2 s2 => h H2 (s.trans s2)
  | some f => exact fun p H2 s2 hp e => h p H2 (s.trans s2) (sameNone s hp) e
theorem Tells.tup {H : Hp} {Q : VK} {f : Fa} (h : Tells H Q (some f)) : [V.str f.word, f.val].length ≤ sizeLine ∧ ∀ p, H p = none → Q (.ref p) (upd H p (.tup [V.str f.word, f.val])) :=
  ⟨by show 2 ≤ sizeLine; decide, fun p hp => h p _ (Same.new hp) hp upd_same⟩
theorem Sml.same {K : PySem.W.Frag} {H H' : Hp} {v : V} (s : Same H H') (h : Sml K H v) : Sml K H' v := h.imp id (fun h => h.same s)
theorem Sml.txt {K : PySem.W.Frag} {H : Hp} {z : Str} (h : Sml K H (.str z)) : okS z := by
  rcases h with ⟨y, e, _, k⟩ | h
  · injection e with e
    rw [e]
    exact k
  · exact (noStr_str h).elim
theorem same_refl {H : Hp} : Same H H := fun _ _ e => e
theorem layTxts : ∀ l : List Str, (∀ z ∈ l, okS z) → PyData.canLayAll0 (l.map PyData.str) = true
  | [], _ => rfl
  | a :: r, h => by
    rw [List.map_cons, PyData.canLayAll0.eq_2, PyData.canLay0.eq_4, layTxts r (fun c hc => h c (List.mem_cons_of_mem _ hc)), Bool.and_true]
    have z := h a List.mem_cons_self
    show a.cps.all (fun x => decide (x < 1114112)) = true
    rw [Array.all_eq_true]
    intro i hi
    exact decide_eq_true (Nat.lt_trans (z _ (by rw [Array.mem_toList_iff]; exact Array.getElem_mem hi)) (by decide))
theorem depTxts : ∀ l : List Str, PyData.depthAll (l.map PyData.str) = 0
  | [] => rfl
  | a :: r => by
    rw [List.map_cons, PyData.depthAll.eq_2, depTxts r]
    rfl
theorem shapedTxts (l : List Str) (h : ∀ z ∈ l, okS z) : SeqAt.shaped (.list (l.map PyData.str)) = true := by
  unfold SeqAt.shaped
  rw [PyData.canLay0.eq_5, layTxts l h, PyData.depth.eq_def]
  show (true && decide (PyData.depthAll _ + 1 ≤ 64)) = true
  rw [depTxts]
  rfl
theorem dpTxts {K : PySem.W.Frag} {H : Hp} : ∀ l : List Str, DpAll K H (l.map V.str) (l.map PyData.str)
  | [] => .nil
  | a :: r => .cons (.str _) (dpTxts r)
theorem eqvTxts (l : List Str) : PyData.eqv (.list (l.map PyData.str)) (.list []) = l.isEmpty := by
  cases l with
  | nil => rfl
  | cons a r => rfl
section
variable {P : Program} {w : World} {K : PySem.W.Frag} {mg : Str → Option Value} {base : Heap}
theorem ok_due {f : Addr} {fd : FuncData} (F : Fun K "_law_due" "_law_due" sDue f fd) (T : TxtB mg) (cLis : C8.Cal P w K mg base 1 "_law_is_name" (spLIs K) []) : FnOk P w K mg base CX0 2 f fd ["_law_values_here", "_law_first"] (spDue K) := by
  refine F.ok scDue (fun vs H Q E h => ?_) (fun cdv A outer s H vs Q E hr h => ?_)
  · obtain ⟨l, k, xs, r, rfl, _⟩ := h
    rfl
  · obtain ⟨l, k, xs, r, rfl, hS, few, hk, sml, hD, h⟩ := h
    refine ⟨_, (pss_cons (ps_for PassesOwn.never rfl (pi_list (pv 0)) (pg_name (i := 2) scDue.nd rfl (Or.inl rfl)) (pss_one (ps_if (pt_not (pt_val (C8.pe_c cLis hr (by decide) rfl (pa_cons (pv 2) pa_nil)))) (pss_one (ps_ret (pe_tup (pa_cons pe_str (pa_cons (pv 2) pa_nil))))) pss_nil)))
      (pss_cons (ps_set (i := 3) scDue.nd rfl (Or.inl rfl) (pe_slice sl_list (pv 0) (po_some (pv 1)) po_none))
      (pss_cons (ps_for PassesOwn.never rfl (pi_range1 (by rfl) T.brange (pa_cons (pe_callB call_len_seq (by rfl) T.blen (by decide +kernel) (pa_cons (pv 3) pa_nil)) pa_nil)) (pg_name (i := 4) scDue.nd rfl (Or.inl rfl)) (pss_one (ps_if (pt_cmpR op_in_seq (pe_ix ix_list (pv 3) (pv 4) (fun _ _ => rfl)) (pe_slice sl_list (pv 3) po_none (po_some (pv 4))) rfl) (pss_one (ps_ret (pe_tup (pa_cons pe_str (pa_cons (pe_ix ix_list (pv 3) (pv 4) (fun _ _ => rfl)) pa_nil))))) pss_nil)))
      (pss_cons (ps_if (pt_cmpR op_gt (pe_callB call_len_seq (by rfl) T.blen (by decide +kernel) (pa_cons (pv 3) pa_nil)) pe_int (nomark _)) (pss_one (ps_ret (pe_tup (pa_cons pe_str (pa_cons pe_int pa_nil))))) pss_nil)
      (pss_one (ps_ret (pe_ifExp (PW.pt (pw_and (pt_cmpR (op_eqD hr.units) (pv 3) (pe_lst pa_nil) (nomark _)) (pw_and1 (pt_cmpR op_eq (pe_callB call_len_seq (by rfl) T.blen (by decide +kernel) (pa_cons (pv 0) pa_nil)) (pv 1) (nomark _))))) (pe_tup (pa_cons pe_str (pa_cons pe_non pa_nil))) pe_non))))))), ?_⟩
    refine ⟨_, rfl, l, rfl, ⟨xs, hS⟩, ?_⟩
    cases hD with
    | nm b =>
      rename_i us v
      obtain ⟨rest, rfl, hn, bad⟩ := b
      refine for_list (xs := us.map V.str ++ v :: rest) (fun i σ H' => i ≤ us.length ∧ Same H H' ∧ ∃ y, σ = [some (.ref l), some (.int k), y, none, none]) ⟨Nat.zero_le _, same_refl, _, rfl⟩ (fun i σ H' _ ⟨_, s, _⟩ => sqL_same s hS) (fun i x σ H' hx ⟨hi, s, y, e⟩ => ?_) (fun σ H' ⟨hi, _⟩ => ?_)
      · subst e
        have sm := (sml x (List.mem_of_getElem? hx)).same s
        by_cases lt : i < us.length
        · rw [List.getElem?_append_left (by rw [List.length_map]; exact lt), List.getElem?_map, List.getElem?_eq_getElem lt] at hx
          obtain rfl := Option.some.inj hx
          obtain ⟨h1, h2⟩ := hn us[i] (List.getElem_mem lt)
          refine ⟨_, rfl, _, rfl, .inl ⟨us[i], rfl, h1, sm.txt, fun H2 s2 => ?_⟩⟩
          rw [h2]
          exact ⟨_, rfl, iteF ⟨lt, s.trans s2, _, rfl⟩⟩
        · obtain rfl : i = us.length := by omega
          rw [List.getElem?_append_right (by rw [List.length_map]; exact Nat.le_refl _), List.length_map, Nat.sub_self] at hx
          obtain rfl : v = x := Option.some.inj hx
          rcases bad with ⟨z, rfl, hz, hb⟩ | bad
          · refine ⟨_, rfl, _, rfl, .inl ⟨z, rfl, hz, sm.txt, fun H2 s2 => ?_⟩⟩
            rw [hb]
            exact ⟨_, rfl, iteT ⟨_, rfl, (h.old (s.trans s2)).tup⟩⟩
          · exact ⟨_, rfl, _, rfl, .inr ⟨bad.same s, _, rfl, iteT ⟨_, rfl, (h.old s).tup⟩⟩⟩
      · rw [List.length_append, List.length_map, List.length_cons] at hi
        omega
    | rest e hn hU =>
      rename_i ws
      subst e
      rw [List.length_map] at few hk
      refine for_list (xs := ws.map V.str) (fun i σ H' => Same H H' ∧ ∃ y, σ = [some (.ref l), some (.int k), y, none, none]) ⟨same_refl, _, rfl⟩ (fun i σ H' _ ⟨s, _⟩ => sqL_same s hS) (fun i x σ H' hx ⟨s, y, e⟩ => ?_) (fun σ H' ⟨s, y, e⟩ => ?_)
      · subst e
        have sm := (sml x (List.mem_of_getElem? hx)).same s
        rw [List.getElem?_map] at hx
        obtain ⟨z, hz, rfl⟩ : ∃ z, ws[i]? = some z ∧ V.str z = x := by
          cases e : ws[i]? with
          | none => rw [e] at hx; cases hx
          | some z => rw [e] at hx; exact ⟨z, rfl, Option.some.inj hx⟩
        obtain ⟨h1, h2⟩ := hn z (List.mem_of_getElem? hz)
        refine ⟨_, rfl, _, rfl, .inl ⟨z, rfl, h1, sm.txt, fun H2 s2 => ?_⟩⟩
        rw [h2]
        exact ⟨_, rfl, iteF ⟨s.trans s2, _, rfl⟩⟩
      · subst e
        have h := h.old s
        refine ⟨_, rfl, _, rfl, _, rfl, l, _, rfl, sqL_same s hS, fun u hu => ?_⟩
        rw [cut_from, ← List.map_drop]
        have s1 : Same H' (upd H' u (.lst ((ws.drop k).map V.str))) := Same.new hu
        have nu : Nms (ws.drop k) := fun z hz => hn z (List.mem_of_mem_drop hz)
        have fu : (ws.drop k).length ≤ 60 := by rw [List.length_drop]; omega
        have full : ws.drop k = [] ↔ ws.length = k := by rw [← List.length_eq_zero_iff, List.length_drop]; omega
        have sw : ∀ z ∈ ws.drop k, okS z := fun z hz => Sml.txt (sml (.str z) (List.mem_map.mpr ⟨z, List.mem_of_mem_drop hz, rfl⟩))
        have h := h.old s1
        have g1 : upd H' u (.lst ((ws.drop k).map V.str)) u = some (.lst ((ws.drop k).map V.str)) := upd_same
        have S2 := sqL_same (s.trans s1) hS
        generalize upd H' u (.lst ((ws.drop k).map V.str)) = G at g1 h S2 ⊢
        generalize ws.drop k = us at *
        clear hu s1
        refine ⟨_, rfl, u, _, rfl, .inl (SqL.of g1), ((us.map V.str).length : Nat), rfl, by omega, by rw [List.length_map]; omega, ?_⟩
        rw [List.length_map]
        have sp : (∃ n z, Rep us n z ∧ Tells G Q (some (.tw z))) ∨ (NoRep us ∧ (3 < us.length → Tells G Q (some .mn)) ∧ (us = [] → Tells G Q (some .em)) ∧ (0 < us.length → us.length ≤ 3 → Tells G Q none)) := by
          cases hU with
          | tw rp => exact .inl ⟨_, _, rp, h⟩
          | mn nr l => exact .inr ⟨nr, fun _ => h, fun e => (by rw [e] at l; cases l), fun _ l3 => (by omega)⟩
          | em e => exact .inr ⟨(by rw [e]; exact fun i z q => by simp at q), fun l => (by rw [e] at l; cases l), fun _ => h, fun l0 => (by rw [e] at l0; cases l0)⟩
          | ok nr l0 l3 => exact .inr ⟨nr, fun l => (by omega), fun e => (by rw [e] at l0; cases l0), fun _ _ => h⟩
        rcases sp with ⟨n, zn, ⟨hz, hin, first⟩, h⟩ | ⟨nr, q1, q2, q3⟩
        · have ltn : n < us.length := (List.getElem?_eq_some_iff.mp hz).1
          refine for_range (n := us.length) (fun i σ H2 => i ≤ n ∧ Same G H2 ∧ ∃ y4, σ = [some (.ref l), some (.int k), y, some (.ref u), y4]) ⟨Nat.zero_le _, same_refl, _, rfl⟩ (fun i σ H2 lt ⟨hi, s2, y4, e⟩ => ?_) (fun σ H2 ⟨hi, _⟩ => by omega)
          subst e
          have at_ : us[i]? = some us[i] := List.getElem?_eq_getElem lt
          have atv : (us.map V.str)[i]? = some (V.str us[i]) := by rw [List.getElem?_map, at_]; rfl
          rw [Int.zero_add]
          refine ⟨_, rfl, _, rfl, u, _, (i : Int), _, rfl, rfl, SqL.of (s2 _ _ g1), atI_nat atv, _, rfl, _, rfl, _, rfl, u, _, rfl, SqL.of (s2 _ _ g1), fun t ht => ?_⟩
          rw [cut_to, ← List.map_take]
          refine ⟨t, _, rfl, .inl (SqL.of upd_same), rfl, flat_txts _, _, rfl, ?_⟩
          rw [if_neg Bool.false_ne_true, in_txts]
          have s3 := s2.trans (Same.new (o := .lst ((us.take i).map V.str)) ht)
          by_cases en : i = n
          · subst en
            rw [hz] at at_
            have ez : zn = us[i] := Option.some.inj at_
            rw [← ez, decide_eq_true hin]
            refine iteT ⟨_, rfl, _, rfl, u, _, (i : Int), _, rfl, rfl, SqL.of (s3 _ _ g1), atI_nat atv, ?_⟩
            rw [← ez]
            exact (h.old s3).tup
          · rw [decide_eq_false (first i (by omega) _ at_)]
            exact iteF ⟨by omega, s3, _, rfl⟩
        · refine for_range (n := us.length) (fun i σ H2 => Same G H2 ∧ ∃ y4, σ = [some (.ref l), some (.int k), y, some (.ref u), y4]) ⟨same_refl, _, rfl⟩ (fun i σ H2 lt ⟨s2, y4, e⟩ => ?_) (fun σ H2 ⟨s2, y4, e⟩ => ?_)
          · subst e
            have at_ : us[i]? = some us[i] := List.getElem?_eq_getElem lt
            have atv : (us.map V.str)[i]? = some (V.str us[i]) := by rw [List.getElem?_map, at_]; rfl
            rw [Int.zero_add]
            refine ⟨_, rfl, _, rfl, u, _, (i : Int), _, rfl, rfl, SqL.of (s2 _ _ g1), atI_nat atv, _, rfl, _, rfl, _, rfl, u, _, rfl, SqL.of (s2 _ _ g1), fun t ht => ?_⟩
            rw [cut_to, ← List.map_take]
            refine ⟨t, _, rfl, .inl (SqL.of upd_same), rfl, flat_txts _, _, rfl, ?_⟩
            rw [if_neg Bool.false_ne_true, in_txts]
            have s3 := s2.trans (Same.new (o := .lst ((us.take i).map V.str)) ht)
            rw [decide_eq_false (nr i _ at_)]
            exact iteF ⟨s3, _, rfl⟩
          subst e
          refine ⟨_, rfl, u, _, rfl, .inl (SqL.of (s2 _ _ g1)), _, _, rfl, rfl, _, rfl, ite2 (fun h1 => ?_) (fun h1 => ?_)⟩
          · have h1 := of_decide_eq_true h1
            rw [List.length_map] at h1
            exact ((q1 (by omega)).old s2).tup
          · have h1 : ¬ ((us.map V.str).length : Int) > 3 := fun z => h1 (decide_eq_true z)
            rw [List.length_map] at h1
            refine ⟨_, rfl, by show 0 ≤ sizeLine; decide, fun t ht => ?_⟩
            have s3 := s2.trans (Same.new (o := .lst []) ht)
            refine ⟨_, _, .lst (SqL.of (s3 _ _ g1)) (dpTxts us), .lst (SqL.of upd_same) .nil, shapedTxts us sw, by decide +kernel, ?_⟩
            rw [eqvTxts]
            cases us with
            | nil =>
              refine ⟨_, rfl, iteT ⟨_, rfl, l, _, rfl, .inl (sqL_same s3 S2), _, rfl, rfl, _, rfl, ?_⟩⟩
              rw [List.length_map, decide_eq_true (by rw [full.mp rfl])]
              exact iteT ((q2 rfl).old s3).tup
            | cons a us => exact ⟨_, rfl, iteF (iteF (q3 (Nat.succ_pos _) (by omega) _ s3))⟩
end
end K02

set_option Elab.async false
set_option linter.all false
set_option maxRecDepth 100000
set_option maxHeartbeats 4000000
namespace K02
open PySem L2 NX NU
abbrev sOdd : Stmt := top 30
theorem scOdd : FnScope ["_law_pen_here", "_law_some"] ["_law_pen_here"] (defScope sOdd) := ⟨rfl, rfl, rfl, by decide +kernel, rfl, by decide +kernel, by decide +kernel⟩
def oddT : List Str := ["", "A", "a b", "abcdefg", "a1", " a", "a\n", "-"]
/-- a value that is no name, as the law draws it -/
inductive Ov (H : Hp) : V → Prop
  | non : Ov H .non
  | bl : Ov H (.bl true)
  | i0 : Ov H (.int 0)
  | i9 : Ov H (.int (10 ^ 59))
  | tx {z : Str} : z ∈ oddT → Ov H (.str z)
  | tup {a : Addr} : H a = some (.tup [.str "a"]) → Ov H (.ref a)
  | lst {a : Addr} : H a = some (.lst [.str "a"]) → Ov H (.ref a)
  | d1 {a : Addr} : H a = some (.dK [(.inr "a", .int 1)]) → Ov H (.ref a)
  | d0 {a : Addr} : H a = some (.dK []) → Ov H (.ref a)
theorem Ov.but {H H' : Hp} {p c : Addr} {ns : List Int} {x y : Int} {v : V} (P : Pen H p c ns x y) (b : But p H H') (h : Ov H v) : Ov H' v := by
  have away : ∀ {a : Addr} {o : HO}, H a = some o → o ≠ .lst [.ref c, .int x, .int y] → H' a = some o := fun {a o} e ne => b a o e fun z => by
    rw [z, P.hp] at e
    exact ne (Option.some.inj e).symm
  cases h with
  | non => exact .non
  | bl => exact .bl
  | i0 => exact .i0
  | i9 => exact .i9
  | tx h => exact .tx h
  | tup h => exact .tup (away h (fun e => by cases e))
  | lst h => exact .lst (away h (fun e => by injection e with e; injection e with e; cases e))
  | d1 h => exact .d1 (away h (fun e => by cases e))
  | d0 h => exact .d0 (away h (fun e => by cases e))
theorem oddT_no : oddT.all (fun z => !nm z && decide (z.length ≤ 1000) && z.cps.toList.all (fun c => decide (c < 256))) = true := by decide +kernel
theorem oddT_at {z : Str} (h : z ∈ oddT) : nm z = false ∧ z.length ≤ 1000 ∧ okS z := by
  have q := List.all_eq_true.mp oddT_no z h
  rw [Bool.and_eq_true, Bool.and_eq_true, Bool.not_eq_true', decide_eq_true_eq, List.all_eq_true] at q
  exact ⟨q.1.1, q.1.2, fun c hc => of_decide_eq_true (q.2 c hc)⟩
theorem Ov.no {K : PySem.W.Frag} {H : Hp} {v : V} (h : Ov H v) : NoNm K H v := by
  cases h with
  | non => exact .inr ⟨_, .base .non, kit_ty (by decide +kernel)⟩
  | bl => exact .inr ⟨_, .base (.bl _), kit_ty (by decide +kernel)⟩
  | i0 => exact .inr ⟨_, .base (.int _), kit_ty (by decide +kernel)⟩
  | i9 => exact .inr ⟨_, .base (.int _), kit_ty (by decide +kernel)⟩
  | tx h => exact .inl ⟨_, rfl, (oddT_at h).2.1, (oddT_at h).1⟩
  | tup h => exact .inr ⟨_, .base (.tup h), kit_ty (by decide +kernel)⟩
  | lst h => exact .inr ⟨_, .base (.lst h), kit_ty (by decide +kernel)⟩
  | d1 h => exact .inr ⟨_, .base (.dK h), kit_ty (by decide +kernel)⟩
  | d0 h => exact .inr ⟨_, .base (.dK h), kit_ty (by decide +kernel)⟩
theorem Ov.sml {K : PySem.W.Frag} {H : Hp} {v : V} (h : Ov H v) : Sml K H v := by
  cases h with
  | tx h => exact .inl ⟨_, rfl, (oddT_at h).2⟩
  | non => exact .inr ⟨_, .base .non, kit_ty (by decide +kernel)⟩
  | bl => exact .inr ⟨_, .base (.bl _), kit_ty (by decide +kernel)⟩
  | i0 => exact .inr ⟨_, .base (.int _), kit_ty (by decide +kernel)⟩
  | i9 => exact .inr ⟨_, .base (.int _), kit_ty (by decide +kernel)⟩
  | tup h => exact .inr ⟨_, .base (.tup h), kit_ty (by decide +kernel)⟩
  | lst h => exact .inr ⟨_, .base (.lst h), kit_ty (by decide +kernel)⟩
  | d1 h => exact .inr ⟨_, .base (.dK h), kit_ty (by decide +kernel)⟩
  | d0 h => exact .inr ⟨_, .base (.dK h), kit_ty (by decide +kernel)⟩
def spOdd : Sp := fun vs H Q _ => ∃ (p c : Addr) (ns : List Int) (at_ rest : Int), vs = [.ref p] ∧ Pen H p c ns at_ rest ∧ at_ ≤ 900000 ∧ ∀ v H', Ov H' v → (∀ a, v = .ref a → H a = none) → Drawn H p c ns (at_ + 1) H' → Q v H'
def oddL (a b d e : Addr) : List V := [.non, .bl true, .int 0, .int (10 ^ 59)] ++ oddT.map V.str ++ [.ref a, .ref b, .ref d, .ref e]
section
variable {P : Program} {w : World} {K : PySem.W.Frag} {mg : Str → Option Value} {base : Heap}
theorem ok_odd {f : Addr} {fd : FuncData} (F : Fun K "_law_odd" "_law_odd" sOdd f fd) (cPick : C8.Cal P w K mg base 2 "_law_pick" (spPick K) []) : FnOk P w K mg base CX0 3 f fd ["_law_pen_here"] spOdd := by
  refine F.ok scOdd (fun vs H Q E h => ?_) (fun cdv A outer s H vs Q E hr h => ?_)
  · obtain ⟨p, c, ns, a, r, rfl, _⟩ := h
    rfl
  · obtain ⟨p, c, ns, at_, rest, rfl, Pn, ha, k⟩ := h
    refine ⟨_, (pss_cons (ps_set (i := 1) scOdd.nd rfl (Or.inl rfl) (pe_lst (pa_cons pe_non (pa_cons pe_bl (pa_cons pe_int (pa_cons (pe_op op_pow pe_int pe_int) (pa_cons pe_str (pa_cons pe_str (pa_cons pe_str (pa_cons pe_str (pa_cons pe_str (pa_cons pe_str (pa_cons pe_str (pa_cons pe_str (pa_cons (pe_tup (pa_cons pe_str pa_nil)) (pa_cons (pe_lst (pa_cons pe_str pa_nil)) (pa_cons (pe_disp (pps_cons pe_str pe_int pps_nil) rfl rfl (by intro h; cases h) (by decide)) (pa_cons pe_dnewK pa_nil))))))))))))))))))
      (pss_one (ps_ret (C8.pe_c cPick hr (by decide) rfl (pa_cons (pv 0) (pa_cons (pv 1) pa_nil)))))), ?_⟩
    refine ⟨10, 59, rfl, rfl, ⟨by decide, by decide, by decide⟩, by decide, fun a1 h1 => ⟨by decide, fun a2 h2 => fun a3 h3 => ?_⟩⟩
    refine ⟨upd_same, [(.inr "a", .int 1)], rfl, by decide, fun a4 h4 => ?_⟩
    have em : mergeK [] [(Sum.inr (Str.ofString "a"), V.int 1)] = [((Sum.inr (Str.ofString "a") : Key), V.int 1)] := rfl
    rw [em] at h4 ⊢
    have h3' : H a3 = none := sameNone ((Same.new h1).trans (Same.new h2)) h3
    have s3 : Same H (upd (upd (upd (upd H a1 (.tup [.str "a"])) a2 (.lst [.str "a"])) a3 (.dK [])) a3 (.dK [(.inr "a", .int 1)])) := samePut (((Same.new h1).trans (Same.new h2)).trans (Same.new h3)) h3'
    have put : ∀ {b : Addr} {o : HO}, (upd (upd H a1 (.tup [.str "a"])) a2 (.lst [.str "a"])) b = some o → (upd (upd (upd (upd H a1 (.tup [.str "a"])) a2 (.lst [.str "a"])) a3 (.dK [])) a3 (.dK [(.inr "a", .int 1)])) b = some o := fun {b o} hb => by
      rw [upd_ne (ne_of_none hb h3), upd_ne (ne_of_none hb h3)]
      exact hb
    have g1 := put ((upd_ne (ne_of_none upd_same h2)).trans upd_same)
    have g2 := put (upd_same (o := .lst [.str "a"]) (H := upd H a1 (.tup [.str "a"])) (a := a2))
    have g3 : (upd (upd (upd (upd H a1 (.tup [.str "a"])) a2 (.lst [.str "a"])) a3 (.dK [])) a3 (.dK [(.inr "a", .int 1)])) a3 = some (.dK [(.inr "a", .int 1)]) := upd_same
    clear put
    generalize (upd (upd (upd (upd H a1 (.tup [.str "a"])) a2 (.lst [.str "a"])) a3 (.dK [])) a3 (.dK [(.inr "a", .int 1)])) = G at *
    refine ⟨by show 16 ≤ sizeLine; decide, fun a5 h5 => ?_⟩
    have k1 := (upd_ne (o := .dK []) (ne_of_none g1 h4)).trans g1
    have k2 := (upd_ne (o := .dK []) (ne_of_none g2 h4)).trans g2
    have k3 := (upd_ne (o := .dK []) (ne_of_none g3 h4)).trans g3
    have k4 : (upd G a4 (.dK [])) a4 = some (.dK []) := upd_same
    have s4 : Same H (upd G a4 (.dK [])) := s3.trans (Same.new h4)
    generalize (upd G a4 (.dK [])) = G4 at *
    have s5 : Same G4 (upd G4 a5 (.lst (oddL a1 a2 a3 a4))) := Same.new h5
    have n5 : a5 ≠ p := fun e => by
      rw [e, s4 _ _ Pn.hp] at h5
      cases h5
    refine ⟨_, rfl, _, rfl, p, c, ns, at_, rest, .ref a5, rfl, Pn.same (s4.trans s5), by omega, .inl ⟨a5, oddL a1 a2 a3 a4, rfl, SqL.of upd_same, n5, by show 0 < 16; decide, by show 16 < 1000; decide, fun v H2 hv hD => ?_⟩⟩
    have B : But p G4 H2 := (But.same s5).trans (by obtain ⟨_, _, _, _, B⟩ := hD; exact B)
    have P4 : Pen G4 p c ns at_ rest := Pn.same s4
    have dr : Drawn H p c ns (at_ + 1) H2 := by
      obtain ⟨x, y, P2, l2, B2⟩ := hD
      exact ⟨x, y, P2, l2, (But.same (s4.trans s5)).trans B2⟩
    have f1 : H a1 = none := h1
    have f2 : H a2 = none := sameNone (Same.new h1) h2
    have f4 : H a4 = none := sameNone s3 h4
    refine k v H2 (Ov.but (H := G4) P4 B ?_) ?_ dr
    all_goals
      unfold oddL at hv
      simp only [List.mem_append, List.mem_cons, List.not_mem_nil, or_false, List.mem_map] at hv
    · rcases hv with ((h | h | h | h) | ⟨z, hz, h⟩) | h | h | h | h <;> subst h
      · exact .non
      · exact .bl
      · exact .i0
      · exact .i9
      · exact .tx hz
      · exact .tup k1
      · exact .lst k2
      · exact .d1 k3
      · exact .d0 k4
    · intro a e
      rcases hv with ((h | h | h | h) | ⟨z, hz, h⟩) | h | h | h | h <;> subst h <;> cases e
      · exact f1
      · exact f2
      · exact h3'
      · exact f4
end
end K02

set_option Elab.async false
set_option linter.all false
set_option maxRecDepth 100000
set_option maxHeartbeats 4000000
namespace K02
open PySem L2 NX NU
abbrev sVals : Stmt := top 31
theorem scVals : FnScope ["_law_pen_here", "_law_many", "_law_found", "_law_k", "_law_way"] ["_law_pen_here", "_law_many"] (defScope sVals) := ⟨rfl, rfl, rfl, by decide +kernel, rfl, by decide +kernel, by decide +kernel⟩
def namT : List Str := ["a", "b", "c", "d", "use", "zzzzzz"]
/-- a value of the law's: a name, or none -/
def Lv (H : Hp) (v : V) : Prop := (∃ z ∈ namT, v = .str z) ∨ Ov H v
theorem Ov.upd {H : Hp} {l : Addr} {o : HO} {v : V} (h : Ov H v) (n : v ≠ .ref l) : Ov (upd H l o) v := by
  have away : ∀ {a : Addr} {u : HO}, V.ref a ≠ .ref l → H a = some u → L2.upd H l o a = some u := fun n e => (upd_ne fun z => n (by rw [z])).trans e
  cases h with
  | non => exact .non
  | bl => exact .bl
  | i0 => exact .i0
  | i9 => exact .i9
  | tx h => exact .tx h
  | tup h => exact .tup (away n h)
  | lst h => exact .lst (away n h)
  | d1 h => exact .d1 (away n h)
  | d0 h => exact .d0 (away n h)
/-- the values found so far at l -/
structure Got (H H' : Hp) (p c : Addr) (ns : List Int) (l : Addr) (m : Int) (xs : List V) : Prop where
  dr : Drawn H p c ns m H'
  at_ : H' l = some (.lst xs)
  vs : ∀ v ∈ xs, Lv H' v ∧ v ≠ .ref l
theorem Got.set {H H' : Hp} {p c l : Addr} {ns : List Int} {m : Int} {xs ys : List V} (g : Got H H' p c ns l m xs) (hl : H l = none) (lp : l ≠ p) (lc : l ≠ c) (k : ∀ v ∈ ys, Lv H' v ∧ v ≠ .ref l) : Got H (upd H' l (.lst ys)) p c ns l m ys := by
  obtain ⟨⟨x, y, P, le, B⟩, a, v⟩ := g
  refine ⟨⟨x, y, ⟨(upd_ne (Ne.symm lp)).trans P.hp, (upd_ne (Ne.symm lc)).trans P.hc, P.la, P.lr⟩, le, fun b o e n => (upd_ne (ne_of_none e hl)).trans (B b o e n)⟩, upd_same, fun v hv => ⟨?_, (k v hv).2⟩⟩
  rcases (k v hv).1 with h | h
  · exact .inl h
  · exact .inr (h.upd (k v hv).2)
/-- more is drawn -/
theorem Got.more {H H1 H2 : Hp} {p c l : Addr} {ns : List Int} {m m2 : Int} {xs : List V} (g : Got H H1 p c ns l m xs) (lp : l ≠ p) {x y : Int} (P : Pen H1 p c ns x y) (d : Drawn H1 p c ns m2 H2) : Got H H2 p c ns l m2 xs := by
  obtain ⟨⟨x1, y1, P1, le1, B1⟩, a, all⟩ := g
  obtain ⟨x2, y2, P2, le2, B2⟩ := d
  refine ⟨⟨x2, y2, P2, le2, B1.trans B2⟩, B2 l _ a lp, fun v hv => ⟨?_, (all v hv).2⟩⟩
  rcases (all v hv).1 with h | h
  · exact .inl h
  · exact .inr (h.but P B2)
theorem Got.mono {H H1 : Hp} {p c l : Addr} {ns : List Int} {m m2 : Int} {xs : List V} (g : Got H H1 p c ns l m xs) (h : m ≤ m2) : Got H H1 p c ns l m2 xs := by
  obtain ⟨⟨x, y, P, le, B⟩, a, v⟩ := g
  exact ⟨⟨x, y, P, Int.le_trans le h, B⟩, a, v⟩
theorem last_at {n i : Nat} (h : n = i + 1) : ixN n (-1) = some i := by
  subst h
  unfold ixN
  rw [if_neg (by decide), if_pos (by omega)]
  congr 1
  omega
def spVals : Sp := fun vs H Q _ => ∃ (p c : Addr) (ns : List Int) (at_ rest : Int) (m : Nat), vs = [.ref p, .int (m : Int)] ∧ Pen H p c ns at_ rest ∧ at_ ≤ 800000 ∧ m ≤ 40 ∧ ∀ l xs H', xs.length = m → H l = none → Got H H' p c ns l (at_ + 5 * m) xs → Q (.ref l) H'
section
variable {P : Program} {w : World} {K : PySem.W.Frag} {mg : Str → Option Value} {base : Heap}
theorem ok_vals {f : Addr} {fd : FuncData} (F : Fun K "_law_values" "_law_values" sVals f fd) (T : TxtB mg) (cDraw : C8.Cal P w K mg base 1 "_law_draw" spDraw []) (cPick : C8.Cal P w K mg base 2 "_law_pick" (spPick K) []) (cOdd : C8.Cal P w K mg base 3 "_law_odd" spOdd []) :
    FnOk P w K mg base CX0 4 f fd ["_law_pen_here", "_law_many"] spVals := by
  refine F.ok scVals (fun vs H Q E h => ?_) (fun cdv A outer s H vs Q E hr h => ?_)
  · obtain ⟨p, c, ns, a, r, m, rfl, _⟩ := h
    rfl
  · obtain ⟨p, c, ns, at_, rest, m, rfl, Pn, ha, hm, k⟩ := h
    refine ⟨_, (pss_cons (ps_set (i := 2) scVals.nd rfl (Or.inl rfl) (pe_lst pa_nil))
      (pss_cons (ps_for PassesOwn.never rfl (pi_range1 (by rfl) T.brange (pa_cons (pv 1) pa_nil)) (pg_name (i := 3) scVals.nd rfl (Or.inl rfl)) (pss_cons (ps_set (i := 4) scVals.nd rfl (Or.inl rfl) (C8.pe_c cDraw hr (by decide) rfl (pa_cons (pv 0) (pa_cons pe_int pa_nil))))
      (pss_cons (ps_expr (pe_bm PySem.F.plainAttrs_list PySem.F.slot_list_append PySem.F.type_list_append mt_append (pv 2) (pa_cons (C8.pe_c cPick hr (by decide) rfl (pa_cons (pv 0) (pa_cons (pe_lst (pa_cons pe_str (pa_cons pe_str (pa_cons pe_str (pa_cons pe_str (pa_cons pe_str (pa_cons pe_str pa_nil))))))) pa_nil))) pa_nil)))
      (C8.pss_cut (ps_if (pt_cmpR op_eq (pv 4) pe_int (nomark _)) (pss_one (ps_asg (C8.pe_c cOdd hr (by decide) rfl (pa_cons (pv 0) pa_nil)) (pg_sub (pv 2) (pe_un un_neg pe_int) set_list))) pss_nil)
      (pss_one (ps_if (pt_cmpR op_eq (pv 4) pe_int (nomark _)) (pss_one (ps_asg (pe_ix ix_list (pv 2) (C8.pe_c cDraw hr (by decide) rfl (pa_cons (pv 0) (pa_cons (pe_callB call_len_seq (by rfl) T.blen (by decide +kernel) (pa_cons (pv 2) pa_nil)) pa_nil))) (fun _ _ => rfl)) (pg_sub (pv 2) (pe_un un_neg pe_int) set_list))) pss_nil))))))
      (pss_one (ps_ret (pv 2))))), ?_⟩
    refine ⟨by decide, fun l hl => ?_⟩
    have lp : l ≠ p := fun e => by rw [e, Pn.hp] at hl; cases hl
    have lc : l ≠ c := fun e => by rw [e, Pn.hc] at hl; cases hl
    refine ⟨_, rfl, (m : Int), rfl, by omega, by omega, ?_⟩
    refine for_range (n := m) (fun i σ H2 => ∃ xs v3 v4, σ = [some (.ref p), some (.int m), some (.ref l), v3, v4] ∧ xs.length = i ∧ Got H H2 p c ns l (at_ + 5 * i) xs) ⟨[], none, none, rfl, rfl, ⟨at_, rest, Pn.same (Same.new hl), by omega, But.new hl⟩, upd_same, nofun⟩
      (fun i σ H2 lt ⟨xs, v3, v4, e, len, G⟩ => ?_) (fun σ H2 ⟨xs, v3, v4, e, len, G⟩ => ?_)
    · subst e
      obtain ⟨at1, rest1, P1, le1, B1⟩ := id G.dr
      refine ⟨_, rfl, p, c, ns, at1, rest1, 8, rfl, P1, by omega, by decide, by decide, fun d H3 d0 d8 hD => ?_⟩
      have G3 := G.more lp P1 hD
      obtain ⟨at3, rest3, P3, le3, B3⟩ := id G3.dr
      refine ⟨_, rfl, .inl ⟨rfl, _, SqL.of G3.at_⟩, ?_⟩
      refine ⟨_, rfl, by show 6 ≤ sizeLine; decide, fun t ht => ?_⟩
      have s3 : Same H3 (upd H3 t (.lst (namT.map V.str))) := Same.new ht
      have tp : t ≠ p := fun e => by rw [e, P3.hp] at ht; cases ht
      refine ⟨p, c, ns, at3, rest3, .ref t, rfl, P3.same s3, by omega, .inl ⟨t, namT.map V.str, rfl, SqL.of upd_same, tp, by show 0 < 6; decide, by show 6 < 1000; decide, fun v H4 hv hD4 => ?_⟩⟩
      have hD5 : Drawn H3 p c ns (at3 + 1) H4 := by
        obtain ⟨x, y, P2, l2, B2⟩ := hD4
        exact ⟨x, y, P2, l2, (But.same s3).trans B2⟩
      have G4 := G3.more lp P3 hD5
      obtain ⟨z, hz, rfl⟩ := List.mem_map.mp hv
      refine ⟨l, xs, _, rfl, rfl, G4.at_, by have : 50 ≤ sizeLine := (by decide); omega, ?_⟩
      have G5 := G4.set (ys := xs ++ [V.str z]) hl lp lc fun v hv => by
        rcases List.mem_append.mp hv with h | h
        · exact G4.vs v h
        · rw [List.mem_singleton.mp h]
          exact ⟨.inl ⟨z, hz, rfl⟩, fun e => by cases e⟩
      have len5 : (xs ++ [V.str z]).length = i + 1 := by rw [List.length_append, len]; rfl
      generalize upd H4 l (.lst (xs ++ [V.str z])) = H5 at G5 ⊢
      generalize xs ++ [V.str z] = ys at G5 len5 ⊢
      have G5 := G5.mono (m2 := at_ + 5 * i + 2) (by omega)
      refine ⟨fun σ' H' => ∃ ys', σ' = [some (.ref p), some (.int m), some (.ref l), some (.int (0 + (i : Int))), some (.int d)] ∧ ys'.length = i + 1 ∧ Got H H' p c ns l (at_ + 5 * i + 3) ys', ?_, fun σ' H' ⟨ys, e, len5, G5⟩ => ?_⟩
      · refine ⟨_, rfl, rfl, _, rfl, ite2 (fun h0 => ?_) (fun h0 => ?_)⟩
        · obtain ⟨at5, rest5, P5, le5, B5⟩ := id G5.dr
          refine ⟨_, rfl, p, c, ns, at5, rest5, rfl, P5, by omega, fun v H6 ov fr dr => ?_⟩
          have G6 := G5.more lp P5 dr
          refine ⟨_, rfl, 1, rfl, l, ys, -1, i, rfl, rfl, G6.at_, last_at len5, ?_⟩
          have G7 := G6.set (ys := ys.set i v) hl lp lc fun u hu => by
            rcases List.mem_or_eq_of_mem_set hu with h | h
            · exact G6.vs u h
            · subst h
              exact ⟨.inr ov, fun e => by have z := fr l e; rw [G5.at_] at z; cases z⟩
          exact ⟨_, rfl, by rw [List.length_set]; exact len5, G7.mono (by omega)⟩
        · exact ⟨ys, rfl, len5, G5.mono (by omega)⟩
      · subst e
        refine ⟨_, rfl, rfl, _, rfl, ite2 (fun h0 => ?_) (fun h0 => ?_)⟩
        · obtain ⟨at5, rest5, P5, le5, B5⟩ := id G5.dr
          refine ⟨_, rfl, _, rfl, _, rfl, l, ys, rfl, .inl (SqL.of G5.at_), p, c, ns, at5, rest5, (ys.length : Nat), rfl, P5, by omega, by omega, by omega, fun e H6 e0 e1 dr => ?_⟩
          obtain ⟨j, rfl⟩ := Int.eq_ofNat_of_zero_le e0
          have lj : j < ys.length := by omega
          have G6 := G5.more lp P5 dr
          refine ⟨l, ys, (j : Int), ys[j], rfl, rfl, SqL.of G6.at_, atI_nat (List.getElem?_eq_getElem lj), ?_⟩
          refine ⟨_, rfl, 1, rfl, l, ys, -1, i, rfl, rfl, G6.at_, last_at len5, ?_⟩
          have G7 := G6.set (ys := ys.set i ys[j]) hl lp lc fun u hu => by
            rcases List.mem_or_eq_of_mem_set hu with h | h
            · exact G6.vs u h
            · rw [h]
              exact G6.vs _ (List.getElem_mem lj)
          exact ⟨_, _, _, rfl, by rw [List.length_set]; exact len5, G7.mono (by omega)⟩
        · exact ⟨ys, _, _, rfl, len5, G5.mono (by omega)⟩
    · subst e
      exact ⟨_, rfl, k l xs H2 len hl G⟩
end
end K02

set_option Elab.async false
set_option linter.all false
set_option maxRecDepth 100000
set_option maxHeartbeats 4000000
namespace K02
open PySem L2 NX NU
abbrev sIt : Stmt := top 32
theorem scIt : FnScope ["_law_text", "_law_words", "_law_used_here", "_law_word"] ["_law_text"] (defScope sIt) := ⟨rfl, rfl, rfl, by decide +kernel, rfl, by decide +kernel, by decide +kernel⟩
theorem cps_add (a b : Str) : (a ++ b).cps.toList = a.cps.toList ++ b.cps.toList := by
  show (a.cps ++ b.cps).toList = _
  rw [Array.toList_append]
theorem join_has (y : Str) : ∀ (l : List Str) (a : Str), a ∈ l → ∀ c ∈ a.cps.toList, c ∈ (Str.join y l).cps.toList
  | [x], a, h, c, hc => by
    rw [List.mem_singleton.mp h] at hc
    exact hc
  | x :: x2 :: l, a, h, c, hc => by
    show c ∈ (x ++ y ++ Str.join y (x2 :: l)).cps.toList
    rw [cps_add, cps_add]
    rcases List.mem_cons.mp h with e | e
    · rw [← e]
      simp [hc]
    · have q := join_has y (x2 :: l) a e c hc
      simp [q]
/-- the parts of a text of small signs -/
theorem part_ok {z y a : Str} (h : a ∈ Txt.split z y) (o : okS z) : okS a := fun c hc => o c (by
  have q := join_has y _ a h c hc
  rw [StrLaws.join_split] at q
  exact q)
theorem noRep_nodup {l : List Str} : NoRep l ↔ l.Nodup := by
  constructor
  · intro h
    refine List.pairwise_iff_getElem.mpr fun i j hi hj lt e => ?_
    exact h j l[j] (List.getElem?_eq_getElem hj) (e ▸ List.mem_take_iff_getElem.mpr ⟨i, by omega, rfl⟩)
  · intro h i z e m
    obtain ⟨hi, rfl⟩ := List.getElem?_eq_some_iff.mp e
    obtain ⟨j, hj, q⟩ := List.mem_take_iff_getElem.mp m
    exact List.pairwise_iff_getElem.mp h j i (by omega) hi (by omega) q
theorem many_nodup : ∀ {l : List Str}, many l = l.length ↔ l.Nodup
  | [] => by simp [many]
  | x :: l => by
    have q := many_nodup (l := l)
    have le := many_le l
    show (if x ∈ l then many l else many l + 1) = l.length + 1 ↔ _
    rw [List.nodup_cons]
    by_cases m : x ∈ l
    · rw [if_pos m]
      exact ⟨fun e => by omega, fun ⟨n, _⟩ => absurd m n⟩
    · rw [if_neg m]
      exact ⟨fun e => ⟨m, q.mp (by omega)⟩, fun ⟨_, d⟩ => by rw [q.mpr d]⟩
/-- which words are a deed's -/
theorem dp_some {w0 : Str} {rest : List Str} (h : ∃ mk us, DP w0 rest mk us) : Nms rest ∧ rest ≠ [] ∧ (w0 = "use" ∨ w0 = "make" ∨ w0 = "do") := by
  obtain ⟨mk, us, dp⟩ := h
  cases dp with
  | use a b => exact ⟨a, fun e => by rw [e] at b; exact absurd b.2.1 (by decide), .inl rfl⟩
  | make a => exact ⟨a, by simp, .inr (.inl rfl)⟩
  | both a b => exact ⟨a, by simp, .inr (.inr rfl)⟩
theorem dp_make {rest : List Str} (n : Nms rest) : (∃ mk us, DP "make" rest mk us) ↔ rest.length = 1 := by
  constructor
  · rintro ⟨mk, us, dp⟩
    cases dp with
    | make a => rfl
  · intro h
    match rest, h with
    | [m], _ => exact ⟨_, _, .make n⟩
theorem dp_use {w0 : Str} {rest us : List Str} (n : Nms rest) (h : (w0 = "use" ∧ us = rest) ∨ (w0 = "do" ∧ us = rest.drop 1)) : (∃ mk us, DP w0 rest mk us) ↔ Good us := by
  rcases h with ⟨rfl, rfl⟩ | ⟨rfl, e⟩
  · exact ⟨fun ⟨mk, us, dp⟩ => by cases dp with | use a b => exact b, fun g => ⟨_, _, .use n g⟩⟩
  · subst e
    constructor
    · rintro ⟨mk, us, dp⟩
      cases dp with
      | both a b => exact b
    · intro g
      cases rest with
      | nil => exact absurd g.2.1 (by decide)
      | cons m us => exact ⟨_, _, .both n g⟩
theorem in13 (n : Nat) : (if true = true then !inV (.int (n : Int)) [.int 1, .int 2, .int 3] else inV (.int (n : Int)) [.int 1, .int 2, .int 3]) = !decide (1 ≤ n ∧ n ≤ 3) := by
  rw [if_pos rfl]
  congr 1
  match n with
  | 0 | 1 | 2 | 3 => rfl
  | n + 4 =>
    rw [decide_eq_false (by omega)]
    have ne : ∀ k : Int, k ≤ 3 → eqV (.int k) (.int ((n + 4 : Nat) : Int)) = false := fun k hk => by
      have q : ¬ k = ((n + 4 : Nat) : Int) := by omega
      exact beq_eq_false_iff_ne.mpr q
    simp only [inV, List.any_cons, List.any_nil, ne 1 (by decide), ne 2 (by decide), ne 3 (by decide), Bool.or_false]
def spIt : Sp := fun vs H Q _ => ∃ (z : Str) (b : Bool), vs = [.str z] ∧ z.length ≤ 1000 ∧ okS z ∧ (Txt.split z " ").length ≤ 60 ∧ (b = true ↔ ∃ mk us, DT z mk us) ∧ ∀ H', Same H H' → Q (.bl b) H'
section
variable {P : Program} {w : World} {K : PySem.W.Frag} {mg : Str → Option Value} {base : Heap}
theorem ok_it {f : Addr} {fd : FuncData} (F : Fun K "_law_is_text" "_law_is_text" sIt f fd) (T : TxtB mg) (TA : TxtA mg) (cLis : C8.Cal P w K mg base 1 "_law_is_name" (spLIs K) []) : FnOk P w K mg base CX0 2 f fd ["_law_text"] spIt := by
  refine F.ok scIt (fun vs H Q E h => ?_) (fun cdv A outer s H vs Q E hr h => ?_)
  · obtain ⟨z, b, rfl, _⟩ := h
    rfl
  · obtain ⟨z, b, rfl, hz, oz, hl, hb, k⟩ := h
    refine ⟨_, (pss_cons (ps_set (i := 1) scIt.nd rfl (Or.inl rfl) (pe_split (pv 0) pe_str))
      (pss_cons (ps_set (i := 2) scIt.nd rfl (Or.inl rfl) (pe_ifExp (pt_cmpR op_eq (pe_ix ix_list (pv 1) pe_int (fun _ _ => rfl)) pe_str (nomark _)) (pe_slice sl_list (pv 1) (po_some pe_int) po_none) (pe_slice sl_list (pv 1) (po_some pe_int) po_none)))
      (pss_cons (ps_if (PW.pt (pw_or (pt_cmpR (op_neD hr.units) (pe_lc (own := [("_law_word", 3)]) (g := gName 3) rfl scIt.nd (pi_list (pe_slice sl_list (pv 1) (po_some pe_int) po_none)) (blkOk_by (own := [("_law_word", 3)]) (N := ["_law_text", "_law_words", "_law_used_here", "_law_word"]) (sc := defScope sIt) (by decide +kernel)) (fun _ _ _ _ _ => (pg_name (i := 3) scIt.nd rfl (Or.inl rfl))) (fun _ _ _ _ _ => (pts_one (pt_not (pt_val (C8.pe_c cLis hr (by decide) rfl (pa_cons (pv 3) pa_nil)))))) (fun _ _ _ _ _ => (pv 3))) (pe_lst pa_nil) (nomark _)) (pw_or1 (pt_cmpR op_lt (pe_callB call_len_seq (by rfl) T.blen (by decide +kernel) (pa_cons (pv 1) pa_nil)) pe_int (nomark _))))) (pss_one (ps_ret pe_bl)) pss_nil)
      (pss_cons (ps_if (pt_cmpR op_eq (pe_ix ix_list (pv 1) pe_int (fun _ _ => rfl)) pe_str (nomark _)) (pss_one (ps_ret (pe_cmpR op_eq (pe_callB call_len_seq (by rfl) T.blen (by decide +kernel) (pa_cons (pv 1) pa_nil)) pe_int (nomark _)))) pss_nil)
      (pss_cons (ps_if (PW.pt (pw_or (pt_cmpR op_notIn_seq (pe_ix ix_list (pv 1) pe_int (fun _ _ => rfl)) (pe_tup (pa_cons pe_str (pa_cons pe_str pa_nil))) rfl) (pw_or1 (pt_cmpR op_notIn_seq (pe_callB call_len_seq (by rfl) T.blen (by decide +kernel) (pa_cons (pv 2) pa_nil)) (pe_tup (pa_cons pe_int (pa_cons pe_int (pa_cons pe_int pa_nil)))) rfl)))) (pss_one (ps_ret pe_bl)) pss_nil)
      (pss_one (ps_ret (pe_cmpR op_eq (pe_callB NU.cr_lenX (by rfl) T.blen (by decide +kernel) (pa_cons (pe_callTy (NU.cr_setX rfl) (by rfl) TA.bset (by decide +kernel) (pa_cons (pe_lc (own := [("_law_word", 3)]) (g := gName 3) rfl scIt.nd (pi_list (pv 2)) (blkOk_by (own := [("_law_word", 3)]) (N := ["_law_text", "_law_words", "_law_used_here", "_law_word"]) (sc := defScope sIt) (by decide +kernel)) (fun _ _ _ _ _ => (pg_name (i := 3) scIt.nd rfl (Or.inl rfl))) (fun _ _ _ _ _ => pts_nil) (fun _ _ _ _ _ => (pe_callTy SkE.call_str_str (by rfl) T.bstr (by decide +kernel) (pa_cons (pv 3) pa_nil)))) pa_nil)) pa_nil)) (pe_callB call_len_seq (by rfl) T.blen (by decide +kernel) (pa_cons (pv 2) pa_nil)) (nomark _))))))))), ?_⟩
    refine ⟨_, rfl, ⟨z, rfl⟩, z, _, rfl, rfl, by decide +kernel, Nat.le_trans (Nat.add_le_add_right hz 2) (by decide), fun p hp => ?_⟩
    have pos := PyProof.Rows.split_pos z (Str.ofString " ")
    have sh : ∀ a, a ∈ Txt.split z (Str.ofString " ") → a.length ≤ 1000 := fun a ha => Nat.le_trans (PyProof.Rows.part_short ha) hz
    have so : ∀ a, a ∈ Txt.split z (Str.ofString " ") → okS a := fun a ha => part_ok ha oz
    obtain ⟨w0, rest, el⟩ : ∃ w0 rest, Txt.split z (Str.ofString " ") = w0 :: rest := by
      cases e : Txt.split z (Str.ofString " ") with
      | nil => rw [e] at pos; cases pos
      | cons a l => exact ⟨a, l, rfl⟩
    have hl : (Txt.split z (Str.ofString " ")).length ≤ 60 := hl
    have hb : b = true ↔ ∃ mk us, DP w0 rest mk us := hb.trans ⟨fun ⟨mk, us, wd, ws, e, dp⟩ => by
        have e2 := el.symm.trans e
        injection e2 with e3 e4
        subst e3 e4
        exact ⟨mk, us, dp⟩, fun ⟨mk, us, dp⟩ => ⟨mk, us, w0, rest, el, dp⟩⟩
    rw [el] at hl sh so
    rw [el]
    have hl : rest.length + 1 ≤ 60 := hl
    have ls : 1000 ≤ sizeLine := by decide
    have s1 : Same H (upd H p (.lst ((w0 :: rest).map V.str))) := Same.new hp
    have g1 : upd H p (.lst ((w0 :: rest).map V.str)) p = some (.lst ((w0 :: rest).map V.str)) := upd_same
    generalize upd H p (.lst ((w0 :: rest).map V.str)) = G at s1 g1 ⊢
    have c1 : cutV ((w0 :: rest).map V.str) (some 1) none = rest.map V.str := cut_from _ 1
    have c2 : cutV ((w0 :: rest).map V.str) (some 2) none = (rest.drop 1).map V.str := by
      rw [List.map_drop]
      exact cut_from _ 2
    refine ⟨_, rfl, p, _, ((0 : Nat) : Int), .str w0, rfl, rfl, SqL.of g1, atI_nat rfl, rfl, _, rfl, ite2 (fun hu => ?_) (fun hu => ?_)⟩
    all_goals
      refine ⟨_, rfl, _, rfl, p, _, rfl, SqL.of g1, fun u hn => ?_⟩
    · rw [c1]
      obtain ⟨us, eu⟩ : ∃ us, us = rest := ⟨_, rfl⟩
      have hk : (w0 = "use" ∨ w0 = "do") → (w0 = "use" ∧ us = rest) ∨ (w0 = "do" ∧ us = rest.drop 1) := fun _ => .inl ⟨by have z := of_decide_eq_true hu; injection z, eu⟩
      have sub : ∀ y ∈ us, y ∈ w0 :: rest := fun y hy => List.mem_cons_of_mem _ (eu ▸ hy)
      rw [← eu]
      have s2 : Same G (upd G u (.lst (us.map V.str))) := Same.new hn
      have g2 := s2 _ _ g1
      have gu : upd G u (.lst (us.map V.str)) u = some (.lst (us.map V.str)) := upd_same
      generalize upd G u (.lst (us.map V.str)) = G2 at s2 g2 gu ⊢
      refine ⟨_, rfl, _, rfl, p, _, rfl, SqL.of g2, fun q hq => ?_⟩
      rw [c1]
      have s3 : Same G2 (upd G2 q (.lst (rest.map V.str))) := Same.new hq
      have gq : upd G2 q (.lst (rest.map V.str)) q = some (.lst (rest.map V.str)) := upd_same
      generalize upd G2 q (.lst (rest.map V.str)) = G3 at s3 gq ⊢
      refine ⟨q, rfl, ⟨_, SqL.of gq⟩, fun D hD => ?_⟩
      refine lc_list (xs := rest.map V.str) (fun i H' => Same G3 H' ∧ H' D = some (.lst (((rest.take i).filter fun y => !nm y).map V.str))) ⟨Same.new hD, upd_same⟩ (fun i H' _ ⟨s', _⟩ => SqL.of (s' _ _ gq)) (fun i x H' hx ⟨s', gD⟩ => ?_) (fun H' ⟨s', gD⟩ => ?_)
      · rw [List.getElem?_map] at hx
        obtain ⟨y, hy, rfl⟩ : ∃ y, rest[i]? = some y ∧ V.str y = x := by
          cases e : rest[i]? with
          | none => rw [e] at hx; cases hx
          | some y => rw [e] at hx; exact ⟨y, rfl, Option.some.inj hx⟩
        have my : y ∈ w0 :: rest := List.mem_cons_of_mem _ (List.mem_of_getElem? hy)
        have tk : rest.take (i + 1) = rest.take i ++ [y] := by rw [List.take_add_one, hy]; rfl
        have li : i < rest.length := (List.getElem?_eq_some_iff.mp hy).1
        refine ⟨rfl, _, rfl, _, rfl, .inl ⟨y, rfl, sh y my, so y my, fun H2 s4 => ⟨_, rfl, ?_⟩⟩⟩
        have gD2 := s4 _ _ gD
        cases hn : nm y with
        | true =>
          refine iteF ⟨s'.trans s4, ?_⟩
          rw [tk, List.filter_append, List.filter_cons, hn]
          simpa using gD2
        | false =>
          refine iteT ⟨_, rfl, _, gD2, ?_, samePut (s'.trans s4) hD, ?_⟩
          · rw [List.length_map]
            have := List.length_filter_le (fun y => !nm y) (rest.take i)
            have := List.length_take_le' i rest
            omega
          · rw [upd_same, tk, List.filter_append, List.filter_cons, hn, List.map_append]
            rfl
      · rw [List.length_map, List.take_length] at gD
        have s5 : Same H H' := ((s1.trans s2).trans s3).trans s'
        have g5 := s' _ _ (s3 _ _ g2)
        have u5 := s' _ _ (s3 _ _ gu)
        have nb : ∀ {X : Bool}, (X = true ↔ ∃ mk us, DP w0 rest mk us) → ∀ H2, Same H' H2 → Q (.bl X) H2 := fun {X} hX H2 s6 => by
          have e : b = X := by rw [Bool.eq_iff_iff, hb, hX]
          rw [← e]
          exact k H2 (s5.trans s6)
        have ok : ∀ y ∈ rest.filter (fun y => !nm y), okS y := fun y hy => so y (List.mem_cons_of_mem _ (List.mem_filter.mp hy).1)
        refine ⟨by show 0 ≤ sizeLine; decide, fun r hr2 => ?_⟩
        have s6 : Same H' (upd H' r (.lst [])) := Same.new hr2
        refine ⟨_, _, .lst (SqL.of (s6 _ _ gD)) (dpTxts _), .lst (SqL.of upd_same) .nil, shapedTxts _ ok, by decide +kernel, ?_⟩
        rw [eqvTxts]
        generalize upd H' r (.lst []) = G6 at s6 ⊢
        have g6 := s6 _ _ g5
        have u6 := s6 _ _ u5
        cases en : (rest.filter fun y => !nm y).isEmpty with
        | false =>
          refine ⟨_, rfl, iteT (iteT (nb ⟨fun e => (by cases e), fun h => ?_⟩ _ s6))⟩
          have n := (dp_some h).1
          have z : (rest.filter fun y => !nm y) = [] := List.filter_eq_nil_iff.mpr fun y hy => by rw [(n y hy).2]; decide
          rw [z] at en
          cases en
        | true =>
          have n : Nms rest := fun y hy => ⟨sh y (List.mem_cons_of_mem _ hy), by
            have z := List.filter_eq_nil_iff.mp (List.isEmpty_iff.mp en) y hy
            cases e : nm y with
            | true => rfl
            | false => rw [e] at z; exact absurd rfl z⟩
          refine ⟨_, rfl, iteF ⟨_, rfl, p, _, rfl, .inl (SqL.of g6), _, _, rfl, rfl, _, rfl, ?_⟩⟩
          have dp0 : ∀ {X : Bool}, (X = true → False) → ((∃ mk us, DP w0 rest mk us) → False) → (X = true ↔ ∃ mk us, DP w0 rest mk us) := fun a b => ⟨fun e => (a e).elim, fun h => (b h).elim⟩
          refine ite2 (fun h2 => ?_) (fun h2 => ?_)
          · have h2 := of_decide_eq_true h2
            rw [List.length_map, List.length_cons] at h2
            exact nb (dp0 (fun e => by cases e) fun h => (dp_some h).2.1 (List.length_eq_zero_iff.mp (by omega))) _ s6
          · refine ⟨_, rfl, p, _, ((0 : Nat) : Int), .str w0, rfl, rfl, SqL.of g6, atI_nat rfl, rfl, _, rfl, ?_⟩
            rw [vstr]
            by_cases em : w0 = "make"
            · rw [decide_eq_true em]
              refine iteT ⟨_, rfl, p, _, rfl, .inl (SqL.of g6), rfl, nb ?_ _ s6⟩
              subst em
              rw [decide_eq_true_iff, dp_make n, List.length_map, List.length_cons]
              exact ⟨fun e => by injection e with e; omega, fun e => by rw [e]; rfl⟩
            · rw [decide_eq_false em]
              refine iteF ⟨_, rfl, p, _, ((0 : Nat) : Int), .str w0, rfl, rfl, SqL.of g6, atI_nat rfl, by show 2 ≤ sizeLine; decide, fun t ht => ⟨t, _, rfl, .inr (SqT.of upd_same), rfl, rfl, _, rfl, ?_⟩⟩
              have s7 : Same G6 (upd G6 t (.tup [.str "use", .str "do"])) := Same.new ht
              rw [if_pos rfl, show inV (V.str w0) [V.str "use", V.str "do"] = decide (w0 ∈ (["use", "do"] : List Str)) from in_txts w0 ["use", "do"]]
              by_cases ek : w0 = "use" ∨ w0 = "do"
              · rw [decide_eq_true (by simpa using ek)]
                have hg := dp_use n (hk ek)
                have u7 := s7 _ _ u6
                refine iteF ⟨_, rfl, u, _, rfl, .inl (SqL.of u7), by show 3 ≤ sizeLine; decide, fun t2 ht2 => ⟨t2, _, rfl, .inr (SqT.of upd_same), rfl, rfl, _, rfl, ?_⟩⟩
                have s8 := s7.trans (Same.new (o := .tup [.int 1, .int 2, .int 3]) ht2)
                rw [List.length_map, in13]
                by_cases few : 1 ≤ us.length ∧ us.length ≤ 3
                · rw [decide_eq_true few]
                  refine iteF ⟨_, rfl, u, rfl, ⟨_, SqL.of (s8 _ _ u6)⟩, fun D2 hD2 => ?_⟩
                  have gu8 := s8 _ _ u6
                  generalize upd (upd G6 t (.tup [.str "use", .str "do"])) t2 (.tup [.int 1, .int 2, .int 3]) = G8 at s8 gu8 hD2 ⊢
                  refine lc_list (xs := us.map V.str) (fun i H2 => Same G8 H2 ∧ H2 D2 = some (.lst ((us.take i).map V.str))) ⟨Same.new hD2, upd_same⟩ (fun i H2 _ ⟨s9, _⟩ => SqL.of (s9 _ _ gu8)) (fun i x H2 hx ⟨s9, gD2⟩ => ?_) (fun H2 ⟨s9, gD2⟩ => ?_)
                  · rw [List.getElem?_map] at hx
                    obtain ⟨y, hy, rfl⟩ : ∃ y, us[i]? = some y ∧ V.str y = x := by
                      cases e : us[i]? with
                      | none => rw [e] at hx; cases hx
                      | some y => rw [e] at hx; exact ⟨y, rfl, Option.some.inj hx⟩
                    refine ⟨rfl, _, rfl, y, rfl, _, gD2, ?_, samePut s9 hD2, ?_⟩
                    · rw [List.length_map]
                      have := List.length_take_le' i us
                      omega
                    · rw [upd_same, List.take_add_one, hy, List.map_append]
                      rfl
                  · rw [List.length_map, List.take_length] at gD2
                    refine ⟨D2, us, rfl, .inl (SqL.of gD2), by omega, fun a ha => ⟨a, us, rfl, upd_same, ?_⟩⟩
                    have s10 := s9.trans (Same.new (o := SetX w a us) ha)
                    refine ⟨_, rfl, u, _, rfl, .inl (SqL.of (s10 _ _ gu8)), rfl, nb ?_ _ ((s6.trans s8).trans s10)⟩
                    rw [hg, decide_eq_true_iff, List.length_map]
                    unfold Good
                    rw [noRep_nodup, ← many_nodup]
                    exact ⟨fun e => ⟨by injection e with e; omega, few.1, few.2⟩, fun e => by rw [e.1]⟩
                · rw [decide_eq_false few]
                  exact iteT (nb (dp0 (fun e => by cases e) fun h => few ⟨(hg.mp h).2.1, (hg.mp h).2.2⟩) _ (s6.trans s8))
              · rw [decide_eq_false (by simpa using ek)]
                exact iteT (iteT (nb (dp0 (fun e => by cases e) fun h => by rcases (dp_some h).2.2 with e | e | e <;> simp_all) _ (s6.trans s7)))
    · rw [c2]
      obtain ⟨us, eu⟩ : ∃ us, us = rest.drop 1 := ⟨_, rfl⟩
      have hk : (w0 = "use" ∨ w0 = "do") → (w0 = "use" ∧ us = rest) ∨ (w0 = "do" ∧ us = rest.drop 1) := fun h => .inr ⟨h.resolve_left fun e => hu (decide_eq_true (by rw [e])), eu⟩
      have sub : ∀ y ∈ us, y ∈ w0 :: rest := fun y hy => List.mem_cons_of_mem _ (List.mem_of_mem_drop (eu ▸ hy))
      rw [← eu]
      have s2 : Same G (upd G u (.lst (us.map V.str))) := Same.new hn
      have g2 := s2 _ _ g1
      have gu : upd G u (.lst (us.map V.str)) u = some (.lst (us.map V.str)) := upd_same
      generalize upd G u (.lst (us.map V.str)) = G2 at s2 g2 gu ⊢
      refine ⟨_, rfl, _, rfl, p, _, rfl, SqL.of g2, fun q hq => ?_⟩
      rw [c1]
      have s3 : Same G2 (upd G2 q (.lst (rest.map V.str))) := Same.new hq
      have gq : upd G2 q (.lst (rest.map V.str)) q = some (.lst (rest.map V.str)) := upd_same
      generalize upd G2 q (.lst (rest.map V.str)) = G3 at s3 gq ⊢
      refine ⟨q, rfl, ⟨_, SqL.of gq⟩, fun D hD => ?_⟩
      refine lc_list (xs := rest.map V.str) (fun i H' => Same G3 H' ∧ H' D = some (.lst (((rest.take i).filter fun y => !nm y).map V.str))) ⟨Same.new hD, upd_same⟩ (fun i H' _ ⟨s', _⟩ => SqL.of (s' _ _ gq)) (fun i x H' hx ⟨s', gD⟩ => ?_) (fun H' ⟨s', gD⟩ => ?_)
      · rw [List.getElem?_map] at hx
        obtain ⟨y, hy, rfl⟩ : ∃ y, rest[i]? = some y ∧ V.str y = x := by
          cases e : rest[i]? with
          | none => rw [e] at hx; cases hx
          | some y => rw [e] at hx; exact ⟨y, rfl, Option.some.inj hx⟩
        have my : y ∈ w0 :: rest := List.mem_cons_of_mem _ (List.mem_of_getElem? hy)
        have tk : rest.take (i + 1) = rest.take i ++ [y] := by rw [List.take_add_one, hy]; rfl
        have li : i < rest.length := (List.getElem?_eq_some_iff.mp hy).1
        refine ⟨rfl, _, rfl, _, rfl, .inl ⟨y, rfl, sh y my, so y my, fun H2 s4 => ⟨_, rfl, ?_⟩⟩⟩
        have gD2 := s4 _ _ gD
        cases hn : nm y with
        | true =>
          refine iteF ⟨s'.trans s4, ?_⟩
          rw [tk, List.filter_append, List.filter_cons, hn]
          simpa using gD2
        | false =>
          refine iteT ⟨_, rfl, _, gD2, ?_, samePut (s'.trans s4) hD, ?_⟩
          · rw [List.length_map]
            have := List.length_filter_le (fun y => !nm y) (rest.take i)
            have := List.length_take_le' i rest
            omega
          · rw [upd_same, tk, List.filter_append, List.filter_cons, hn, List.map_append]
            rfl
      · rw [List.length_map, List.take_length] at gD
        have s5 : Same H H' := ((s1.trans s2).trans s3).trans s'
        have g5 := s' _ _ (s3 _ _ g2)
        have u5 := s' _ _ (s3 _ _ gu)
        have nb : ∀ {X : Bool}, (X = true ↔ ∃ mk us, DP w0 rest mk us) → ∀ H2, Same H' H2 → Q (.bl X) H2 := fun {X} hX H2 s6 => by
          have e : b = X := by rw [Bool.eq_iff_iff, hb, hX]
          rw [← e]
          exact k H2 (s5.trans s6)
        have ok : ∀ y ∈ rest.filter (fun y => !nm y), okS y := fun y hy => so y (List.mem_cons_of_mem _ (List.mem_filter.mp hy).1)
        refine ⟨by show 0 ≤ sizeLine; decide, fun r hr2 => ?_⟩
        have s6 : Same H' (upd H' r (.lst [])) := Same.new hr2
        refine ⟨_, _, .lst (SqL.of (s6 _ _ gD)) (dpTxts _), .lst (SqL.of upd_same) .nil, shapedTxts _ ok, by decide +kernel, ?_⟩
        rw [eqvTxts]
        generalize upd H' r (.lst []) = G6 at s6 ⊢
        have g6 := s6 _ _ g5
        have u6 := s6 _ _ u5
        cases en : (rest.filter fun y => !nm y).isEmpty with
        | false =>
          refine ⟨_, rfl, iteT (iteT (nb ⟨fun e => (by cases e), fun h => ?_⟩ _ s6))⟩
          have n := (dp_some h).1
          have z : (rest.filter fun y => !nm y) = [] := List.filter_eq_nil_iff.mpr fun y hy => by rw [(n y hy).2]; decide
          rw [z] at en
          cases en
        | true =>
          have n : Nms rest := fun y hy => ⟨sh y (List.mem_cons_of_mem _ hy), by
            have z := List.filter_eq_nil_iff.mp (List.isEmpty_iff.mp en) y hy
            cases e : nm y with
            | true => rfl
            | false => rw [e] at z; exact absurd rfl z⟩
          refine ⟨_, rfl, iteF ⟨_, rfl, p, _, rfl, .inl (SqL.of g6), _, _, rfl, rfl, _, rfl, ?_⟩⟩
          have dp0 : ∀ {X : Bool}, (X = true → False) → ((∃ mk us, DP w0 rest mk us) → False) → (X = true ↔ ∃ mk us, DP w0 rest mk us) := fun a b => ⟨fun e => (a e).elim, fun h => (b h).elim⟩
          refine ite2 (fun h2 => ?_) (fun h2 => ?_)
          · have h2 := of_decide_eq_true h2
            rw [List.length_map, List.length_cons] at h2
            exact nb (dp0 (fun e => by cases e) fun h => (dp_some h).2.1 (List.length_eq_zero_iff.mp (by omega))) _ s6
          · refine ⟨_, rfl, p, _, ((0 : Nat) : Int), .str w0, rfl, rfl, SqL.of g6, atI_nat rfl, rfl, _, rfl, ?_⟩
            rw [vstr]
            by_cases em : w0 = "make"
            · rw [decide_eq_true em]
              refine iteT ⟨_, rfl, p, _, rfl, .inl (SqL.of g6), rfl, nb ?_ _ s6⟩
              subst em
              rw [decide_eq_true_iff, dp_make n, List.length_map, List.length_cons]
              exact ⟨fun e => by injection e with e; omega, fun e => by rw [e]; rfl⟩
            · rw [decide_eq_false em]
              refine iteF ⟨_, rfl, p, _, ((0 : Nat) : Int), .str w0, rfl, rfl, SqL.of g6, atI_nat rfl, by show 2 ≤ sizeLine; decide, fun t ht => ⟨t, _, rfl, .inr (SqT.of upd_same), rfl, rfl, _, rfl, ?_⟩⟩
              have s7 : Same G6 (upd G6 t (.tup [.str "use", .str "do"])) := Same.new ht
              rw [if_pos rfl, show inV (V.str w0) [V.str "use", V.str "do"] = decide (w0 ∈ (["use", "do"] : List Str)) from in_txts w0 ["use", "do"]]
              by_cases ek : w0 = "use" ∨ w0 = "do"
              · rw [decide_eq_true (by simpa using ek)]
                have hg := dp_use n (hk ek)
                have u7 := s7 _ _ u6
                refine iteF ⟨_, rfl, u, _, rfl, .inl (SqL.of u7), by show 3 ≤ sizeLine; decide, fun t2 ht2 => ⟨t2, _, rfl, .inr (SqT.of upd_same), rfl, rfl, _, rfl, ?_⟩⟩
                have s8 := s7.trans (Same.new (o := .tup [.int 1, .int 2, .int 3]) ht2)
                rw [List.length_map, in13]
                by_cases few : 1 ≤ us.length ∧ us.length ≤ 3
                · rw [decide_eq_true few]
                  refine iteF ⟨_, rfl, u, rfl, ⟨_, SqL.of (s8 _ _ u6)⟩, fun D2 hD2 => ?_⟩
                  have gu8 := s8 _ _ u6
                  generalize upd (upd G6 t (.tup [.str "use", .str "do"])) t2 (.tup [.int 1, .int 2, .int 3]) = G8 at s8 gu8 hD2 ⊢
                  refine lc_list (xs := us.map V.str) (fun i H2 => Same G8 H2 ∧ H2 D2 = some (.lst ((us.take i).map V.str))) ⟨Same.new hD2, upd_same⟩ (fun i H2 _ ⟨s9, _⟩ => SqL.of (s9 _ _ gu8)) (fun i x H2 hx ⟨s9, gD2⟩ => ?_) (fun H2 ⟨s9, gD2⟩ => ?_)
                  · rw [List.getElem?_map] at hx
                    obtain ⟨y, hy, rfl⟩ : ∃ y, us[i]? = some y ∧ V.str y = x := by
                      cases e : us[i]? with
                      | none => rw [e] at hx; cases hx
                      | some y => rw [e] at hx; exact ⟨y, rfl, Option.some.inj hx⟩
                    refine ⟨rfl, _, rfl, y, rfl, _, gD2, ?_, samePut s9 hD2, ?_⟩
                    · rw [List.length_map]
                      have := List.length_take_le' i us
                      omega
                    · rw [upd_same, List.take_add_one, hy, List.map_append]
                      rfl
                  · rw [List.length_map, List.take_length] at gD2
                    refine ⟨D2, us, rfl, .inl (SqL.of gD2), by omega, fun a ha => ⟨a, us, rfl, upd_same, ?_⟩⟩
                    have s10 := s9.trans (Same.new (o := SetX w a us) ha)
                    refine ⟨_, rfl, u, _, rfl, .inl (SqL.of (s10 _ _ gu8)), rfl, nb ?_ _ ((s6.trans s8).trans s10)⟩
                    rw [hg, decide_eq_true_iff, List.length_map]
                    unfold Good
                    rw [noRep_nodup, ← many_nodup]
                    exact ⟨fun e => ⟨by injection e with e; omega, few.1, few.2⟩, fun e => by rw [e.1]⟩
                · rw [decide_eq_false few]
                  exact iteT (nb (dp0 (fun e => by cases e) fun h => few ⟨(hg.mp h).2.1, (hg.mp h).2.2⟩) _ (s6.trans s8))
              · rw [decide_eq_false (by simpa using ek)]
                exact iteT (iteT (nb (dp0 (fun e => by cases e) fun h => by rcases (dp_some h).2.2 with e | e | e <;> simp_all) _ (s6.trans s7)))
end
end K02

set_option Elab.async false
set_option linter.all false
set_option maxRecDepth 100000
set_option maxHeartbeats 4000000
namespace K02
open PySem L2 NX NU
abbrev sBent : Stmt := top 33
theorem scBent : FnScope ["_law_pen_here", "_law_words", "_law_some", "_law_lap", "_law_at", "_law_other", "_law_way"] ["_law_pen_here"] (defScope sBent) := ⟨rfl, rfl, rfl, by decide +kernel, rfl, by decide +kernel, by decide +kernel⟩
/-- short words -/
def Wds (ws : List Str) : Prop := ∀ z ∈ ws, okS z ∧ z.length ≤ 7
def spBent : Sp := fun vs H Q _ => ∃ (p c : Addr) (ns : List Int) (at_ rest : Int), vs = [.ref p] ∧ Pen H p c ns at_ rest ∧ at_ ≤ 900000 ∧ ∀ z H', okS z → z.length ≤ 56 → Drawn H p c ns (at_ + 20) H' → Q (.str z) H'
def linT : List Str := ["use a", "use b a", "use c a b", "make x", "do x a", "do x x a", "do s a b c"]
def somT : List Str := ["", "use", "make", "do", "Use", "a", "x", "abcdefg", "1", "a\n", "b", "-", "a ", "load", "c"]
theorem linT_ok : linT.all (fun z => decide (z.length ≤ 20) && decide (1 ≤ (Txt.split z " ").length) && decide ((Txt.split z " ").length ≤ 5) && (Txt.split z " ").all (fun y => decide (y.length ≤ 7) && y.cps.toList.all fun c => decide (c < 256))) = true := by decide +kernel
theorem linT_at {z : Str} (h : z ∈ linT) : z.length ≤ 20 ∧ (1 ≤ (Txt.split z " ").length ∧ (Txt.split z " ").length ≤ 5) ∧ Wds (Txt.split z " ") := by
  have q := List.all_eq_true.mp linT_ok z h
  rw [Bool.and_eq_true, Bool.and_eq_true, Bool.and_eq_true, decide_eq_true_eq, decide_eq_true_eq, decide_eq_true_eq, List.all_eq_true] at q
  refine ⟨q.1.1.1, ⟨q.1.1.2, q.1.2⟩, fun y hy => ?_⟩
  have r := q.2 y hy
  rw [Bool.and_eq_true, decide_eq_true_eq, List.all_eq_true] at r
  exact ⟨fun c hc => of_decide_eq_true (r.2 c hc), r.1⟩
theorem somT_ok : somT.all (fun y => decide (y.length ≤ 7) && y.cps.toList.all fun c => decide (c < 256)) = true := by decide +kernel
theorem somT_at {y : Str} (h : y ∈ somT) : okS y ∧ y.length ≤ 7 := by
  have r := List.all_eq_true.mp somT_ok y h
  rw [Bool.and_eq_true, decide_eq_true_eq, List.all_eq_true] at r
  exact ⟨fun c hc => of_decide_eq_true (r.2 c hc), r.1⟩
theorem join_sm : ∀ ws : List Str, Wds ws → okS (Str.join (Str.ofString " ") ws) ∧ (Str.join (Str.ofString " ") ws).length ≤ 8 * ws.length
  | [], _ => ⟨nofun, by decide⟩
  | [x], h => by
    have q := h x (List.mem_singleton.mpr rfl)
    exact ⟨q.1, by show x.length ≤ 8; omega⟩
  | x :: y :: r, h => by
    have q := h x List.mem_cons_self
    have z := join_sm (y :: r) fun a ha => h a (List.mem_cons_of_mem _ ha)
    have e1 : (Str.ofString " ").length = 1 := by decide +kernel
    refine ⟨fun c hc => ?_, ?_⟩
    · have hc : c ∈ (x ++ Str.ofString " " ++ Str.join (Str.ofString " ") (y :: r)).cps.toList := hc
      rw [cps_add, cps_add, List.mem_append, List.mem_append] at hc
      rcases hc with (hc | hc) | hc
      · exact q.1 c hc
      · have e0 : (Str.ofString " ").cps.toList = [32] := by decide +kernel
        rw [e0] at hc
        rw [List.mem_singleton.mp hc]
        decide
      · exact z.1 c hc
    · show (x ++ Str.ofString " " ++ Str.join (Str.ofString " ") (y :: r)).length ≤ 8 * (r.length + 1 + 1)
      have zl := z.2
      simp only [List.length_cons] at zl
      rw [Str.length_append, Str.length_append, e1]
      omega
theorem sum_sm : ∀ {ws : List Str}, (∀ z ∈ ws, z.length ≤ 7) → (ws.map (·.length)).sum ≤ 7 * ws.length
  | [], _ => Nat.le_refl _
  | x :: r, h => by
    have q := h x List.mem_cons_self
    have z := sum_sm (ws := r) fun a ha => h a (List.mem_cons_of_mem _ ha)
    rw [List.map_cons, List.sum_cons, List.length_cons]
    omega
/-- the words at l, the stock at so -/
structure Wk (H H' : Hp) (p c : Addr) (ns : List Int) (l so : Addr) (m : Int) (n : Nat) (ws : List Str) : Prop where
  dr : Drawn H p c ns m H'
  hl : H' l = some (.lst (ws.map V.str))
  hs : H' so = some (.lst (somT.map V.str))
  wd : Wds ws
  lo : 1 ≤ ws.length
  hi : ws.length ≤ n
theorem Wk.ne {H H' : Hp} {p c l so : Addr} {ns : List Int} {m : Int} {n : Nat} {ws : List Str} (k : Wk H H' p c ns l so m n ws) : l ≠ p ∧ so ≠ p := by
  obtain ⟨⟨x, y, P, _, _⟩, hl, hs, _, lo, _⟩ := k
  constructor
  · intro e
    rw [e, P.hp] at hl
    cases ws with
    | nil => exact absurd lo (by decide)
    | cons a r =>
      injection hl with hl
      injection hl with hl
      injection hl with hl
      cases hl
  · intro e
    rw [e, P.hp] at hs
    injection hs with hs
    injection hs with hs
    injection hs with hs
    cases hs
theorem Wk.more {H H1 H2 : Hp} {p c l so : Addr} {ns : List Int} {m m2 : Int} {n : Nat} {ws : List Str} (k : Wk H H1 p c ns l so m n ws) (d : Drawn H1 p c ns m2 H2) : Wk H H2 p c ns l so m2 n ws := by
  obtain ⟨n1, n2⟩ := k.ne
  obtain ⟨⟨x, y, P, _, B⟩, hl, hs, w, lo, hi⟩ := k
  obtain ⟨x2, y2, P2, le2, B2⟩ := d
  exact ⟨⟨x2, y2, P2, le2, B.trans B2⟩, B2 l _ hl n1, B2 so _ hs n2, w, lo, hi⟩
theorem Wk.same {H H1 H2 : Hp} {p c l so : Addr} {ns : List Int} {m : Int} {n : Nat} {ws : List Str} (k : Wk H H1 p c ns l so m n ws) (s : Same H1 H2) : Wk H H2 p c ns l so m n ws := by
  obtain ⟨⟨x, y, P, le, B⟩, hl, hs, w, lo, hi⟩ := k
  exact ⟨⟨x, y, P.same s, le, B.trans (But.same s)⟩, s _ _ hl, s _ _ hs, w, lo, hi⟩
theorem Wk.mono {H H1 : Hp} {p c l so : Addr} {ns : List Int} {m m2 : Int} {n n2 : Nat} {ws : List Str} (k : Wk H H1 p c ns l so m n ws) (h : m ≤ m2) (h2 : n ≤ n2) : Wk H H1 p c ns l so m2 n2 ws := by
  obtain ⟨⟨x, y, P, le, B⟩, hl, hs, w, lo, hi⟩ := k
  exact ⟨⟨x, y, P, Int.le_trans le h, B⟩, hl, hs, w, lo, Nat.le_trans hi h2⟩
/-- other words, at l2 -/
theorem Wk.swap {H H1 : Hp} {p c l so l2 : Addr} {ns : List Int} {m : Int} {n n2 : Nat} {ws ws2 : List Str} (k : Wk H H1 p c ns l so m n ws) (g : H1 l2 = some (.lst (ws2.map V.str))) (w : Wds ws2) (lo : 1 ≤ ws2.length) (hi : ws2.length ≤ n2) : Wk H H1 p c ns l2 so m n2 ws2 :=
  ⟨k.dr, g, k.hs, w, lo, hi⟩
theorem cut_to_s (ws : List Str) (k : Nat) : cutV (ws.map V.str) none (some (k : Int)) = (ws.take k).map V.str := by rw [cut_to, List.map_take]
theorem cut_from_s (ws : List Str) (k : Nat) : cutV (ws.map V.str) (some (k : Int)) none = (ws.drop k).map V.str := by rw [cut_from, List.map_drop]
theorem cut_from1 (ws : List Str) (k : Nat) : cutV (ws.map V.str) (some ((k : Int) + 1)) none = (ws.drop (k + 1)).map V.str := cut_from_s ws (k + 1)
theorem Wds.take {ws : List Str} (w : Wds ws) (k : Nat) : Wds (ws.take k) := fun z hz => w z (List.mem_of_mem_take hz)
theorem Wds.drop {ws : List Str} (w : Wds ws) (k : Nat) : Wds (ws.drop k) := fun z hz => w z (List.mem_of_mem_drop hz)
theorem Wds.app {a b : List Str} (x : Wds a) (y : Wds b) : Wds (a ++ b) := fun z hz => (List.mem_append.mp hz).elim (x z) (y z)
theorem Wds.one {a : Str} (h : okS a ∧ a.length ≤ 7) : Wds [a] := fun z hz => by rw [List.mem_singleton.mp hz]; exact h
section
variable {P : Program} {w : World} {K : PySem.W.Frag} {mg : Str → Option Value} {base : Heap}
theorem ok_bent {f : Addr} {fd : FuncData} (F : Fun K "_law_bent" "_law_bent" sBent f fd) (T : TxtB mg) (cDraw : C8.Cal P w K mg base 1 "_law_draw" spDraw []) (cPick : C8.Cal P w K mg base 2 "_law_pick" (spPick K) []) : FnOk P w K mg base CX0 3 f fd ["_law_pen_here"] spBent := by
  refine F.ok scBent (fun vs H Q E h => ?_) (fun cdv A outer s H vs Q E hr h => ?_)
  · obtain ⟨p, c, ns, a, r, rfl, _⟩ := h
    rfl
  · obtain ⟨p, c, ns, at_, rest, rfl, Pn, ha, k⟩ := h
    refine ⟨_, (pss_cons (ps_set (i := 1) scBent.nd rfl (Or.inl rfl) (pe_split (C8.pe_c cPick hr (by decide) rfl (pa_cons (pv 0) (pa_cons (pe_lst (pa_cons pe_str (pa_cons pe_str (pa_cons pe_str (pa_cons pe_str (pa_cons pe_str (pa_cons pe_str (pa_cons pe_str pa_nil)))))))) pa_nil))) pe_str))
      (pss_cons (ps_set (i := 2) scBent.nd rfl (Or.inl rfl) (pe_lst (pa_cons pe_str (pa_cons pe_str (pa_cons pe_str (pa_cons pe_str (pa_cons pe_str (pa_cons pe_str (pa_cons pe_str (pa_cons pe_str (pa_cons pe_str (pa_cons pe_str (pa_cons pe_str (pa_cons pe_str (pa_cons pe_str (pa_cons pe_str (pa_cons pe_str pa_nil)))))))))))))))))
      (pss_cons (ps_for PassesOwn.never rfl (pi_range1 (by rfl) T.brange (pa_cons (C8.pe_c cDraw hr (by decide) rfl (pa_cons (pv 0) (pa_cons pe_int pa_nil))) pa_nil)) (pg_name (i := 3) scBent.nd rfl (Or.inl rfl)) (pss_cons (ps_par3 (i := 4) (j := 5) (l := 6) (by rfl) scBent.nd rfl rfl rfl (by decide) (by decide) (by decide) rfl rfl rfl (pa_cons (C8.pe_c cDraw hr (by decide) rfl (pa_cons (pv 0) (pa_cons (pe_callB call_len_seq (by rfl) T.blen (by decide +kernel) (pa_cons (pv 1) pa_nil)) pa_nil))) (pa_cons (C8.pe_c cDraw hr (by decide) rfl (pa_cons (pv 0) (pa_cons (pe_callB call_len_seq (by rfl) T.blen (by decide +kernel) (pa_cons (pv 1) pa_nil)) pa_nil))) (pa_cons (C8.pe_c cDraw hr (by decide) rfl (pa_cons (pv 0) (pa_cons pe_int pa_nil))) pa_nil))) (by rfl))
      (pss_one (ps_if (PW.pt (pw_and (pt_cmpR op_eq (pv 6) pe_int (nomark _)) (pw_and1 (pt_cmpR op_gt (pe_callB call_len_seq (by rfl) T.blen (by decide +kernel) (pa_cons (pv 1) pa_nil)) pe_int (nomark _))))) (pss_one (ps_set (i := 1) scBent.nd rfl (Or.inl rfl) (pe_op op_cat (pe_slice sl_list (pv 1) po_none (po_some (pv 4))) (pe_slice sl_list (pv 1) (po_some (pe_op op_add (pv 4) pe_int)) po_none)))) (pss_one (ps_if (pt_cmpR op_eq (pv 6) pe_int (nomark _)) (pss_one (ps_set (i := 1) scBent.nd rfl (Or.inl rfl) (pe_op op_cat (pe_op op_cat (pe_slice sl_list (pv 1) po_none (po_some (pv 4))) (pe_lst (pa_cons (C8.pe_c cPick hr (by decide) rfl (pa_cons (pv 0) (pa_cons (pv 2) pa_nil))) pa_nil))) (pe_slice sl_list (pv 1) (po_some (pv 4)) po_none)))) (pss_one (ps_if (pt_cmpR op_eq (pv 6) pe_int (nomark _)) (pss_one (ps_set (i := 1) scBent.nd rfl (Or.inl rfl) (pe_op op_cat (pe_op op_cat (pe_slice sl_list (pv 1) po_none (po_some (pv 4))) (pe_lst (pa_cons (C8.pe_c cPick hr (by decide) rfl (pa_cons (pv 0) (pa_cons (pv 2) pa_nil))) pa_nil))) (pe_slice sl_list (pv 1) (po_some (pe_op op_add (pv 4) pe_int)) po_none)))) (pss_one (ps_if (pt_cmpR op_eq (pv 6) pe_int (nomark _)) (pss_one (ps_set (i := 1) scBent.nd rfl (Or.inl rfl) (pe_op op_cat (pe_op op_cat (pe_slice sl_list (pv 1) po_none (po_some (pv 4))) (pe_lst (pa_cons (pe_ix ix_list (pv 1) (pv 5) (fun _ _ => rfl)) pa_nil))) (pe_slice sl_list (pv 1) (po_some (pe_op op_add (pv 4) pe_int)) po_none)))) (pss_one (ps_set (i := 1) scBent.nd rfl (Or.inl rfl) (pe_op op_cat (pv 1) (pe_lst (pa_cons (pe_ix ix_list (pv 1) (pv 4) (fun _ _ => rfl)) pa_nil)))))))))))))))
      (pss_one (ps_ret (pe_join pe_str (pv 1))))))), ?_⟩
    refine ⟨_, rfl, by show 7 ≤ sizeLine; decide, fun t ht => ?_⟩
    have s1 : Same H (upd H t (.lst (linT.map V.str))) := Same.new ht
    have tp : t ≠ p := fun e => by rw [e, Pn.hp] at ht; cases ht
    refine ⟨p, c, ns, at_, rest, .ref t, rfl, Pn.same s1, by omega, .inl ⟨t, linT.map V.str, rfl, SqL.of upd_same, tp, by show 0 < 7; decide, by show 7 < 1000; decide, fun v H1 hv hD1 => ?_⟩⟩
    obtain ⟨ln, hln, rfl⟩ := List.mem_map.mp hv
    have D1 : Drawn H p c ns (at_ + 1) H1 := by
      obtain ⟨x, y, P2, l2, B2⟩ := hD1
      exact ⟨x, y, P2, l2, (But.same s1).trans B2⟩
    obtain ⟨z1, z2, z3⟩ := linT_at hln
    refine ⟨⟨ln, rfl⟩, ln, _, rfl, rfl, by decide +kernel, by have : 100 ≤ sizeLine := (by decide); omega, fun l hl => ?_⟩
    obtain ⟨x1, y1, P1, le1, B1⟩ := D1
    have sl : Same H1 (upd H1 l (.lst ((Txt.split ln (Str.ofString " ")).map V.str))) := Same.new hl
    refine ⟨by show 15 ≤ sizeLine; decide, fun so hso => ?_⟩
    have K0 : Wk H (upd (upd H1 l (.lst ((Txt.split ln (Str.ofString " ")).map V.str))) so (.lst (somT.map V.str))) p c ns l so (at_ + 1) 5 (Txt.split ln (Str.ofString " ")) :=
      ⟨⟨x1, y1, (P1.same sl).same (Same.new hso), le1, (B1.trans (But.same sl)).trans (But.new hso)⟩, (upd_ne (ne_of_none upd_same hso)).trans upd_same, upd_same, z3, z2.1, z2.2⟩
    obtain ⟨x2, y2, P2, le2, B2⟩ := id K0.dr
    refine ⟨_, rfl, p, c, ns, x2, y2, 3, rfl, P2, by omega, by decide, by decide, fun dn G2 d0 d3 hD2 => ?_⟩
    have K2 := (K0.more hD2).mono (m2 := at_ + 2) (by omega) (Nat.le_refl _)
    obtain ⟨dm, rfl⟩ := Int.eq_ofNat_of_zero_le d0
    refine ⟨(dm : Int), rfl, by omega, by omega, ?_⟩
    refine for_range (n := dm) (fun i σ H' => ∃ l ws v3 v4 v5 v6, σ = [some (.ref p), some (.ref l), some (.ref so), v3, v4, v5, v6] ∧ Wk H H' p c ns l so (at_ + 2 + 5 * i) (5 + i) ws) ⟨l, _, _, _, _, _, rfl, K2.mono (by omega) (by omega)⟩ (fun i σ H' lt ⟨l, ws, v3, v4, v5, v6, e, K⟩ => ?_) (fun σ H' ⟨l, ws, v3, v4, v5, v6, e, K⟩ => ?_)
    · subst e
      obtain ⟨x1, y1, P1, le1, B1⟩ := id K.dr
      have kl := K.lo
      have kh := K.hi
      have i7 : i < 3 := by omega
      refine ⟨_, rfl, _, rfl, l, _, rfl, .inl (SqL.of K.hl), p, c, ns, x1, y1, _, rfl, P1, by omega, by rw [List.length_map]; omega, by rw [List.length_map]; omega, fun d1 H1 a1 b1 hD1 => ?_⟩
      have K1 := K.more hD1
      obtain ⟨x2, y2, P2, le2, B2⟩ := id K1.dr
      refine ⟨_, rfl, _, rfl, l, _, rfl, .inl (SqL.of K1.hl), p, c, ns, x2, y2, _, rfl, P2, by omega, by rw [List.length_map]; omega, by rw [List.length_map]; omega, fun d2 H2 a2 b2 hD2 => ?_⟩
      have K2 := K1.more hD2
      obtain ⟨x3, y3, P3, le3, B3⟩ := id K2.dr
      refine ⟨_, rfl, p, c, ns, x3, y3, 5, rfl, P3, by omega, by decide, by decide, fun d3 H3 a3 b3 hD3 => ?_⟩
      have K3 := (K2.more hD3).mono (m2 := at_ + 2 + 5 * i + 3) (by omega) (Nat.le_refl _)
      obtain ⟨e1, rfl⟩ := Int.eq_ofNat_of_zero_le a1
      obtain ⟨e2, rfl⟩ := Int.eq_ofNat_of_zero_le a2
      rw [List.length_map] at b1 b2
      have l1 : e1 < ws.length := by omega
      have l2 : e2 < ws.length := by omega
      have big : 100 ≤ sizeLine := by decide
      clear hD1 hD2 hD3 B1 B2 B3 P1 P2 P3 le1 le2 le3
      have fin : ∀ (r : Addr) (ws2 : List Str) (G : Hp) (m : Int), Wk H G p c ns l so m (5 + i) ws → m ≤ at_ + 2 + 5 * i + 4 → G r = some (.lst (ws2.map V.str)) → Wds ws2 → 1 ≤ ws2.length → ws2.length ≤ 6 + i → Wk H G p c ns r so (at_ + 2 + 5 * ((i + 1 : Nat) : Int)) (5 + (i + 1)) ws2 := fun r ws2 G m K g hm w lo hi => (K.swap hm w lo (n2 := 5 + (i + 1)) (by omega)).mono (by omega) (Nat.le_refl _)
      have tl : ∀ k, (ws.take k).length ≤ ws.length := fun k => by rw [List.length_take]; omega
      have dl : ∀ k, (ws.drop k).length ≤ ws.length := fun k => by rw [List.length_drop]; omega
      refine ⟨_, _, _, rfl, _, rfl, rfl, _, rfl, ite2 (fun h => ⟨_, rfl, l, _, rfl, .inl (SqL.of K3.hl), _, _, rfl, rfl, _, rfl, ite2 (fun g => ?A) (fun g => ?B)⟩) (fun h => ?C)⟩
      case A =>
        have g := of_decide_eq_true g
        rw [List.length_map] at g
        refine ⟨_, rfl, _, rfl, _, rfl, l, _, rfl, SqL.of K3.hl, fun a ha => ?_⟩
        rw [cut_to_s]
        have Ka := K3.same (Same.new (o := .lst ((ws.take e1).map V.str)) ha)
        have ga : upd H3 a (.lst ((ws.take e1).map V.str)) a = some (.lst ((ws.take e1).map V.str)) := upd_same
        generalize upd H3 a (.lst ((ws.take e1).map V.str)) = Ga at Ka ga ⊢
        refine ⟨_, rfl, _, rfl, _, _, rfl, rfl, _, rfl, l, _, rfl, SqL.of Ka.hl, fun b hb => ?_⟩
        rw [cut_from1]
        have Kb := Ka.same (Same.new (o := .lst ((ws.drop (e1 + 1)).map V.str)) hb)
        have gb : upd Ga b (.lst ((ws.drop (e1 + 1)).map V.str)) b = some (.lst ((ws.drop (e1 + 1)).map V.str)) := upd_same
        have ga2 := (upd_ne (o := .lst ((ws.drop (e1 + 1)).map V.str)) (ne_of_none ga hb)).trans ga
        generalize upd Ga b (.lst ((ws.drop (e1 + 1)).map V.str)) = Gb at Kb gb ga2 ⊢
        have t1 := tl e1
        have t2 := dl (e1 + 1)
        have t3 : (ws.take e1).length + (ws.drop (e1 + 1)).length + 1 = ws.length := by rw [List.length_take, List.length_drop]; omega
        refine ⟨a, b, _, _, rfl, rfl, ga2, gb, by rw [List.length_map, List.length_map]; omega, fun r hr => ?_⟩
        rw [← List.map_append]
        exact ⟨r, _, _, _, _, _, rfl, fin r _ _ _ (Kb.same (Same.new hr)) (by omega) upd_same ((K3.wd.take _).app (K3.wd.drop _)) (by rw [List.length_append]; omega) (by rw [List.length_append]; omega)⟩
      all_goals
        refine ⟨_, rfl, rfl, _, rfl, ite2 (fun h => ?_) (fun h => ⟨_, rfl, rfl, _, rfl, ite2 (fun h => ?_) (fun h => ⟨_, rfl, rfl, _, rfl, ite2 (fun h => ?_) (fun h => ?_)⟩)⟩)⟩
        · refine ⟨_, rfl, _, rfl, _, rfl, l, _, rfl, SqL.of K3.hl, fun a ha => ?_⟩
          rw [cut_to_s]
          have Ka := K3.same (Same.new (o := .lst ((ws.take e1).map V.str)) ha)
          have ga : upd H3 a (.lst ((ws.take e1).map V.str)) a = some (.lst ((ws.take e1).map V.str)) := upd_same
          have ap : a ≠ p := fun e => by
            obtain ⟨x, y, P, _, _⟩ := K3.dr
            rw [e, P.hp] at ha
            cases ha
          generalize upd H3 a (.lst ((ws.take e1).map V.str)) = Ga at Ka ga ⊢
          obtain ⟨x4, y4, P4, le4, B4⟩ := id Ka.dr
          refine ⟨_, rfl, _, rfl, p, c, ns, x4, y4, .ref so, rfl, P4, by omega, .inl ⟨so, _, rfl, SqL.of Ka.hs, Ka.ne.2, by show 0 < 15; decide, by show 15 < 1000; decide, fun v H4 hv hD4 => ⟨by show 1 ≤ sizeLine; decide, fun q hq => ?_⟩⟩⟩
          obtain ⟨y, hy, rfl⟩ := List.mem_map.mp hv
          have wy := somT_at hy
          have Kq := (Ka.more hD4).same (Same.new (o := .lst [V.str y]) hq)
          have ga1 : H4 a = some (.lst ((ws.take e1).map V.str)) := by
            obtain ⟨_, _, _, _, B⟩ := hD4
            exact B a _ ga ap
          have gq : upd H4 q (.lst [V.str y]) q = some (.lst [V.str y]) := upd_same
          have ga2 := (upd_ne (o := .lst [V.str y]) (ne_of_none ga1 hq)).trans ga1
          have mq : x4 + 1 ≤ at_ + 2 + 5 * i + 4 := by omega
          generalize upd H4 q (.lst [V.str y]) = Gq at Kq gq ga2 ⊢
          refine ⟨a, q, _, [V.str y], rfl, rfl, ga2, gq, by rw [List.length_map]; have := tl e1; show _ + 1 ≤ sizeLine; omega, fun r hr => ?_⟩
          have Kr := Kq.same (Same.new (o := .lst ((ws.take e1).map V.str ++ [V.str y])) hr)
          have gr : upd Gq r (.lst ((ws.take e1).map V.str ++ [V.str y])) r = some (.lst ((ws.take e1).map V.str ++ [V.str y])) := upd_same
          generalize upd Gq r (.lst ((ws.take e1).map V.str ++ [V.str y])) = Gr at Kr gr ⊢
          refine ⟨_, rfl, _, rfl, _, rfl, l, _, rfl, SqL.of Kr.hl, fun b hb => ?_⟩
          rw [cut_from_s]
          have Kb := Kr.same (Same.new (o := .lst ((ws.drop e1).map V.str)) hb)
          have gb : upd Gr b (.lst ((ws.drop e1).map V.str)) b = some (.lst ((ws.drop e1).map V.str)) := upd_same
          have gr2 := (upd_ne (o := .lst ((ws.drop e1).map V.str)) (ne_of_none gr hb)).trans gr
          generalize upd Gr b (.lst ((ws.drop e1).map V.str)) = Gb at Kb gb gr2 ⊢
          have t3 : (ws.take e1).length + (ws.drop e1).length ≤ ws.length := by rw [List.length_take, List.length_drop]; omega
          refine ⟨r, b, _, _, rfl, rfl, gr2, gb, by rw [List.length_append, List.length_map, List.length_map]; show _ + 1 + _ ≤ sizeLine; omega, fun u hu => ?_⟩
          have em : (ws.take e1).map V.str ++ [V.str y] ++ (ws.drop e1).map V.str = (ws.take e1 ++ [y] ++ ws.drop e1).map V.str := by rw [List.map_append, List.map_append]; rfl
          rw [em]
          have len : (ws.take e1 ++ [y] ++ ws.drop e1).length = (ws.take e1).length + 1 + (ws.drop e1).length := by rw [List.length_append, List.length_append]; rfl
          exact ⟨u, _, _, _, _, _, rfl, fin u _ _ _ (Kb.same (Same.new hu)) mq upd_same (((K3.wd.take _).app (.one wy)).app (K3.wd.drop _)) (by rw [len]; omega) (by rw [len]; omega)⟩
        · refine ⟨_, rfl, _, rfl, _, rfl, l, _, rfl, SqL.of K3.hl, fun a ha => ?_⟩
          rw [cut_to_s]
          have Ka := K3.same (Same.new (o := .lst ((ws.take e1).map V.str)) ha)
          have ga : upd H3 a (.lst ((ws.take e1).map V.str)) a = some (.lst ((ws.take e1).map V.str)) := upd_same
          have ap : a ≠ p := fun e => by
            obtain ⟨x, y, P, _, _⟩ := K3.dr
            rw [e, P.hp] at ha
            cases ha
          generalize upd H3 a (.lst ((ws.take e1).map V.str)) = Ga at Ka ga ⊢
          obtain ⟨x4, y4, P4, le4, B4⟩ := id Ka.dr
          refine ⟨_, rfl, _, rfl, p, c, ns, x4, y4, .ref so, rfl, P4, by omega, .inl ⟨so, _, rfl, SqL.of Ka.hs, Ka.ne.2, by show 0 < 15; decide, by show 15 < 1000; decide, fun v H4 hv hD4 => ⟨by show 1 ≤ sizeLine; decide, fun q hq => ?_⟩⟩⟩
          obtain ⟨y, hy, rfl⟩ := List.mem_map.mp hv
          have wy := somT_at hy
          have Kq := (Ka.more hD4).same (Same.new (o := .lst [V.str y]) hq)
          have ga1 : H4 a = some (.lst ((ws.take e1).map V.str)) := by
            obtain ⟨_, _, _, _, B⟩ := hD4
            exact B a _ ga ap
          have gq : upd H4 q (.lst [V.str y]) q = some (.lst [V.str y]) := upd_same
          have ga2 := (upd_ne (o := .lst [V.str y]) (ne_of_none ga1 hq)).trans ga1
          have mq : x4 + 1 ≤ at_ + 2 + 5 * i + 4 := by omega
          generalize upd H4 q (.lst [V.str y]) = Gq at Kq gq ga2 ⊢
          refine ⟨a, q, _, [V.str y], rfl, rfl, ga2, gq, by rw [List.length_map]; have := tl e1; show _ + 1 ≤ sizeLine; omega, fun r hr => ?_⟩
          have Kr := Kq.same (Same.new (o := .lst ((ws.take e1).map V.str ++ [V.str y])) hr)
          have gr : upd Gq r (.lst ((ws.take e1).map V.str ++ [V.str y])) r = some (.lst ((ws.take e1).map V.str ++ [V.str y])) := upd_same
          generalize upd Gq r (.lst ((ws.take e1).map V.str ++ [V.str y])) = Gr at Kr gr ⊢
          refine ⟨_, rfl, _, rfl, _, _, rfl, rfl, _, rfl, l, _, rfl, SqL.of Kr.hl, fun b hb => ?_⟩
          rw [cut_from1]
          have Kb := Kr.same (Same.new (o := .lst ((ws.drop (e1 + 1)).map V.str)) hb)
          have gb : upd Gr b (.lst ((ws.drop (e1 + 1)).map V.str)) b = some (.lst ((ws.drop (e1 + 1)).map V.str)) := upd_same
          have gr2 := (upd_ne (o := .lst ((ws.drop (e1 + 1)).map V.str)) (ne_of_none gr hb)).trans gr
          generalize upd Gr b (.lst ((ws.drop (e1 + 1)).map V.str)) = Gb at Kb gb gr2 ⊢
          have t3 : (ws.take e1).length + (ws.drop (e1 + 1)).length ≤ ws.length := by rw [List.length_take, List.length_drop]; omega
          refine ⟨r, b, _, _, rfl, rfl, gr2, gb, by rw [List.length_append, List.length_map, List.length_map]; show _ + 1 + _ ≤ sizeLine; omega, fun u hu => ?_⟩
          have em : (ws.take e1).map V.str ++ [V.str y] ++ (ws.drop (e1 + 1)).map V.str = (ws.take e1 ++ [y] ++ ws.drop (e1 + 1)).map V.str := by rw [List.map_append, List.map_append]; rfl
          rw [em]
          have len : (ws.take e1 ++ [y] ++ ws.drop (e1 + 1)).length = (ws.take e1).length + 1 + (ws.drop (e1 + 1)).length := by rw [List.length_append, List.length_append]; rfl
          exact ⟨u, _, _, _, _, _, rfl, fin u _ _ _ (Kb.same (Same.new hu)) mq upd_same (((K3.wd.take _).app (.one wy)).app (K3.wd.drop _)) (by rw [len]; omega) (by rw [len]; omega)⟩
        · refine ⟨_, rfl, _, rfl, _, rfl, l, _, rfl, SqL.of K3.hl, fun a ha => ?_⟩
          rw [cut_to_s]
          have Ka := K3.same (Same.new (o := .lst ((ws.take e1).map V.str)) ha)
          have ga : upd H3 a (.lst ((ws.take e1).map V.str)) a = some (.lst ((ws.take e1).map V.str)) := upd_same
          have ap : a ≠ p := fun e => by
            obtain ⟨x, y, P, _, _⟩ := K3.dr
            rw [e, P.hp] at ha
            cases ha
          generalize upd H3 a (.lst ((ws.take e1).map V.str)) = Ga at Ka ga ⊢
          refine ⟨_, rfl, _, rfl, l, _, (e2 : Int), _, rfl, rfl, SqL.of Ka.hl, atI_nat (show (ws.map V.str)[e2]? = some (V.str ws[e2]) by rw [List.getElem?_map, List.getElem?_eq_getElem l2]; rfl), by show 1 ≤ sizeLine; decide, fun q hq => ?_⟩
          obtain ⟨y, ey⟩ : ∃ y, y = ws[e2] := ⟨_, rfl⟩
          have wy : okS y ∧ y.length ≤ 7 := by rw [ey]; exact K3.wd _ (List.getElem_mem l2)
          rw [← ey]
          have Kq := Ka.same (Same.new (o := .lst [V.str y]) hq)
          have gq : upd Ga q (.lst [V.str y]) q = some (.lst [V.str y]) := upd_same
          have ga2 := (upd_ne (o := .lst [V.str y]) (ne_of_none ga hq)).trans ga
          have mq : at_ + 2 + 5 * i + 3 ≤ at_ + 2 + 5 * i + 4 := by omega
          generalize upd Ga q (.lst [V.str y]) = Gq at Kq gq ga2 ⊢
          refine ⟨a, q, _, [V.str y], rfl, rfl, ga2, gq, by rw [List.length_map]; have := tl e1; show _ + 1 ≤ sizeLine; omega, fun r hr => ?_⟩
          have Kr := Kq.same (Same.new (o := .lst ((ws.take e1).map V.str ++ [V.str y])) hr)
          have gr : upd Gq r (.lst ((ws.take e1).map V.str ++ [V.str y])) r = some (.lst ((ws.take e1).map V.str ++ [V.str y])) := upd_same
          generalize upd Gq r (.lst ((ws.take e1).map V.str ++ [V.str y])) = Gr at Kr gr ⊢
          refine ⟨_, rfl, _, rfl, _, _, rfl, rfl, _, rfl, l, _, rfl, SqL.of Kr.hl, fun b hb => ?_⟩
          rw [cut_from1]
          have Kb := Kr.same (Same.new (o := .lst ((ws.drop (e1 + 1)).map V.str)) hb)
          have gb : upd Gr b (.lst ((ws.drop (e1 + 1)).map V.str)) b = some (.lst ((ws.drop (e1 + 1)).map V.str)) := upd_same
          have gr2 := (upd_ne (o := .lst ((ws.drop (e1 + 1)).map V.str)) (ne_of_none gr hb)).trans gr
          generalize upd Gr b (.lst ((ws.drop (e1 + 1)).map V.str)) = Gb at Kb gb gr2 ⊢
          have t3 : (ws.take e1).length + (ws.drop (e1 + 1)).length ≤ ws.length := by rw [List.length_take, List.length_drop]; omega
          refine ⟨r, b, _, _, rfl, rfl, gr2, gb, by rw [List.length_append, List.length_map, List.length_map]; show _ + 1 + _ ≤ sizeLine; omega, fun u hu => ?_⟩
          have em : (ws.take e1).map V.str ++ [V.str y] ++ (ws.drop (e1 + 1)).map V.str = (ws.take e1 ++ [y] ++ ws.drop (e1 + 1)).map V.str := by rw [List.map_append, List.map_append]; rfl
          rw [em]
          have len : (ws.take e1 ++ [y] ++ ws.drop (e1 + 1)).length = (ws.take e1).length + 1 + (ws.drop (e1 + 1)).length := by rw [List.length_append, List.length_append]; rfl
          exact ⟨u, _, _, _, _, _, rfl, fin u _ _ _ (Kb.same (Same.new hu)) mq upd_same (((K3.wd.take _).app (.one wy)).app (K3.wd.drop _)) (by rw [len]; omega) (by rw [len]; omega)⟩
        · refine ⟨_, rfl, _, rfl, _, rfl, l, _, (e1 : Int), _, rfl, rfl, SqL.of K3.hl, atI_nat (show (ws.map V.str)[e1]? = some (V.str ws[e1]) by rw [List.getElem?_map, List.getElem?_eq_getElem l1]; rfl), by show 1 ≤ sizeLine; decide, fun q hq => ?_⟩
          have Kq := K3.same (Same.new (o := .lst [V.str ws[e1]]) hq)
          refine ⟨l, q, _, [V.str ws[e1]], rfl, rfl, Kq.hl, upd_same, by rw [List.length_map]; show _ + 1 ≤ sizeLine; omega, fun u hu => ?_⟩
          have em : ws.map V.str ++ [V.str ws[e1]] = (ws ++ [ws[e1]]).map V.str := by rw [List.map_append]; rfl
          rw [em]
          exact ⟨u, _, _, _, _, _, rfl, fin u _ _ _ (Kq.same (Same.new hu)) (by omega) upd_same (K3.wd.app (.one (K3.wd _ (List.getElem_mem l1)))) (by rw [List.length_append]; show 1 ≤ _ + 1; omega) (by rw [List.length_append]; show _ + 1 ≤ _; omega)⟩
    · subst e
      have kh := K.hi
      have small : ∀ z ∈ ws, z.length ≤ 7 := fun z hz => (K.wd z hz).2
      obtain ⟨j1, j2⟩ := join_sm ws K.wd
      refine ⟨⟨_, rfl⟩, _, rfl, _, l, ws, rfl, rfl, .inl (SqL.of K.hl), ?_, ?_⟩
      · have q := sum_sm small
        have e1 : (Str.ofString " ").length = 1 := by decide +kernel
        rw [e1]
        omega
      · rw [TL.join_eq]
        exact k _ _ j1 (by omega) (by
          obtain ⟨x, y, P, le, B⟩ := K.dr
          exact ⟨x, y, P, by omega, B⟩)
end
end K02

set_option Elab.async false
set_option linter.all false
set_option maxRecDepth 100000
set_option maxHeartbeats 4000000
namespace K02
open PySem L2 NX NU LamX
abbrev sHeard : Stmt := top 25
theorem scHeard : FnScope ["_law_ask", "_law_caught", "error", "_law_kinds"] ["_law_ask"] (defScope sHeard) := ⟨rfl, rfl, rfl, by decide +kernel, rfl, by decide +kernel, by decide +kernel⟩
/-- what the written part says of an error class -/
structure KErr (K : PySem.W.Frag) (c : C4) (CS C : Addr) (y : Str) (b0 b1 b2 b3 : Bool) : Prop where
  e : PySem.W.exmOne K (.ref C) (.ref CS) = some true
  ec : ExcC K C
  x : XfC K C
  v : PySem.W.findIn K (.ref C) y = some none
  k0 : PySem.W.kitOne K (.ref C) (.ref c.n) = some b0
  k1 : PySem.W.kitOne K (.ref C) (.ref c.t) = some b1
  k2 : PySem.W.kitOne K (.ref C) (.ref c.m) = some b2
  k3 : PySem.W.kitOne K (.ref C) (.ref c.d) = some b3
  ve : PySem.W.kitOne K (.ref C) (.type "ValueError") = some true
structure ErrK (K : PySem.W.Frag) (mg : Str → Option Value) (c : C4) (CS : Addr) : Prop where
  gS : mg "StowError" = some (.ref CS)
  gN : mg "BadName" = some (.ref c.n)
  gT : mg "Twice" = some (.ref c.t)
  gM : mg "TooMany" = some (.ref c.m)
  gD : mg "BadDeed" = some (.ref c.d)
  n : KErr K c CS c.n "value" true false false false
  t : KErr K c CS c.t "name" false true false false
  m : KErr K c CS c.m "most" false false true false
  d : KErr K c CS c.d "value" false false false true
/-- what _law_heard makes of what it asks -/
def THeard (c : C4) : (XK → Hp → VK → Prop) → Hp → VK → Prop := fun tl H Q => ∀ R : VK, (∀ v H1, Q .non H1 → R v H1) →
  tl (fun cls d H' => ∃ (f : Fa) (u : V) (dd : Addr), (u = f.val ∨ f = .em) ∧ cls = .ref (f.cls c) ∧ d = some dd ∧ H' dd = some (.xd [(f.fld, u)]) ∧ ∀ p H'', Same H' H'' → H' p = none → H'' p = some (.tup [.str f.word, u]) → Q (.ref p) H'') H R
section
variable {X : Cx}
theorem takesLen {X : Cx} {W : WX} (h : Takes X W) : Takes X (fun cls d σ H => σ.length = X.N.length → W cls d σ H) := fun u s' ⟨a, B, sI, pins, σ, H, cls, d, e1, I, e2, e3, e4, e5, e6, e7, w⟩ => h u s' ⟨a, B, sI, pins, σ, H, cls, d, e1, I, e2, e3, e4, e5, e6, e7, w I.len⟩
theorem heard_gives {q : Str} {g CS : Addr} {c : C4} {cdg : Value} (T : TxtB X.mg) (E : ErrK X.K X.mg c CS) :
    GivesTo X ["_law_ask", "_law_caught", "error", "_law_kinds"] "_law_heard" (defScope sHeard) g cdg (defBody sHeard) "_law_ask" q (THeard c) := by
  intro f c' s H Q tl act hc h
  refine ⟨_, (pss_cons (ps_set (i := 1) scHeard.nd rfl (Or.inl rfl) pe_non)
      (pss_cons (ps_try_keep (X := (cxOf C8.CX0 X.prog X.w X.K X.mg X.base ["_law_ask", "_law_caught", "error", "_law_kinds"] "_law_heard" (defScope sHeard) g cdg X.A X.stack s H C8.E0).nox) (c := .ref CS) (i := 2)
      (tb := fun W D σ H => ∃ Ech : XK, (∀ cls d σ' H', Ech cls d H' → σ'.length = 4 → W cls d σ' H') ∧ σ[0]? = some (some (.ref f)) ∧ H c' = some (CodeO c' q) ∧ tl Ech H fun v H1 => D.nx σ H1)
      rfl rfl scHeard.nd rfl rfl rfl ⟨rfl, by decide, .inl E.gS⟩ L2.takes0 (fun W pn xe tk _ => ?_) (fun a oe cls d pn _ _ => pss_one (ps_set (i := 1) scHeard.nd rfl (Or.inl rfl) (pv 2))))
      (pss_cons (ps_if (pt_cmpR op_isN (pv 1) pe_non (nomark _)) (pss_one (ps_ret pe_non)) pss_nil)
      (pss_cons (ps_set (i := 3) scHeard.nd rfl (Or.inl rfl) (pe_lst (pa_cons (pe_callB (CallR.or call_isKept call_isi) (by rfl) T.bisinstance (by decide +kernel) (pa_cons (pv 1) (pa_cons (C8.pe_gc (v := .ref c.n) rfl ⟨_, E.gN, rfl⟩) pa_nil))) (pa_cons (pe_callB (CallR.or call_isKept call_isi) (by rfl) T.bisinstance (by decide +kernel) (pa_cons (pv 1) (pa_cons (C8.pe_gc (v := .ref c.t) rfl ⟨_, E.gT, rfl⟩) pa_nil))) (pa_cons (pe_callB (CallR.or call_isKept call_isi) (by rfl) T.bisinstance (by decide +kernel) (pa_cons (pv 1) (pa_cons (C8.pe_gc (v := .ref c.m) rfl ⟨_, E.gM, rfl⟩) pa_nil))) pa_nil)))))
      (pss_cons (ps_if (PW.pt (pw_or (pt_cmpR op_ne (pe_op op_add (pe_bm PySem.F.plainAttrs_list PySem.F.slot_list_count PySem.F.type_list_count NC.mt_cnt (pv 3) (pa_cons pe_bl pa_nil)) (pe_callTy call_int1 (by rfl) T.bint (by decide +kernel) (pa_cons (pe_callB (CallR.or call_isKept call_isi) (by rfl) T.bisinstance (by decide +kernel) (pa_cons (pv 1) (pa_cons (C8.pe_gc (v := .ref c.d) rfl ⟨_, E.gD, rfl⟩) pa_nil))) pa_nil))) pe_int (nomark _)) (pw_or1 (pt_not (pt_val (pe_callB (CallR.or call_isKept call_isi) (by rfl) T.bisinstance (by decide +kernel) (pa_cons (pv 1) (pa_cons (pe_bltn (v := .ty "ValueError") (by rfl) T.bVE (by decide +kernel) rfl) pa_nil)))))))) (pss_one (ps_ret (pe_tup (pa_cons pe_str (pa_cons pe_non pa_nil))))) pss_nil)
      (pss_cons (ps_if (pt_val (pe_ix ix_list (pv 3) pe_int (fun _ _ => rfl))) (pss_one (ps_ret (pe_tup (pa_cons pe_str (pa_cons (pe_kept (pv 1)) pa_nil))))) pss_nil)
      (pss_cons (ps_if (pt_val (pe_ix ix_list (pv 3) pe_int (fun _ _ => rfl))) (pss_one (ps_ret (pe_tup (pa_cons pe_str (pa_cons (pe_kept (pv 1)) pa_nil))))) pss_nil)
      (pss_one (ps_ret (pe_ifExp (pt_val (pe_ix ix_list (pv 3) pe_int (fun _ _ => rfl))) (pe_tup (pa_cons pe_str (pa_cons (pe_kept (pv 1)) pa_nil))) (pe_tup (pa_cons pe_str (pa_cons (pe_kept (pv 1)) pa_nil))))))))))))), ?_⟩
  · refine ⟨fun pins s' σ H' D I h' => ?_⟩
    obtain ⟨Ech, hW, h1, h2, h3⟩ := h'
    exact (pss_one (ps_expr (act (fun cls d σ H => σ.length = 4 → W cls d σ H) pn xe Ech _ _ (takesLen tk) hW))).run pins s' σ H' D I ⟨h1, h2, h3⟩
  · refine ⟨fun cls d H' => ∃ (f : Fa) (u : V) (dd : Addr), (u = f.val ∨ f = .em) ∧ cls = .ref (f.cls c) ∧ d = some dd ∧ H' dd = some (.xd [(f.fld, u)]) ∧ ∀ p H'', Same H' H'' → H' p = none → H'' p = some (.tup [.str f.word, u]) → Q (.ref p) H'', fun cls d σ' H' hx hlen => ?_, rfl, hc, h _ fun v H1 q => ⟨_, rfl, rfl, _, rfl, iteT q⟩⟩
    obtain ⟨fa, u, dd, hu, rfl, rfl, hdd, k⟩ := hx
    match σ', hlen with
    | [x0, x1, x2, x3], _ =>
    have low : (3 : Nat) ≤ sizeLine := by decide
    cases fa with
    | nm u0 =>
      obtain rfl : u = u0 := hu.resolve_right (by intro h; cases h)
      refine ⟨true, E.n.e, (fun h => by cases h), fun _ a ha => ?_⟩
      have hd' : upd H' a (Kept a (.ref c.n) (some dd)) dd = some (.xd [("value", u)]) := (upd_ne (ne_of_none hdd ha)).trans hdd
      have s1 : Same H' (upd H' a (Kept a (.ref c.n) (some dd))) := Same.new ha
      have hk : upd H' a (Kept a (.ref c.n) (some dd)) a = some (Kept a (.ref c.n) (some dd)) := upd_same
      refine ⟨_, rfl, _, rfl, rfl, _, rfl, iteF ?_⟩
      refine ⟨_, rfl, .inl ⟨a, _, dd, _, _, _, true, rfl, .own c.n, hk, hd', E.n.ec, E.n.k0, ?_⟩⟩
      refine ⟨_, rfl, .inl ⟨a, _, dd, _, _, _, false, rfl, .own c.t, hk, hd', E.n.ec, E.n.k1, ?_⟩⟩
      refine ⟨_, rfl, .inl ⟨a, _, dd, _, _, _, false, rfl, .own c.m, hk, hd', E.n.ec, E.n.k2, ?_⟩⟩
      refine ⟨low, fun l hl => ?_⟩
      have hd2 := (upd_ne (o := .lst [.bl true, .bl false, .bl false]) (ne_of_none hd' hl)).trans hd'
      have hk2 := (upd_ne (o := .lst [.bl true, .bl false, .bl false]) (ne_of_none hk hl)).trans hk
      have gl : upd (upd H' a (Kept a (.ref c.n) (some dd))) l (.lst [.bl true, .bl false, .bl false]) l = some (.lst [.bl true, .bl false, .bl false]) := upd_same
      have s2 : Same H' (upd (upd H' a (Kept a (.ref c.n) (some dd))) l (.lst [.bl true, .bl false, .bl false])) := s1.trans (Same.new hl)
      refine ⟨_, rfl, .inl ⟨rfl, _, SqL.of gl⟩, l, _, .bl true, rfl, rfl, SqL.of gl, rfl, rfl, ?_⟩
      refine ⟨_, rfl, .inl ⟨a, _, dd, _, _, _, false, rfl, .own c.d, hk2, hd2, E.n.ec, E.n.k3, .inr ⟨false, rfl, _, _, rfl, rfl, rfl, _, rfl, ?_⟩⟩⟩
      refine iteF ⟨_, rfl, .inl ⟨a, _, dd, _, _, _, true, rfl, .ty "ValueError", hk2, hd2, E.n.ec, E.n.ve, true, rfl, iteF ?_⟩⟩
      exact ⟨_, rfl, l, _, ((0 : Nat) : Int), .bl true, rfl, rfl, SqL.of gl, atI_nat rfl, true, rfl, iteT ⟨_, rfl, a, _, dd, _, _, rfl, hk2, hd2, E.n.x, E.n.v, rfl, by show 2 ≤ sizeLine; decide, fun p hp => k p _ (s2.trans (Same.new hp)) (sameNone s2 hp) upd_same⟩⟩
    | tw z =>
      obtain rfl : u = .str z := hu.resolve_right (by intro h; cases h)
      refine ⟨true, E.t.e, (fun h => by cases h), fun _ a ha => ?_⟩
      have hd' : upd H' a (Kept a (.ref c.t) (some dd)) dd = some (.xd [("name", .str z)]) := (upd_ne (ne_of_none hdd ha)).trans hdd
      have s1 : Same H' (upd H' a (Kept a (.ref c.t) (some dd))) := Same.new ha
      have hk : upd H' a (Kept a (.ref c.t) (some dd)) a = some (Kept a (.ref c.t) (some dd)) := upd_same
      refine ⟨_, rfl, _, rfl, rfl, _, rfl, iteF ?_⟩
      refine ⟨_, rfl, .inl ⟨a, _, dd, _, _, _, false, rfl, .own c.n, hk, hd', E.t.ec, E.t.k0, ?_⟩⟩
      refine ⟨_, rfl, .inl ⟨a, _, dd, _, _, _, true, rfl, .own c.t, hk, hd', E.t.ec, E.t.k1, ?_⟩⟩
      refine ⟨_, rfl, .inl ⟨a, _, dd, _, _, _, false, rfl, .own c.m, hk, hd', E.t.ec, E.t.k2, ?_⟩⟩
      refine ⟨low, fun l hl => ?_⟩
      have hd2 := (upd_ne (o := .lst [.bl false, .bl true, .bl false]) (ne_of_none hd' hl)).trans hd'
      have hk2 := (upd_ne (o := .lst [.bl false, .bl true, .bl false]) (ne_of_none hk hl)).trans hk
      have gl : upd (upd H' a (Kept a (.ref c.t) (some dd))) l (.lst [.bl false, .bl true, .bl false]) l = some (.lst [.bl false, .bl true, .bl false]) := upd_same
      have s2 : Same H' (upd (upd H' a (Kept a (.ref c.t) (some dd))) l (.lst [.bl false, .bl true, .bl false])) := s1.trans (Same.new hl)
      refine ⟨_, rfl, .inl ⟨rfl, _, SqL.of gl⟩, l, _, .bl true, rfl, rfl, SqL.of gl, rfl, rfl, ?_⟩
      refine ⟨_, rfl, .inl ⟨a, _, dd, _, _, _, false, rfl, .own c.d, hk2, hd2, E.t.ec, E.t.k3, .inr ⟨false, rfl, _, _, rfl, rfl, rfl, _, rfl, ?_⟩⟩⟩
      refine iteF ⟨_, rfl, .inl ⟨a, _, dd, _, _, _, true, rfl, .ty "ValueError", hk2, hd2, E.t.ec, E.t.ve, true, rfl, iteF ?_⟩⟩
      exact ⟨_, rfl, l, _, ((0 : Nat) : Int), .bl false, rfl, rfl, SqL.of gl, atI_nat rfl, false, rfl, iteF ⟨_, rfl, l, _, ((1 : Nat) : Int), .bl true, rfl, rfl, SqL.of gl, atI_nat rfl, true, rfl, iteT ⟨_, rfl, a, _, dd, _, _, rfl, hk2, hd2, E.t.x, E.t.v, rfl, by show 2 ≤ sizeLine; decide, fun p hp => k p _ (s2.trans (Same.new hp)) (sameNone s2 hp) upd_same⟩⟩⟩
    | mn =>
      obtain rfl : u = .int 3 := hu.resolve_right (by intro h; cases h)
      refine ⟨true, E.m.e, (fun h => by cases h), fun _ a ha => ?_⟩
      have hd' : upd H' a (Kept a (.ref c.m) (some dd)) dd = some (.xd [("most", .int 3)]) := (upd_ne (ne_of_none hdd ha)).trans hdd
      have s1 : Same H' (upd H' a (Kept a (.ref c.m) (some dd))) := Same.new ha
      have hk : upd H' a (Kept a (.ref c.m) (some dd)) a = some (Kept a (.ref c.m) (some dd)) := upd_same
      refine ⟨_, rfl, _, rfl, rfl, _, rfl, iteF ?_⟩
      refine ⟨_, rfl, .inl ⟨a, _, dd, _, _, _, false, rfl, .own c.n, hk, hd', E.m.ec, E.m.k0, ?_⟩⟩
      refine ⟨_, rfl, .inl ⟨a, _, dd, _, _, _, false, rfl, .own c.t, hk, hd', E.m.ec, E.m.k1, ?_⟩⟩
      refine ⟨_, rfl, .inl ⟨a, _, dd, _, _, _, true, rfl, .own c.m, hk, hd', E.m.ec, E.m.k2, ?_⟩⟩
      refine ⟨low, fun l hl => ?_⟩
      have hd2 := (upd_ne (o := .lst [.bl false, .bl false, .bl true]) (ne_of_none hd' hl)).trans hd'
      have hk2 := (upd_ne (o := .lst [.bl false, .bl false, .bl true]) (ne_of_none hk hl)).trans hk
      have gl : upd (upd H' a (Kept a (.ref c.m) (some dd))) l (.lst [.bl false, .bl false, .bl true]) l = some (.lst [.bl false, .bl false, .bl true]) := upd_same
      have s2 : Same H' (upd (upd H' a (Kept a (.ref c.m) (some dd))) l (.lst [.bl false, .bl false, .bl true])) := s1.trans (Same.new hl)
      refine ⟨_, rfl, .inl ⟨rfl, _, SqL.of gl⟩, l, _, .bl true, rfl, rfl, SqL.of gl, rfl, rfl, ?_⟩
      refine ⟨_, rfl, .inl ⟨a, _, dd, _, _, _, false, rfl, .own c.d, hk2, hd2, E.m.ec, E.m.k3, .inr ⟨false, rfl, _, _, rfl, rfl, rfl, _, rfl, ?_⟩⟩⟩
      refine iteF ⟨_, rfl, .inl ⟨a, _, dd, _, _, _, true, rfl, .ty "ValueError", hk2, hd2, E.m.ec, E.m.ve, true, rfl, iteF ?_⟩⟩
      exact ⟨_, rfl, l, _, ((0 : Nat) : Int), .bl false, rfl, rfl, SqL.of gl, atI_nat rfl, false, rfl, iteF ⟨_, rfl, l, _, ((1 : Nat) : Int), .bl false, rfl, rfl, SqL.of gl, atI_nat rfl, false, rfl, iteF ⟨_, rfl, l, _, ((2 : Nat) : Int), .bl true, rfl, rfl, SqL.of gl, atI_nat rfl, true, rfl, iteT ⟨_, rfl, a, _, dd, _, _, rfl, hk2, hd2, E.m.x, E.m.v, rfl, by show 2 ≤ sizeLine; decide, fun p hp => k p _ (s2.trans (Same.new hp)) (sameNone s2 hp) upd_same⟩⟩⟩⟩
    | em =>
      refine ⟨true, E.d.e, (fun h => by cases h), fun _ a ha => ?_⟩
      have hd' : upd H' a (Kept a (.ref c.d) (some dd)) dd = some (.xd [("value", u)]) := (upd_ne (ne_of_none hdd ha)).trans hdd
      have s1 : Same H' (upd H' a (Kept a (.ref c.d) (some dd))) := Same.new ha
      have hk : upd H' a (Kept a (.ref c.d) (some dd)) a = some (Kept a (.ref c.d) (some dd)) := upd_same
      refine ⟨_, rfl, _, rfl, rfl, _, rfl, iteF ?_⟩
      refine ⟨_, rfl, .inl ⟨a, _, dd, _, _, _, false, rfl, .own c.n, hk, hd', E.d.ec, E.d.k0, ?_⟩⟩
      refine ⟨_, rfl, .inl ⟨a, _, dd, _, _, _, false, rfl, .own c.t, hk, hd', E.d.ec, E.d.k1, ?_⟩⟩
      refine ⟨_, rfl, .inl ⟨a, _, dd, _, _, _, false, rfl, .own c.m, hk, hd', E.d.ec, E.d.k2, ?_⟩⟩
      refine ⟨low, fun l hl => ?_⟩
      have hd2 := (upd_ne (o := .lst [.bl false, .bl false, .bl false]) (ne_of_none hd' hl)).trans hd'
      have hk2 := (upd_ne (o := .lst [.bl false, .bl false, .bl false]) (ne_of_none hk hl)).trans hk
      have gl : upd (upd H' a (Kept a (.ref c.d) (some dd))) l (.lst [.bl false, .bl false, .bl false]) l = some (.lst [.bl false, .bl false, .bl false]) := upd_same
      have s2 : Same H' (upd (upd H' a (Kept a (.ref c.d) (some dd))) l (.lst [.bl false, .bl false, .bl false])) := s1.trans (Same.new hl)
      refine ⟨_, rfl, .inl ⟨rfl, _, SqL.of gl⟩, l, _, .bl true, rfl, rfl, SqL.of gl, rfl, rfl, ?_⟩
      refine ⟨_, rfl, .inl ⟨a, _, dd, _, _, _, true, rfl, .own c.d, hk2, hd2, E.d.ec, E.d.k3, .inr ⟨true, rfl, _, _, rfl, rfl, rfl, _, rfl, ?_⟩⟩⟩
      refine iteF ⟨_, rfl, .inl ⟨a, _, dd, _, _, _, true, rfl, .ty "ValueError", hk2, hd2, E.d.ec, E.d.ve, true, rfl, iteF ?_⟩⟩
      exact ⟨_, rfl, l, _, ((0 : Nat) : Int), .bl false, rfl, rfl, SqL.of gl, atI_nat rfl, false, rfl, iteF ⟨_, rfl, l, _, ((1 : Nat) : Int), .bl false, rfl, rfl, SqL.of gl, atI_nat rfl, false, rfl, iteF ⟨_, rfl, l, _, ((2 : Nat) : Int), .bl false, rfl, rfl, SqL.of gl, atI_nat rfl, false, rfl, iteF ⟨_, rfl, a, _, dd, _, _, rfl, hk2, hd2, E.d.x, E.d.v, rfl, by show 2 ≤ sizeLine; decide, fun p hp => k p _ (s2.trans (Same.new hp)) (sameNone s2 hp) upd_same⟩⟩⟩⟩
end
end K02

set_option Elab.async false
set_option linter.all false
set_option maxRecDepth 100000
set_option maxHeartbeats 4000000
namespace K02
open PySem L2 NX NU LamX
def tMakeR0 (C : Addr) (sp : Sp) (E : XK) : TE := fun _ H Q => ∀ y dy, H y = none → H dy = none → dy ≠ y → sp [V.ref y] (upd (upd H dy (.own y)) y (.ins C dy [])) (fun v H2 => v = .non ∧ Q (.ref y) H2) E
section
variable {X : Cx} {CX : CXT} {k : Nat} {f C : Addr} {sp : Sp} {E : XK} {x : Str} {p pos : Pos}
/-- C(), C a class of ours whose __init__ takes what is passed by place -/
theorem pe_makeR0 (M : Mk X.K C f) (F : FnR X.prog X.w X.K X.mg X.base CX k f sp) (hr : Room (k + 1) X.A) (hg : Gl X x) (hm : X.mg x = some (.ref C)) (hx : Passes CX X E) (hd : (x == ("__debug__" : Str)) = false := by decide) :
    PE X (.Call (.Name x p) [] [] pos) (tMakeR0 C sp E) := by
  refine ⟨fun pins s σ H Q I h => wpAny_Call_Name_kw (ld_glob I hg hm ?_ hd)⟩
  exact PySem.W.callWith_K0 I.kIn M.kp (StX.run_makeR (us := []) (vs := []) M F hr hx I .nil h)
end
theorem L2passOf {X : Cx} {E : XK} (tk : Takes X (fun cls d _ H => E cls d H)) : Passes (CX X.prog X.w) X E := fun pins σ H s e s' I h => passAt tk σ pins H s e s' I h
abbrev sUsed : Stmt := top 28
theorem scUsed : FnScope ["_law_used_here"] ["_law_used_here"] (defScope sUsed) := ⟨rfl, rfl, rfl, by decide +kernel, rfl, by decide +kernel, by decide +kernel⟩
/-- a def of ours, with its code object -/
structure FunC (K : PySem.W.Frag) (x : Str) (st : Stmt) (f : Addr) (fd : FuncData) (c : Addr) : Prop where
  ex : ∃ oc od kV doc pm an ct osl, fd = PySem.W.fnOf x x (defArgs st) (defBody st) (defScope st) .none kV doc pm an (.ref c) ct ∧ K.lookup f = some ⟨oc, od, .func fd, osl⟩ ∧ PySem.W.codeIn K (.ref c) x = true
  kp : PySem.W.keepIn K (.ref f) = true
/-- what the law tells of a refusal, the tables of lambdas grown -/
def TellsE (TT : List (Addr × Str)) (H : Hp) (Q : VK) : Option Fa → Prop
  | none => ∀ H', ExtN H H' → Tabs TT H' → Q .non H'
  | some f => ∀ p H', ExtN H H' → Tabs TT H' → H' p = some (.tup [.str f.word, f.val]) → Q (.ref p) H'
def spUsed (K : PySem.W.Frag) (TT : List (Addr × Str)) : Sp := fun vs H Q _ => ∃ (l : Addr) (xs : List V) (r : Option Fa), vs = [.ref l] ∧ SqL K H l xs ∧ xs.length ≤ 5 ∧ DueF K H xs 0 r ∧ Tabs TT H ∧ TellsE TT H Q r
theorem SqL.ext {K : PySem.W.Frag} {H H' : Hp} {a : Addr} {xs : List V} (s : ExtN H H') (h : SqL K H a xs) : SqL K H' a xs := by
  rcases h with (h | ⟨o, h⟩) | h
  · exact .inl (.inl (s _ _ h (by intro p e; cases e)))
  · exact .inl (.inr ⟨o, s _ _ h (by intro p e; cases e)⟩)
  · exact .inr h
theorem tyOf_ext {K : PySem.W.Frag} {H H' : Hp} {v : V} {t : Value} (s : ExtN H H') (h : TyOf K H v t) : TyOf K H' v t := by
  cases h with
  | non => exact .non
  | bl x => exact .bl x
  | int x => exact .int x
  | str x => exact .str x
  | flt x => exact .flt x
  | lst h => exact .lst (s _ _ h (by intro p e; cases e))
  | frz h => exact .frz (s _ _ h (by intro p e; cases e))
  | tup h => exact .tup (s _ _ h (by intro p e; cases e))
  | dK h => exact .dK (s _ _ h (by intro p e; cases e))
  | dT h => exact .dT (s _ _ h (by intro p e; cases e))
  | ins h a b c d e => exact .ins (s _ _ h (by intro p e; cases e)) a b c d e
theorem tyX_ext {K : PySem.W.Frag} {H H' : Hp} {v : V} {t : Value} (s : ExtN H H') (h : TyX K H v t) : TyX K H' v t := by
  cases h with
  | base h => exact .base (tyOf_ext s h)
  | byt b => exact .byt b
  | set h => exact .set (s _ _ h (by intro p e; cases e))
  | kList a b => exact .kList a b
  | kTuple a b => exact .kTuple a b
  | kDict a b => exact .kDict a b
  | fTuple h => exact .fTuple (s _ _ h (by intro p e; cases e))
  | fDict h => exact .fDict (s _ _ h (by intro p e; cases e))
theorem NoStr.ext {K : PySem.W.Frag} {H H' : Hp} {v : V} (s : ExtN H H') (h : NoStr K H v) : NoStr K H' v := by
  obtain ⟨t, a, b⟩ := h
  exact ⟨t, tyX_ext s a, b⟩
theorem DueF.ext {K : PySem.W.Frag} {H H' : Hp} {xs : List V} {k : Nat} {r : Option Fa} (s : ExtN H H') (h : DueF K H xs k r) : DueF K H' xs k r := by
  cases h with
  | nm b =>
    obtain ⟨l, e1, e2, e3⟩ := b
    exact .nm ⟨l, e1, e2, e3.imp id (fun q => q.ext s)⟩
  | rest a b c => exact .rest a b c
theorem used_core {K : PySem.W.Frag} {mg : Str → Option Value} {c : C4} {d : D3} {fU fM fD : Addr} {TT : List (Addr × Str)} {H H1 : Hp} {xs : List V} {r : Option Fa} {Q R : VK} (D : Dcs K mg d fU fM fD) (few : xs.length ≤ 5) (hD : DueF K H1 xs 0 r) (e1 : ExtN H H1) (t1 : Tabs TT H1) (h : TellsE TT H Q r) (hR : ∀ v H2, Q .non H2 → R v H2) :
    ∀ x dx, H1 x = none → H1 dx = none → dx ≠ x → spUse K c (V.ref x :: xs) (upd (upd H1 dx (.own x)) x (.ins d.u dx [])) (fun v H2 => v = .non ∧ R (.ref x) H2)
      (fun cls dd H' => ∃ (f : Fa) (u : V) (a : Addr), (u = f.val ∨ f = .em) ∧ cls = .ref (f.cls c) ∧ dd = some a ∧ H' a = some (.xd [(f.fld, u)]) ∧ ∀ p H'', Same H' H'' → H' p = none → H'' p = some (.tup [.str f.word, u]) → Q (.ref p) H'') := by
  intro x dx h1 h2 h3
  have s1 := made2 (C := d.u) h1 h2 h3
  have lz : 60 ≤ sizeLine := by decide
  refine ⟨[.ref x], xs, rfl, rfl, by omega, fun p hp => ?_⟩
  have s2 := s1.trans (Same.new (o := .tup xs) hp)
  have px : x ≠ p := fun e => by rw [← e, upd_same] at hp; cases hp
  refine ⟨x, d.u, dx, p, xs, r, rfl, D.du, (upd_ne px).trans upd_same, upd_same, by omega, hD.same s2, ?_⟩
  cases r with
  | none =>
    intro ws ys H2 e asc but dd
    have s3 := new_of h1 s2 but
    exact ⟨rfl, hR _ _ (h H2 (e1.trans (ExtN.of s3)) (t1.ext s3))⟩
  | some f =>
    intro dd H2 t
    have s3 := s2.trans t.1
    refine ⟨f, f.val, dd, .inl rfl, rfl, rfl, t.2.2, fun q H3 s4 hq hv => h q H3 (e1.trans (ExtN.of (s3.trans s4))) (t1.ext (s3.trans s4)) hv⟩
end K02

set_option Elab.async false
set_option linter.all false
set_option maxRecDepth 100000
set_option maxHeartbeats 4000000
namespace K02
open PySem L2 NX NU LamX
theorem five {α : Type} {xs : List α} (h : xs.length ≤ 5) : xs = [] ∨ (∃ a, xs = [a]) ∨ (∃ a b, xs = [a, b]) ∨ (∃ a b c, xs = [a, b, c]) ∨ (∃ a b c d, xs = [a, b, c, d]) ∨ ∃ a b c d e, xs = [a, b, c, d, e] := by
  cases xs with
  | nil => exact .inl rfl
  | cons a xs =>
  cases xs with
  | nil => exact .inr (.inl ⟨a, rfl⟩)
  | cons b xs =>
  cases xs with
  | nil => exact .inr (.inr (.inl ⟨a, b, rfl⟩))
  | cons c xs =>
  cases xs with
  | nil => exact .inr (.inr (.inr (.inl ⟨a, b, c, rfl⟩)))
  | cons d xs =>
  cases xs with
  | nil => exact .inr (.inr (.inr (.inr (.inl ⟨a, b, c, d, rfl⟩))))
  | cons e xs =>
  cases xs with
  | nil => exact .inr (.inr (.inr (.inr (.inr ⟨a, b, c, d, e, rfl⟩))))
  | cons f xs =>
    simp only [List.length_cons] at h
    omega
section
variable {P : Program} {w : World} {K : PySem.W.Frag} {mg : Str → Option Value} {base : Heap}
theorem ok_used {c : C4} {d : D3} {CS fU fM fD fH : Addr} {fdH : FuncData} {f cc Pc : Addr} {fd : FuncData} {TT : List (Addr × Str)} (F : FunC K "_law_used" sUsed f fd cc) (T : TxtB mg) (E : ErrK K mg c CS) (D : Dcs K mg d fU fM fD)
    (FU : FnR P w K mg base (CX P w) 5 fU (spUse K c)) (FH : Fun K "_law_heard" "_law_heard" sHeard fH fdH) (gH : mg "_law_heard" = some (.ref fH)) (hbH : Binds K fdH ["_law_ask"] []) (TB : TabB base mg cc Pc)
    (hmT : (Pc, Str.ofString "_law_used.<locals>.<lambda>") ∈ TT) (hu2 : ∀ p ∈ TT, p.1 = Pc → p.2 = Str.ofString "_law_used.<locals>.<lambda>") : FnG P w K mg base 9 f fd ["_law_used_here"] (spUsed K TT) := by
  obtain ⟨oc, od, kV, doc, pm, an, ct, osl, rfl, lk, hcd⟩ := F.ex
  obtain ⟨ocH, odH, kVH, docH, pmH, anH, cdvH, ctH, oslH, rfl, lkH, hcH⟩ := FH.ex
  refine ⟨fun vs H Q E h => ?_, fun A st s H args us vs Q gd hr0 e0 hb rv h => ?_⟩
  · obtain ⟨l, xs, r, rfl, _⟩ := h
    rfl
  · obtain ⟨l, xs, r, rfl, hS, few, hD, hTb, h⟩ := h
    refine run_ofS (k := 8) (N := ["_law_used_here"]) (ps := ["_law_used_here"]) lk hcd scUsed hr0 e0 hb rv rfl fun hr => ?_
    refine ⟨_, (pss_cons (ps_if (pt_cmpR op_eq (pe_callB call_len_seq (by rfl) T.blen (by decide +kernel) (pa_cons (pv 0) pa_nil)) pe_int (nomark _)) (pss_one (ps_ret (pe_lamcall (T := TT) (TT := THeard c) (c := cc) (P := Pc) (Ng := ["_law_ask", "_law_caught", "error", "_law_kinds"]) (a := "_law_ask") (t := fun E => (tMakeR0 d.u (spUse K c) E)) rfl gH FH.kp lkH hcH hbH scHeard rfl (Or.inl rfl) (heard_gives T E) TB rfl hmT hu2 (k := 6) hr (lamS_by (sc := defScope sUsed) (by decide +kernel)) rfl (fun _ _ _ _ _ => rfl) (fun A outer s H E f c2 hr2 => pe_makeR0 D.mu FU hr2 rfl D.gu (L2passOf (takes_of rfl rfl rfl rfl)))))) pss_nil)
      (pss_cons (ps_if (pt_cmpR op_eq (pe_callB call_len_seq (by rfl) T.blen (by decide +kernel) (pa_cons (pv 0) pa_nil)) pe_int (nomark _)) (pss_one (ps_ret (pe_lamcall (T := TT) (TT := THeard c) (c := cc) (P := Pc) (Ng := ["_law_ask", "_law_caught", "error", "_law_kinds"]) (a := "_law_ask") (t := fun E => StX.tMakeR d.u (spUse K c) E (tCons (tOp (rIxL K) (tVar 0) (tC (.int 0))) tNil)) rfl gH FH.kp lkH hcH hbH scHeard rfl (Or.inl rfl) (heard_gives T E) TB rfl hmT hu2 (k := 6) hr (lamS_by (sc := defScope sUsed) (by decide +kernel)) rfl (fun _ _ _ _ _ => rfl) (fun A outer s H E f c2 hr2 => StX.pe_makeR D.mu FU hr2 rfl D.gu (L2passOf (takes_of rfl rfl rfl rfl)) (pa_cons (pe_ix ix_list (pv 0) pe_int (fun _ _ => rfl)) pa_nil))))) pss_nil)
      (pss_cons (ps_if (pt_cmpR op_eq (pe_callB call_len_seq (by rfl) T.blen (by decide +kernel) (pa_cons (pv 0) pa_nil)) pe_int (nomark _)) (pss_one (ps_ret (pe_lamcall (T := TT) (TT := THeard c) (c := cc) (P := Pc) (Ng := ["_law_ask", "_law_caught", "error", "_law_kinds"]) (a := "_law_ask") (t := fun E => StX.tMakeR d.u (spUse K c) E (tCons (tOp (rIxL K) (tVar 0) (tC (.int 0))) (tCons (tOp (rIxL K) (tVar 0) (tC (.int 1))) tNil))) rfl gH FH.kp lkH hcH hbH scHeard rfl (Or.inl rfl) (heard_gives T E) TB rfl hmT hu2 (k := 6) hr (lamS_by (sc := defScope sUsed) (by decide +kernel)) rfl (fun _ _ _ _ _ => rfl) (fun A outer s H E f c2 hr2 => StX.pe_makeR D.mu FU hr2 rfl D.gu (L2passOf (takes_of rfl rfl rfl rfl)) (pa_cons (pe_ix ix_list (pv 0) pe_int (fun _ _ => rfl)) (pa_cons (pe_ix ix_list (pv 0) pe_int (fun _ _ => rfl)) pa_nil)))))) pss_nil)
      (pss_cons (ps_if (pt_cmpR op_eq (pe_callB call_len_seq (by rfl) T.blen (by decide +kernel) (pa_cons (pv 0) pa_nil)) pe_int (nomark _)) (pss_one (ps_ret (pe_lamcall (T := TT) (TT := THeard c) (c := cc) (P := Pc) (Ng := ["_law_ask", "_law_caught", "error", "_law_kinds"]) (a := "_law_ask") (t := fun E => StX.tMakeR d.u (spUse K c) E (tCons (tOp (rIxL K) (tVar 0) (tC (.int 0))) (tCons (tOp (rIxL K) (tVar 0) (tC (.int 1))) (tCons (tOp (rIxL K) (tVar 0) (tC (.int 2))) tNil)))) rfl gH FH.kp lkH hcH hbH scHeard rfl (Or.inl rfl) (heard_gives T E) TB rfl hmT hu2 (k := 6) hr (lamS_by (sc := defScope sUsed) (by decide +kernel)) rfl (fun _ _ _ _ _ => rfl) (fun A outer s H E f c2 hr2 => StX.pe_makeR D.mu FU hr2 rfl D.gu (L2passOf (takes_of rfl rfl rfl rfl)) (pa_cons (pe_ix ix_list (pv 0) pe_int (fun _ _ => rfl)) (pa_cons (pe_ix ix_list (pv 0) pe_int (fun _ _ => rfl)) (pa_cons (pe_ix ix_list (pv 0) pe_int (fun _ _ => rfl)) pa_nil))))))) pss_nil)
      (pss_cons (ps_if (pt_cmpR op_eq (pe_callB call_len_seq (by rfl) T.blen (by decide +kernel) (pa_cons (pv 0) pa_nil)) pe_int (nomark _)) (pss_one (ps_ret (pe_lamcall (T := TT) (TT := THeard c) (c := cc) (P := Pc) (Ng := ["_law_ask", "_law_caught", "error", "_law_kinds"]) (a := "_law_ask") (t := fun E => StX.tMakeR d.u (spUse K c) E (tCons (tOp (rIxL K) (tVar 0) (tC (.int 0))) (tCons (tOp (rIxL K) (tVar 0) (tC (.int 1))) (tCons (tOp (rIxL K) (tVar 0) (tC (.int 2))) (tCons (tOp (rIxL K) (tVar 0) (tC (.int 3))) tNil))))) rfl gH FH.kp lkH hcH hbH scHeard rfl (Or.inl rfl) (heard_gives T E) TB rfl hmT hu2 (k := 6) hr (lamS_by (sc := defScope sUsed) (by decide +kernel)) rfl (fun _ _ _ _ _ => rfl) (fun A outer s H E f c2 hr2 => StX.pe_makeR D.mu FU hr2 rfl D.gu (L2passOf (takes_of rfl rfl rfl rfl)) (pa_cons (pe_ix ix_list (pv 0) pe_int (fun _ _ => rfl)) (pa_cons (pe_ix ix_list (pv 0) pe_int (fun _ _ => rfl)) (pa_cons (pe_ix ix_list (pv 0) pe_int (fun _ _ => rfl)) (pa_cons (pe_ix ix_list (pv 0) pe_int (fun _ _ => rfl)) pa_nil)))))))) pss_nil)
      (pss_one (ps_ret (pe_lamcall (T := TT) (TT := THeard c) (c := cc) (P := Pc) (Ng := ["_law_ask", "_law_caught", "error", "_law_kinds"]) (a := "_law_ask") (t := fun E => StX.tMakeR d.u (spUse K c) E (tCons (tOp (rIxL K) (tVar 0) (tC (.int 0))) (tCons (tOp (rIxL K) (tVar 0) (tC (.int 1))) (tCons (tOp (rIxL K) (tVar 0) (tC (.int 2))) (tCons (tOp (rIxL K) (tVar 0) (tC (.int 3))) (tCons (tOp (rIxL K) (tVar 0) (tC (.int 4))) tNil)))))) rfl gH FH.kp lkH hcH hbH scHeard rfl (Or.inl rfl) (heard_gives T E) TB rfl hmT hu2 (k := 6) hr (lamS_by (sc := defScope sUsed) (by decide +kernel)) rfl (fun _ _ _ _ _ => rfl) (fun A outer s H E f c2 hr2 => StX.pe_makeR D.mu FU hr2 rfl D.gu (L2passOf (takes_of rfl rfl rfl rfl)) (pa_cons (pe_ix ix_list (pv 0) pe_int (fun _ _ => rfl)) (pa_cons (pe_ix ix_list (pv 0) pe_int (fun _ _ => rfl)) (pa_cons (pe_ix ix_list (pv 0) pe_int (fun _ _ => rfl)) (pa_cons (pe_ix ix_list (pv 0) pe_int (fun _ _ => rfl)) (pa_cons (pe_ix ix_list (pv 0) pe_int (fun _ _ => rfl)) pa_nil)))))))))))))), ?_⟩
    rcases five few with rfl | ⟨v0, rfl⟩ | ⟨v0, v1, rfl⟩ | ⟨v0, v1, v2, rfl⟩ | ⟨v0, v1, v2, v3, rfl⟩ | ⟨v0, v1, v2, v3, v4, rfl⟩
    · refine ⟨_, rfl, l, _, rfl, .inl hS, rfl, _, rfl, iteT ?_⟩
      refine ⟨hTb, fun H1 e1 t1 => ?_⟩
      intro R hR
      intro x dx h1 h2 h3
      have y := used_core (c := c) (Q := Q) (R := R) D few (hD.ext e1) e1 t1 h hR x dx h1 h2 h3
      dsimp only [tNil, List.append_nil] at y ⊢
      exact y
    · refine ⟨_, rfl, l, _, rfl, .inl hS, rfl, _, rfl, iteF ?_⟩
      refine ⟨_, rfl, l, _, rfl, .inl hS, rfl, _, rfl, iteT ?_⟩
      refine ⟨hTb, fun H1 e1 t1 => ?_⟩
      intro R hR
      refine ⟨_, rfl, l, _, ((0 : Nat) : Int), _, rfl, rfl, (K02.SqL.ext e1 hS), atI_nat rfl, ?_⟩
      intro x dx h1 h2 h3
      have y := used_core (c := c) (Q := Q) (R := R) D few (hD.ext e1) e1 t1 h hR x dx h1 h2 h3
      dsimp only [tNil, List.append_nil] at y ⊢
      exact y
    · refine ⟨_, rfl, l, _, rfl, .inl hS, rfl, _, rfl, iteF ?_⟩
      refine ⟨_, rfl, l, _, rfl, .inl hS, rfl, _, rfl, iteF ?_⟩
      refine ⟨_, rfl, l, _, rfl, .inl hS, rfl, _, rfl, iteT ?_⟩
      refine ⟨hTb, fun H1 e1 t1 => ?_⟩
      intro R hR
      refine ⟨_, rfl, l, _, ((0 : Nat) : Int), _, rfl, rfl, (K02.SqL.ext e1 hS), atI_nat rfl, ?_⟩
      refine ⟨_, rfl, l, _, ((1 : Nat) : Int), _, rfl, rfl, (K02.SqL.ext e1 hS), atI_nat rfl, ?_⟩
      intro x dx h1 h2 h3
      have y := used_core (c := c) (Q := Q) (R := R) D few (hD.ext e1) e1 t1 h hR x dx h1 h2 h3
      dsimp only [tNil, List.append_nil] at y ⊢
      exact y
    · refine ⟨_, rfl, l, _, rfl, .inl hS, rfl, _, rfl, iteF ?_⟩
      refine ⟨_, rfl, l, _, rfl, .inl hS, rfl, _, rfl, iteF ?_⟩
      refine ⟨_, rfl, l, _, rfl, .inl hS, rfl, _, rfl, iteF ?_⟩
      refine ⟨_, rfl, l, _, rfl, .inl hS, rfl, _, rfl, iteT ?_⟩
      refine ⟨hTb, fun H1 e1 t1 => ?_⟩
      intro R hR
      refine ⟨_, rfl, l, _, ((0 : Nat) : Int), _, rfl, rfl, (K02.SqL.ext e1 hS), atI_nat rfl, ?_⟩
      refine ⟨_, rfl, l, _, ((1 : Nat) : Int), _, rfl, rfl, (K02.SqL.ext e1 hS), atI_nat rfl, ?_⟩
      refine ⟨_, rfl, l, _, ((2 : Nat) : Int), _, rfl, rfl, (K02.SqL.ext e1 hS), atI_nat rfl, ?_⟩
      intro x dx h1 h2 h3
      have y := used_core (c := c) (Q := Q) (R := R) D few (hD.ext e1) e1 t1 h hR x dx h1 h2 h3
      dsimp only [tNil, List.append_nil] at y ⊢
      exact y
    · refine ⟨_, rfl, l, _, rfl, .inl hS, rfl, _, rfl, iteF ?_⟩
      refine ⟨_, rfl, l, _, rfl, .inl hS, rfl, _, rfl, iteF ?_⟩
      refine ⟨_, rfl, l, _, rfl, .inl hS, rfl, _, rfl, iteF ?_⟩
      refine ⟨_, rfl, l, _, rfl, .inl hS, rfl, _, rfl, iteF ?_⟩
      refine ⟨_, rfl, l, _, rfl, .inl hS, rfl, _, rfl, iteT ?_⟩
      refine ⟨hTb, fun H1 e1 t1 => ?_⟩
      intro R hR
      refine ⟨_, rfl, l, _, ((0 : Nat) : Int), _, rfl, rfl, (K02.SqL.ext e1 hS), atI_nat rfl, ?_⟩
      refine ⟨_, rfl, l, _, ((1 : Nat) : Int), _, rfl, rfl, (K02.SqL.ext e1 hS), atI_nat rfl, ?_⟩
      refine ⟨_, rfl, l, _, ((2 : Nat) : Int), _, rfl, rfl, (K02.SqL.ext e1 hS), atI_nat rfl, ?_⟩
      refine ⟨_, rfl, l, _, ((3 : Nat) : Int), _, rfl, rfl, (K02.SqL.ext e1 hS), atI_nat rfl, ?_⟩
      intro x dx h1 h2 h3
      have y := used_core (c := c) (Q := Q) (R := R) D few (hD.ext e1) e1 t1 h hR x dx h1 h2 h3
      dsimp only [tNil, List.append_nil] at y ⊢
      exact y
    · refine ⟨_, rfl, l, _, rfl, .inl hS, rfl, _, rfl, iteF ?_⟩
      refine ⟨_, rfl, l, _, rfl, .inl hS, rfl, _, rfl, iteF ?_⟩
      refine ⟨_, rfl, l, _, rfl, .inl hS, rfl, _, rfl, iteF ?_⟩
      refine ⟨_, rfl, l, _, rfl, .inl hS, rfl, _, rfl, iteF ?_⟩
      refine ⟨_, rfl, l, _, rfl, .inl hS, rfl, _, rfl, iteF ?_⟩
      refine ⟨hTb, fun H1 e1 t1 => ?_⟩
      intro R hR
      refine ⟨_, rfl, l, _, ((0 : Nat) : Int), _, rfl, rfl, (K02.SqL.ext e1 hS), atI_nat rfl, ?_⟩
      refine ⟨_, rfl, l, _, ((1 : Nat) : Int), _, rfl, rfl, (K02.SqL.ext e1 hS), atI_nat rfl, ?_⟩
      refine ⟨_, rfl, l, _, ((2 : Nat) : Int), _, rfl, rfl, (K02.SqL.ext e1 hS), atI_nat rfl, ?_⟩
      refine ⟨_, rfl, l, _, ((3 : Nat) : Int), _, rfl, rfl, (K02.SqL.ext e1 hS), atI_nat rfl, ?_⟩
      refine ⟨_, rfl, l, _, ((4 : Nat) : Int), _, rfl, rfl, (K02.SqL.ext e1 hS), atI_nat rfl, ?_⟩
      intro x dx h1 h2 h3
      have y := used_core (c := c) (Q := Q) (R := R) D few (hD.ext e1) e1 t1 h hR x dx h1 h2 h3
      dsimp only [tNil, List.append_nil] at y ⊢
      exact y
end
end K02

set_option Elab.async false
set_option linter.all false
set_option maxRecDepth 100000
set_option maxHeartbeats 4000000
namespace K02
open PySem L2 NX NU LamX
abbrev sDone : Stmt := top 29
theorem scDone : FnScope ["_law_made", "_law_used_here"] ["_law_made", "_law_used_here"] (defScope sDone) := ⟨rfl, rfl, rfl, by decide +kernel, rfl, by decide +kernel, by decide +kernel⟩
def spDone (K : PySem.W.Frag) (TT : List (Addr × Str)) : Sp := fun vs H Q _ => ∃ (v : V) (l : Addr) (xs : List V) (r : Option Fa), vs = [v, .ref l] ∧ SqL K H l xs ∧ xs.length ≤ 5 ∧ DueF K H (v :: xs) 1 r ∧ Tabs TT H ∧ TellsE TT H Q r
theorem done_core {K : PySem.W.Frag} {mg : Str → Option Value} {c : C4} {d : D3} {fU fM fD : Addr} {TT : List (Addr × Str)} {H H1 : Hp} {v : V} {xs : List V} {r : Option Fa} {Q R : VK} (D : Dcs K mg d fU fM fD) (few : xs.length ≤ 5) (hD : DueF K H1 (v :: xs) 1 r) (e1 : ExtN H H1) (t1 : Tabs TT H1) (h : TellsE TT H Q r) (hR : ∀ v H2, Q .non H2 → R v H2) :
    ∀ x dx, H1 x = none → H1 dx = none → dx ≠ x → spDo K c (V.ref x :: v :: xs) (upd (upd H1 dx (.own x)) x (.ins d.d dx [])) (fun v H2 => v = .non ∧ R (.ref x) H2)
      (fun cls dd H' => ∃ (f : Fa) (u : V) (a : Addr), (u = f.val ∨ f = .em) ∧ cls = .ref (f.cls c) ∧ dd = some a ∧ H' a = some (.xd [(f.fld, u)]) ∧ ∀ p H'', Same H' H'' → H' p = none → H'' p = some (.tup [.str f.word, u]) → Q (.ref p) H'') := by
  intro x dx h1 h2 h3
  have s1 := made2 (C := d.d) h1 h2 h3
  have lz : 60 ≤ sizeLine := by decide
  refine ⟨[.ref x, v], xs, rfl, rfl, by omega, fun p hp => ?_⟩
  have s2 := s1.trans (Same.new (o := .tup xs) hp)
  have px : x ≠ p := fun e => by rw [← e, upd_same] at hp; cases hp
  refine ⟨x, d.d, dx, p, v, xs, r, rfl, D.dd, (upd_ne px).trans upd_same, upd_same, by omega, hD.same s2, ?_⟩
  cases r with
  | none =>
    intro m ws ys H2 ev e asc but dd
    have s3 := new_of h1 s2 but
    exact ⟨rfl, hR _ _ (h H2 (e1.trans (ExtN.of s3)) (t1.ext s3))⟩
  | some f =>
    intro dd H2 t
    have s3 := s2.trans t.1
    refine ⟨f, f.val, dd, .inl rfl, rfl, rfl, t.2.2, fun q H3 s4 hq hv => h q H3 (e1.trans (ExtN.of (s3.trans s4))) (t1.ext (s3.trans s4)) hv⟩
section
variable {P : Program} {w : World} {K : PySem.W.Frag} {mg : Str → Option Value} {base : Heap}
theorem ok_done {c : C4} {d : D3} {CS fU fM fD fH : Addr} {fdH : FuncData} {f cc Pc : Addr} {fd : FuncData} {TT : List (Addr × Str)} (F : FunC K "_law_done" sDone f fd cc) (T : TxtB mg) (E : ErrK K mg c CS) (D : Dcs K mg d fU fM fD)
    (FD : FnR P w K mg base (CX P w) 5 fD (spDo K c)) (FH : Fun K "_law_heard" "_law_heard" sHeard fH fdH) (gH : mg "_law_heard" = some (.ref fH)) (hbH : Binds K fdH ["_law_ask"] []) (TB : TabB base mg cc Pc)
    (hmT : (Pc, Str.ofString "_law_done.<locals>.<lambda>") ∈ TT) (hu2 : ∀ p ∈ TT, p.1 = Pc → p.2 = Str.ofString "_law_done.<locals>.<lambda>") : FnG P w K mg base 9 f fd ["_law_made", "_law_used_here"] (spDone K TT) := by
  obtain ⟨oc, od, kV, doc, pm, an, ct, osl, rfl, lk, hcd⟩ := F.ex
  obtain ⟨ocH, odH, kVH, docH, pmH, anH, cdvH, ctH, oslH, rfl, lkH, hcH⟩ := FH.ex
  refine ⟨fun vs H Q E h => ?_, fun A st s H args us vs Q gd hr0 e0 hb rv h => ?_⟩
  · obtain ⟨v, l, xs, r, rfl, _⟩ := h
    rfl
  · obtain ⟨v, l, xs, r, rfl, hS, few, hD, hTb, h⟩ := h
    refine run_ofS (k := 8) (N := ["_law_made", "_law_used_here"]) (ps := ["_law_made", "_law_used_here"]) lk hcd scDone hr0 e0 hb rv rfl fun hr => ?_
    refine ⟨_, (pss_cons (ps_if (pt_cmpR op_eq (pe_callB call_len_seq (by rfl) T.blen (by decide +kernel) (pa_cons (pv 1) pa_nil)) pe_int (nomark _)) (pss_one (ps_ret (pe_lamcall (T := TT) (TT := THeard c) (c := cc) (P := Pc) (Ng := ["_law_ask", "_law_caught", "error", "_law_kinds"]) (a := "_law_ask") (t := fun E => StX.tMakeR d.d (spDo K c) E (tCons (tVar 0) tNil)) rfl gH FH.kp lkH hcH hbH scHeard rfl (Or.inl rfl) (heard_gives T E) TB rfl hmT hu2 (k := 6) hr (lamS_by (sc := defScope sDone) (by decide +kernel)) rfl (fun _ _ _ _ _ => rfl) (fun A outer s H E f c2 hr2 => StX.pe_makeR D.md FD hr2 rfl D.gd (L2passOf (takes_of rfl rfl rfl rfl)) (pa_cons (pv 0) pa_nil))))) pss_nil)
      (pss_cons (ps_if (pt_cmpR op_eq (pe_callB call_len_seq (by rfl) T.blen (by decide +kernel) (pa_cons (pv 1) pa_nil)) pe_int (nomark _)) (pss_one (ps_ret (pe_lamcall (T := TT) (TT := THeard c) (c := cc) (P := Pc) (Ng := ["_law_ask", "_law_caught", "error", "_law_kinds"]) (a := "_law_ask") (t := fun E => StX.tMakeR d.d (spDo K c) E (tCons (tVar 0) (tCons (tOp (rIxL K) (tVar 1) (tC (.int 0))) tNil))) rfl gH FH.kp lkH hcH hbH scHeard rfl (Or.inl rfl) (heard_gives T E) TB rfl hmT hu2 (k := 6) hr (lamS_by (sc := defScope sDone) (by decide +kernel)) rfl (fun _ _ _ _ _ => rfl) (fun A outer s H E f c2 hr2 => StX.pe_makeR D.md FD hr2 rfl D.gd (L2passOf (takes_of rfl rfl rfl rfl)) (pa_cons (pv 0) (pa_cons (pe_ix ix_list (pv 1) pe_int (fun _ _ => rfl)) pa_nil)))))) pss_nil)
      (pss_cons (ps_if (pt_cmpR op_eq (pe_callB call_len_seq (by rfl) T.blen (by decide +kernel) (pa_cons (pv 1) pa_nil)) pe_int (nomark _)) (pss_one (ps_ret (pe_lamcall (T := TT) (TT := THeard c) (c := cc) (P := Pc) (Ng := ["_law_ask", "_law_caught", "error", "_law_kinds"]) (a := "_law_ask") (t := fun E => StX.tMakeR d.d (spDo K c) E (tCons (tVar 0) (tCons (tOp (rIxL K) (tVar 1) (tC (.int 0))) (tCons (tOp (rIxL K) (tVar 1) (tC (.int 1))) tNil)))) rfl gH FH.kp lkH hcH hbH scHeard rfl (Or.inl rfl) (heard_gives T E) TB rfl hmT hu2 (k := 6) hr (lamS_by (sc := defScope sDone) (by decide +kernel)) rfl (fun _ _ _ _ _ => rfl) (fun A outer s H E f c2 hr2 => StX.pe_makeR D.md FD hr2 rfl D.gd (L2passOf (takes_of rfl rfl rfl rfl)) (pa_cons (pv 0) (pa_cons (pe_ix ix_list (pv 1) pe_int (fun _ _ => rfl)) (pa_cons (pe_ix ix_list (pv 1) pe_int (fun _ _ => rfl)) pa_nil))))))) pss_nil)
      (pss_cons (ps_if (pt_cmpR op_eq (pe_callB call_len_seq (by rfl) T.blen (by decide +kernel) (pa_cons (pv 1) pa_nil)) pe_int (nomark _)) (pss_one (ps_ret (pe_lamcall (T := TT) (TT := THeard c) (c := cc) (P := Pc) (Ng := ["_law_ask", "_law_caught", "error", "_law_kinds"]) (a := "_law_ask") (t := fun E => StX.tMakeR d.d (spDo K c) E (tCons (tVar 0) (tCons (tOp (rIxL K) (tVar 1) (tC (.int 0))) (tCons (tOp (rIxL K) (tVar 1) (tC (.int 1))) (tCons (tOp (rIxL K) (tVar 1) (tC (.int 2))) tNil))))) rfl gH FH.kp lkH hcH hbH scHeard rfl (Or.inl rfl) (heard_gives T E) TB rfl hmT hu2 (k := 6) hr (lamS_by (sc := defScope sDone) (by decide +kernel)) rfl (fun _ _ _ _ _ => rfl) (fun A outer s H E f c2 hr2 => StX.pe_makeR D.md FD hr2 rfl D.gd (L2passOf (takes_of rfl rfl rfl rfl)) (pa_cons (pv 0) (pa_cons (pe_ix ix_list (pv 1) pe_int (fun _ _ => rfl)) (pa_cons (pe_ix ix_list (pv 1) pe_int (fun _ _ => rfl)) (pa_cons (pe_ix ix_list (pv 1) pe_int (fun _ _ => rfl)) pa_nil)))))))) pss_nil)
      (pss_cons (ps_if (pt_cmpR op_eq (pe_callB call_len_seq (by rfl) T.blen (by decide +kernel) (pa_cons (pv 1) pa_nil)) pe_int (nomark _)) (pss_one (ps_ret (pe_lamcall (T := TT) (TT := THeard c) (c := cc) (P := Pc) (Ng := ["_law_ask", "_law_caught", "error", "_law_kinds"]) (a := "_law_ask") (t := fun E => StX.tMakeR d.d (spDo K c) E (tCons (tVar 0) (tCons (tOp (rIxL K) (tVar 1) (tC (.int 0))) (tCons (tOp (rIxL K) (tVar 1) (tC (.int 1))) (tCons (tOp (rIxL K) (tVar 1) (tC (.int 2))) (tCons (tOp (rIxL K) (tVar 1) (tC (.int 3))) tNil)))))) rfl gH FH.kp lkH hcH hbH scHeard rfl (Or.inl rfl) (heard_gives T E) TB rfl hmT hu2 (k := 6) hr (lamS_by (sc := defScope sDone) (by decide +kernel)) rfl (fun _ _ _ _ _ => rfl) (fun A outer s H E f c2 hr2 => StX.pe_makeR D.md FD hr2 rfl D.gd (L2passOf (takes_of rfl rfl rfl rfl)) (pa_cons (pv 0) (pa_cons (pe_ix ix_list (pv 1) pe_int (fun _ _ => rfl)) (pa_cons (pe_ix ix_list (pv 1) pe_int (fun _ _ => rfl)) (pa_cons (pe_ix ix_list (pv 1) pe_int (fun _ _ => rfl)) (pa_cons (pe_ix ix_list (pv 1) pe_int (fun _ _ => rfl)) pa_nil))))))))) pss_nil)
      (pss_one (ps_ret (pe_lamcall (T := TT) (TT := THeard c) (c := cc) (P := Pc) (Ng := ["_law_ask", "_law_caught", "error", "_law_kinds"]) (a := "_law_ask") (t := fun E => StX.tMakeR d.d (spDo K c) E (tCons (tVar 0) (tCons (tOp (rIxL K) (tVar 1) (tC (.int 0))) (tCons (tOp (rIxL K) (tVar 1) (tC (.int 1))) (tCons (tOp (rIxL K) (tVar 1) (tC (.int 2))) (tCons (tOp (rIxL K) (tVar 1) (tC (.int 3))) (tCons (tOp (rIxL K) (tVar 1) (tC (.int 4))) tNil))))))) rfl gH FH.kp lkH hcH hbH scHeard rfl (Or.inl rfl) (heard_gives T E) TB rfl hmT hu2 (k := 6) hr (lamS_by (sc := defScope sDone) (by decide +kernel)) rfl (fun _ _ _ _ _ => rfl) (fun A outer s H E f c2 hr2 => StX.pe_makeR D.md FD hr2 rfl D.gd (L2passOf (takes_of rfl rfl rfl rfl)) (pa_cons (pv 0) (pa_cons (pe_ix ix_list (pv 1) pe_int (fun _ _ => rfl)) (pa_cons (pe_ix ix_list (pv 1) pe_int (fun _ _ => rfl)) (pa_cons (pe_ix ix_list (pv 1) pe_int (fun _ _ => rfl)) (pa_cons (pe_ix ix_list (pv 1) pe_int (fun _ _ => rfl)) (pa_cons (pe_ix ix_list (pv 1) pe_int (fun _ _ => rfl)) pa_nil))))))))))))))), ?_⟩
    rcases five few with rfl | ⟨v0, rfl⟩ | ⟨v0, v1, rfl⟩ | ⟨v0, v1, v2, rfl⟩ | ⟨v0, v1, v2, v3, rfl⟩ | ⟨v0, v1, v2, v3, v4, rfl⟩
    · refine ⟨_, rfl, l, _, rfl, .inl hS, rfl, _, rfl, iteT ?_⟩
      refine ⟨hTb, fun H1 e1 t1 => ?_⟩
      intro R hR
      refine ⟨_, rfl, ?_⟩
      intro x dx h1 h2 h3
      have y := done_core (c := c) (Q := Q) (R := R) D few (hD.ext e1) e1 t1 h hR x dx h1 h2 h3
      dsimp only [tNil, List.append_nil] at y ⊢
      exact y
    · refine ⟨_, rfl, l, _, rfl, .inl hS, rfl, _, rfl, iteF ?_⟩
      refine ⟨_, rfl, l, _, rfl, .inl hS, rfl, _, rfl, iteT ?_⟩
      refine ⟨hTb, fun H1 e1 t1 => ?_⟩
      intro R hR
      refine ⟨_, rfl, ?_⟩
      refine ⟨_, rfl, l, _, ((0 : Nat) : Int), _, rfl, rfl, (K02.SqL.ext e1 hS), atI_nat rfl, ?_⟩
      intro x dx h1 h2 h3
      have y := done_core (c := c) (Q := Q) (R := R) D few (hD.ext e1) e1 t1 h hR x dx h1 h2 h3
      dsimp only [tNil, List.append_nil] at y ⊢
      exact y
    · refine ⟨_, rfl, l, _, rfl, .inl hS, rfl, _, rfl, iteF ?_⟩
      refine ⟨_, rfl, l, _, rfl, .inl hS, rfl, _, rfl, iteF ?_⟩
      refine ⟨_, rfl, l, _, rfl, .inl hS, rfl, _, rfl, iteT ?_⟩
      refine ⟨hTb, fun H1 e1 t1 => ?_⟩
      intro R hR
      refine ⟨_, rfl, ?_⟩
      refine ⟨_, rfl, l, _, ((0 : Nat) : Int), _, rfl, rfl, (K02.SqL.ext e1 hS), atI_nat rfl, ?_⟩
      refine ⟨_, rfl, l, _, ((1 : Nat) : Int), _, rfl, rfl, (K02.SqL.ext e1 hS), atI_nat rfl, ?_⟩
      intro x dx h1 h2 h3
      have y := done_core (c := c) (Q := Q) (R := R) D few (hD.ext e1) e1 t1 h hR x dx h1 h2 h3
      dsimp only [tNil, List.append_nil] at y ⊢
      exact y
    · refine ⟨_, rfl, l, _, rfl, .inl hS, rfl, _, rfl, iteF ?_⟩
      refine ⟨_, rfl, l, _, rfl, .inl hS, rfl, _, rfl, iteF ?_⟩
      refine ⟨_, rfl, l, _, rfl, .inl hS, rfl, _, rfl, iteF ?_⟩
      refine ⟨_, rfl, l, _, rfl, .inl hS, rfl, _, rfl, iteT ?_⟩
      refine ⟨hTb, fun H1 e1 t1 => ?_⟩
      intro R hR
      refine ⟨_, rfl, ?_⟩
      refine ⟨_, rfl, l, _, ((0 : Nat) : Int), _, rfl, rfl, (K02.SqL.ext e1 hS), atI_nat rfl, ?_⟩
      refine ⟨_, rfl, l, _, ((1 : Nat) : Int), _, rfl, rfl, (K02.SqL.ext e1 hS), atI_nat rfl, ?_⟩
      refine ⟨_, rfl, l, _, ((2 : Nat) : Int), _, rfl, rfl, (K02.SqL.ext e1 hS), atI_nat rfl, ?_⟩
      intro x dx h1 h2 h3
      have y := done_core (c := c) (Q := Q) (R := R) D few (hD.ext e1) e1 t1 h hR x dx h1 h2 h3
      dsimp only [tNil, List.append_nil] at y ⊢
      exact y
    · refine ⟨_, rfl, l, _, rfl, .inl hS, rfl, _, rfl, iteF ?_⟩
      refine ⟨_, rfl, l, _, rfl, .inl hS, rfl, _, rfl, iteF ?_⟩
      refine ⟨_, rfl, l, _, rfl, .inl hS, rfl, _, rfl, iteF ?_⟩
      refine ⟨_, rfl, l, _, rfl, .inl hS, rfl, _, rfl, iteF ?_⟩
      refine ⟨_, rfl, l, _, rfl, .inl hS, rfl, _, rfl, iteT ?_⟩
      refine ⟨hTb, fun H1 e1 t1 => ?_⟩
      intro R hR
      refine ⟨_, rfl, ?_⟩
      refine ⟨_, rfl, l, _, ((0 : Nat) : Int), _, rfl, rfl, (K02.SqL.ext e1 hS), atI_nat rfl, ?_⟩
      refine ⟨_, rfl, l, _, ((1 : Nat) : Int), _, rfl, rfl, (K02.SqL.ext e1 hS), atI_nat rfl, ?_⟩
      refine ⟨_, rfl, l, _, ((2 : Nat) : Int), _, rfl, rfl, (K02.SqL.ext e1 hS), atI_nat rfl, ?_⟩
      refine ⟨_, rfl, l, _, ((3 : Nat) : Int), _, rfl, rfl, (K02.SqL.ext e1 hS), atI_nat rfl, ?_⟩
      intro x dx h1 h2 h3
      have y := done_core (c := c) (Q := Q) (R := R) D few (hD.ext e1) e1 t1 h hR x dx h1 h2 h3
      dsimp only [tNil, List.append_nil] at y ⊢
      exact y
    · refine ⟨_, rfl, l, _, rfl, .inl hS, rfl, _, rfl, iteF ?_⟩
      refine ⟨_, rfl, l, _, rfl, .inl hS, rfl, _, rfl, iteF ?_⟩
      refine ⟨_, rfl, l, _, rfl, .inl hS, rfl, _, rfl, iteF ?_⟩
      refine ⟨_, rfl, l, _, rfl, .inl hS, rfl, _, rfl, iteF ?_⟩
      refine ⟨_, rfl, l, _, rfl, .inl hS, rfl, _, rfl, iteF ?_⟩
      refine ⟨hTb, fun H1 e1 t1 => ?_⟩
      intro R hR
      refine ⟨_, rfl, ?_⟩
      refine ⟨_, rfl, l, _, ((0 : Nat) : Int), _, rfl, rfl, (K02.SqL.ext e1 hS), atI_nat rfl, ?_⟩
      refine ⟨_, rfl, l, _, ((1 : Nat) : Int), _, rfl, rfl, (K02.SqL.ext e1 hS), atI_nat rfl, ?_⟩
      refine ⟨_, rfl, l, _, ((2 : Nat) : Int), _, rfl, rfl, (K02.SqL.ext e1 hS), atI_nat rfl, ?_⟩
      refine ⟨_, rfl, l, _, ((3 : Nat) : Int), _, rfl, rfl, (K02.SqL.ext e1 hS), atI_nat rfl, ?_⟩
      refine ⟨_, rfl, l, _, ((4 : Nat) : Int), _, rfl, rfl, (K02.SqL.ext e1 hS), atI_nat rfl, ?_⟩
      intro x dx h1 h2 h3
      have y := done_core (c := c) (Q := Q) (R := R) D few (hD.ext e1) e1 t1 h hR x dx h1 h2 h3
      dsimp only [tNil, List.append_nil] at y ⊢
      exact y
end
end K02

set_option Elab.async false
set_option linter.all false
set_option maxRecDepth 100000
set_option maxHeartbeats 4000000
/-! What the law's values are refused with, as data; what the law's loop keeps. -/
namespace K02
open PySem L2 NX NU LamX
theorem namT_ok : namT.all (fun z => nm z && decide (z.length ≤ 6) && z.cps.toList.all (fun c => decide (c < 256))) = true := by decide +kernel
theorem namT_at {z : Str} (h : z ∈ namT) : nm z = true ∧ z.length ≤ 6 ∧ okS z := by
  have q := List.all_eq_true.mp namT_ok z h
  rw [Bool.and_eq_true, Bool.and_eq_true, decide_eq_true_eq, List.all_eq_true] at q
  exact ⟨q.1.1, q.1.2, fun c hc => of_decide_eq_true (q.2 c hc)⟩
theorem smD_str {K : PySem.W.Frag} {H : Hp} {z : Str} (h : okS z) (l : z.length ≤ 1000) : SmD K H (.str z) (.str z) := by
  refine ⟨.str z, rfl, by show (0 : Nat) ≤ 3; decide, ?_, fun i e => by cases e⟩
  rw [PyData.shown.eq_def]
  have r := PySem.StrLaws.reprText_len z (fun c hc => Nat.lt_trans (h c hc) (by decide))
  exact Nat.le_trans r (by omega)
theorem smD_non {K : PySem.W.Frag} {H : Hp} : SmD K H .non .none := ⟨.non, rfl, by decide, by decide +kernel, fun i e => by cases e⟩
theorem Ov.smD {K : PySem.W.Frag} {H : Hp} {v : V} (h : Ov H v) : ∃ d, SmD K H v d := by
  cases h with
  | non => exact ⟨_, smD_non⟩
  | bl => exact ⟨_, .bl _, rfl, by decide, by decide +kernel, fun i e => by cases e⟩
  | i0 => exact ⟨_, .int _, rfl, by decide, by decide +kernel, fun i e => by cases e; decide⟩
  | i9 => exact ⟨_, .int _, rfl, by decide, by decide +kernel, fun i e => by cases e; decide⟩
  | tx h => exact ⟨_, smD_str (oddT_at h).2.2 (oddT_at h).2.1⟩
  | tup h => exact ⟨_, .tup (SqT.of h) (.cons (.str _) .nil), by decide +kernel, by decide +kernel, by decide +kernel, fun i e => by cases e⟩
  | lst h => exact ⟨_, .lst (SqL.of h) (.cons (.str _) .nil), by decide +kernel, by decide +kernel, by decide +kernel, fun i e => by cases e⟩
  | d1 h => exact ⟨_, .dct h (.cons (.int _) .nil), by decide +kernel, by decide +kernel, by decide +kernel, fun i e => by cases e⟩
  | d0 h => exact ⟨_, .dct h .nil, by decide +kernel, by decide +kernel, by decide +kernel, fun i e => by cases e⟩
theorem Lv.smD {K : PySem.W.Frag} {H : Hp} {v : V} (h : Lv H v) : ∃ d, SmD K H v d := by
  rcases h with ⟨z, hz, rfl⟩ | h
  · obtain ⟨a, b, c⟩ := namT_at hz
    exact ⟨_, smD_str c (by omega)⟩
  · exact h.smD
theorem Lv.sml {K : PySem.W.Frag} {H : Hp} {v : V} (h : Lv H v) : Sml K H v := by
  rcases h with ⟨z, hz, rfl⟩ | h
  · obtain ⟨a, b, c⟩ := namT_at hz
    exact .inl ⟨z, rfl, by omega, c⟩
  · exact h.sml
/-- the first that is no name, or none -/
theorem look {K : PySem.W.Frag} {H : Hp} : ∀ l : List V, (∀ v ∈ l, Lv H v) → (∃ ws, l = ws.map V.str ∧ Nms ws ∧ ∀ z ∈ ws, okS z) ∨ ∃ ws v rest, l = ws.map V.str ++ v :: rest ∧ Nms ws ∧ NoNm K H v ∧ v ∈ l
  | [], _ => .inl ⟨[], rfl, nofun, nofun⟩
  | y :: l, h => by
    rcases h y List.mem_cons_self with ⟨z, hz, rfl⟩ | ho
    · obtain ⟨a, b, c⟩ := namT_at hz
      have me : z.length ≤ 1000 ∧ nm z = true := ⟨by omega, a⟩
      rcases look (K := K) l fun v hv => h v (List.mem_cons_of_mem _ hv) with ⟨ws, rfl, h2, h3⟩ | ⟨ws, v, rest, rfl, h2, h3, h4⟩
      · exact .inl ⟨z :: ws, rfl, fun q hq => (List.mem_cons.mp hq).elim (fun e => by rw [e]; exact me) (h2 q), fun q hq => (List.mem_cons.mp hq).elim (fun e => by rw [e]; exact c) (h3 q)⟩
      · exact .inr ⟨z :: ws, v, rest, rfl, fun q hq => (List.mem_cons.mp hq).elim (fun e => by rw [e]; exact me) (h2 q), h3, List.mem_cons_of_mem _ h4⟩
    · exact .inr ⟨[], y, l, rfl, nofun, ho.no, List.mem_cons_self⟩
theorem due_any (K : PySem.W.Frag) (H : Hp) (k : Nat) (xs : List V) (h : ∀ v ∈ xs, Lv H v) : ∃ r, DueF K H xs k r ∧ ∀ f, r = some f → ∃ d, SmD K H f.val d := by
  rcases look (K := K) xs h with ⟨ws, e, hn, hk⟩ | ⟨ws, v, rest, e1, e2, e3, e4⟩
  · obtain ⟨r, hr⟩ := usedF_any (ws.drop k)
    refine ⟨r, .rest e hn hr, fun f ef => ?_⟩
    subst ef
    cases hr with
    | tw q =>
      have hm := List.mem_of_mem_drop (List.mem_of_getElem? q.1)
      exact ⟨_, smD_str (hk _ hm) (hn _ hm).1⟩
    | mn => exact ⟨_, .int _, rfl, by decide, by decide +kernel, fun i e => by cases e; decide⟩
    | em => exact ⟨_, smD_non⟩
  · refine ⟨_, .nm ⟨rest, e1, e2, e3⟩, fun f ef => ?_⟩
    cases ef
    exact (h v e4).smD
/-- an answer: nothing, or a word and a value; its data -/
abbrev Op := Option (Str × V)
def fo : Option Fa → Op := Option.map fun f => (f.word, f.val)
def ansD (o : Op) (d : PyData) : PyData := match o with
  | none => .none
  | some e => .tuple [.str e.1, d]
/-- .. at v -/
def Ans (K : PySem.W.Frag) (H : Hp) (o : Op) (d : PyData) (v : V) : Prop := match o with
  | none => v = .non
  | some e => (e.1 = "name" ∨ e.1 = "twice" ∨ e.1 = "many" ∨ e.1 = "deed") ∧ ∃ p, v = .ref p ∧ H p = some (.tup [.str e.1, e.2]) ∧ SmD K H e.2 d
theorem word_ok : ∀ z : Str, z = "name" ∨ z = "twice" ∨ z = "many" ∨ z = "deed" → z.length ≤ 100 ∧ z.cps.toList.all (fun c => decide (c < 1114112)) = true := fun z h => by
  rcases h with h | h | h | h <;> subst h <;> exact ⟨by decide +kernel, by decide +kernel⟩
theorem Fa.word_is (f : Fa) : f.word = "name" ∨ f.word = "twice" ∨ f.word = "many" ∨ f.word = "deed" := by
  cases f with
  | nm v => exact .inl rfl
  | tw z => exact .inr (.inl rfl)
  | mn => exact .inr (.inr (.inl rfl))
  | em => exact .inr (.inr (.inr rfl))
theorem Ans.ask {K : PySem.W.Frag} {H : Hp} {o : Op} {d : PyData} {v : V} {Q : VK} (h : Ans K H o d v) (q : Q (.str (ansD o d).shown) H) : rReprD K [v] H Q := by
  cases o with
  | none =>
    obtain rfl : v = .non := h
    exact smD_non.ask q
  | some e =>
    obtain ⟨hw, p, rfl, hp, hd⟩ := h
    obtain ⟨w1, w2⟩ := word_ok _ hw
    exact hd.pair w1 w2 hp q
theorem Ans.ext {K : PySem.W.Frag} {H H' : Hp} {o : Op} {d : PyData} {v : V} (s : ExtN H H') (h : Ans K H o d v) : Ans K H' o d v := by
  cases o with
  | none => exact h
  | some e =>
    obtain ⟨hw, p, hv, hp, hd⟩ := h
    exact ⟨hw, p, hv, s _ _ hp (by intro q e; cases e), hd.ext s⟩
/-- what is told of an answer -/
def TellsO (TT : List (Addr × Str)) (H : Hp) (Q : VK) : Op → Prop
  | none => ∀ H', ExtN H H' → Tabs TT H' → Q .non H'
  | some e => ∀ p H', ExtN H H' → Tabs TT H' → H' p = some (.tup [.str e.1, e.2]) → Q (.ref p) H'
theorem tellsO_of {K : PySem.W.Frag} {TT : List (Addr × Str)} {H : Hp} {Q : VK} {o : Op} {d : PyData} (hd : ∀ e, o = some e → SmD K H e.2 d) (hw : ∀ e, o = some e → e.1 = "name" ∨ e.1 = "twice" ∨ e.1 = "many" ∨ e.1 = "deed") (q : ∀ v H', ExtN H H' → Tabs TT H' → Ans K H' o d v → Q v H') : TellsO TT H Q o := by
  cases o with
  | none => exact fun H' e t => q _ H' e t rfl
  | some e => exact fun p H' x t hp => q _ H' x t ⟨hw _ rfl, p, rfl, hp, (hd _ rfl).ext x⟩
theorem tellsE_of {K : PySem.W.Frag} {TT : List (Addr × Str)} {H : Hp} {Q : VK} {r : Option Fa} {d : PyData} (hd : ∀ f, r = some f → SmD K H f.val d) (q : ∀ v H', ExtN H H' → Tabs TT H' → Ans K H' (fo r) d v → Q v H') : TellsE TT H Q r := by
  cases r with
  | none => exact fun H' e t => q _ H' e t rfl
  | some f => exact fun p H' e t hp => q _ H' e t ⟨f.word_is, p, rfl, hp, (hd f rfl).ext e⟩
theorem tells_of {K : PySem.W.Frag} {H : Hp} {Q : VK} {r : Option Fa} {d : PyData} (hd : ∀ f, r = some f → SmD K H f.val d) (q : ∀ v H', Same H H' → Ans K H' (fo r) d v → Q v H') : Tells H Q r := by
  cases r with
  | none => exact fun H' e => q _ H' e rfl
  | some f => exact fun p H' e hn hp => q _ H' e ⟨f.word_is, p, rfl, hp, (hd f rfl).same e⟩
theorem Pen.ext {H H' : Hp} {p c : Addr} {ns : List Int} {at_ rest : Int} (P : Pen H p c ns at_ rest) (s : ExtN H H') : Pen H' p c ns at_ rest := ⟨s _ _ P.hp (by intro q e; cases e), s _ _ P.hc (by intro q e; cases e), P.la, P.lr⟩
/-- the tables stay while the pen draws -/
theorem tabsBut {TT : List (Addr × Str)} {H H' : Hp} {p : Addr} {xs : List V} (t : Tabs TT H) (hp : H p = some (.lst xs)) (s : But p H H') : Tabs TT H' := fun e he => by
  obtain ⟨ps, a, b, c⟩ := t e he
  refine ⟨ps, s _ _ a (fun z => by rw [z, hp] at a; cases a), b, fun pos cv hc => ?_⟩
  obtain ⟨c', e1, e2⟩ := c pos cv hc
  exact ⟨c', e1, s _ _ e2 (fun z => by rw [z, hp] at e2; unfold CodeO at e2; cases e2)⟩
/-- what the law's loop keeps: the pen, the tables -/
structure LawI (TT : List (Addr × Str)) (p c : Addr) (ms : List Int) (B : Int) (H : Hp) : Prop where
  pen : ∃ at' rest', Pen H p c ms at' rest' ∧ at' ≤ B
  tab : Tabs TT H
theorem LawI.same {TT : List (Addr × Str)} {p c : Addr} {ms : List Int} {B : Int} {H H' : Hp} (h : LawI TT p c ms B H) (s : Same H H') : LawI TT p c ms B H' := by
  obtain ⟨a, r, P, ha⟩ := h.pen
  exact ⟨⟨a, r, P.same s, ha⟩, h.tab.ext s⟩
theorem LawI.ext {TT : List (Addr × Str)} {p c : Addr} {ms : List Int} {B : Int} {H H' : Hp} (h : LawI TT p c ms B H) (s : ExtN H H') (t : Tabs TT H') : LawI TT p c ms B H' := by
  obtain ⟨a, r, P, ha⟩ := h.pen
  exact ⟨⟨a, r, P.ext s, ha⟩, t⟩
theorem LawI.mono {TT : List (Addr × Str)} {p c : Addr} {ms : List Int} {B B' : Int} {H : Hp} (h : LawI TT p c ms B H) (hb : B ≤ B') : LawI TT p c ms B' H := by
  obtain ⟨a, r, P, ha⟩ := h.pen
  exact ⟨⟨a, r, P, Int.le_trans ha hb⟩, h.tab⟩
theorem LawI.drawn {TT : List (Addr × Str)} {p c : Addr} {ms : List Int} {B B' : Int} {H H' : Hp} (h : LawI TT p c ms B H) (d : Drawn H p c ms B' H') : LawI TT p c ms B' H' := by
  obtain ⟨a, r, P, _⟩ := h.pen
  obtain ⟨a2, r2, P2, l2, b2⟩ := d
  exact ⟨⟨a2, r2, P2, l2⟩, tabsBut h.tab P.hp b2⟩
theorem Ov.ext {H H' : Hp} {v : V} (s : ExtN H H') (h : Ov H v) : Ov H' v := by
  cases h with
  | non => exact .non
  | bl => exact .bl
  | i0 => exact .i0
  | i9 => exact .i9
  | tx h => exact .tx h
  | tup h => exact .tup (s _ _ h (by intro q e; cases e))
  | lst h => exact .lst (s _ _ h (by intro q e; cases e))
  | d1 h => exact .d1 (s _ _ h (by intro q e; cases e))
  | d0 h => exact .d0 (s _ _ h (by intro q e; cases e))
/-- what stands through one round of the law: the pen, the tables, the values at l -/
structure Rd (TT : List (Addr × Str)) (p c : Addr) (ms : List Int) (B : Int) (l : Addr) (xs : List V) (H : Hp) : Prop where
  I : LawI TT p c ms B H
  at_ : H l = some (.lst xs)
  lv : ∀ v ∈ xs, Lv H v
theorem Rd.ext {TT : List (Addr × Str)} {p c l : Addr} {ms : List Int} {B : Int} {xs : List V} {H H' : Hp} (h : Rd TT p c ms B l xs H) (s : ExtN H H') (t : Tabs TT H') : Rd TT p c ms B l xs H' :=
  ⟨h.I.ext s t, s _ _ h.at_ (by intro q e; cases e), fun v hv => (h.lv v hv).imp id fun o => o.ext s⟩
theorem Rd.same {TT : List (Addr × Str)} {p c l : Addr} {ms : List Int} {B : Int} {xs : List V} {H H' : Hp} (h : Rd TT p c ms B l xs H) (s : Same H H') : Rd TT p c ms B l xs H' := h.ext (ExtN.of s) (h.I.tab.ext s)
theorem oddT_nodeed : oddT.all (fun z => decide ((Txt.split z " ").length ≤ 60) && !decide ((Txt.split z " ").head? = some "use") && !decide ((Txt.split z " ").head? = some "make") && !decide ((Txt.split z " ").head? = some "do")) = true := by decide +kernel
theorem Ov.noDeed {K : PySem.W.Frag} {H : Hp} {v : V} (h : Ov H v) : NoDeed K H v := by
  cases h with
  | tx h =>
    rename_i z
    have q := List.all_eq_true.mp oddT_nodeed z h
    rw [Bool.and_eq_true, Bool.and_eq_true, Bool.and_eq_true, Bool.not_eq_true', Bool.not_eq_true', Bool.not_eq_true', decide_eq_true_eq, decide_eq_false_iff_not, decide_eq_false_iff_not, decide_eq_false_iff_not] at q
    refine .inl ⟨z, rfl, (oddT_at h).2.1, q.1.1.1, fun mk us ⟨wd, ws, e, dp⟩ => ?_⟩
    rw [e] at q
    cases dp with
    | use _ _ => exact q.1.1.2 rfl
    | make _ => exact q.1.2 rfl
    | both _ _ => exact q.2 rfl
  | non => exact .inr ⟨_, .base .non, kit_ty (by decide +kernel)⟩
  | bl => exact .inr ⟨_, .base (.bl _), kit_ty (by decide +kernel)⟩
  | i0 => exact .inr ⟨_, .base (.int _), kit_ty (by decide +kernel)⟩
  | i9 => exact .inr ⟨_, .base (.int _), kit_ty (by decide +kernel)⟩
  | tup h => exact .inr ⟨_, .base (.tup h), kit_ty (by decide +kernel)⟩
  | lst h => exact .inr ⟨_, .base (.lst h), kit_ty (by decide +kernel)⟩
  | d1 h => exact .inr ⟨_, .base (.dK h), kit_ty (by decide +kernel)⟩
  | d0 h => exact .inr ⟨_, .base (.dK h), kit_ty (by decide +kernel)⟩
theorem NoDeed.ext {K : PySem.W.Frag} {H H' : Hp} {v : V} (s : ExtN H H') (h : NoDeed K H v) : NoDeed K H' v := h.imp id fun n => n.ext s
theorem NoNm.ext {K : PySem.W.Frag} {H H' : Hp} {v : V} (s : ExtN H H') (h : NoNm K H v) : NoNm K H' v := h.imp id fun n => n.ext s
/-- making a Make, heard -/
theorem make_core {K : PySem.W.Frag} {mg : Str → Option Value} {c : C4} {d : D3} {fU fM fD : Addr} {TT : List (Addr × Str)} {H H1 : Hp} {v : V} {o : Op} {Q R : VK} (D : Dcs K mg d fU fM fD) (hv : (o = none ∧ ∃ z, IsNm v z) ∨ (o = some (Str.ofString "name", v) ∧ NoNm K H1 v)) (e1 : ExtN H H1) (t1 : Tabs TT H1) (h : TellsO TT H Q o) (hR : ∀ v H2, Q .non H2 → R v H2) :
    ∀ x dx, H1 x = none → H1 dx = none → dx ≠ x → spMake K c (V.ref x :: ([v] ++ [])) (upd (upd H1 dx (.own x)) x (.ins d.m dx [])) (fun v H2 => v = .non ∧ R (.ref x) H2)
      (fun cls dd H' => ∃ (f : Fa) (u : V) (a : Addr), (u = f.val ∨ f = .em) ∧ cls = .ref (f.cls c) ∧ dd = some a ∧ H' a = some (.xd [(f.fld, u)]) ∧ ∀ p H'', Same H' H'' → H' p = none → H'' p = some (.tup [.str f.word, u]) → Q (.ref p) H'') := by
  intro x dx h1 h2 h3
  have s1 := made2 (C := d.m) h1 h2 h3
  refine ⟨x, d.m, dx, v, rfl, D.dm, upd_same, ?_⟩
  rcases hv with ⟨rfl, z, hz⟩ | ⟨rfl, hn⟩
  · refine .inl ⟨z, hz, fun H2 but dd => ?_⟩
    have s3 := new_of h1 s1 but
    exact ⟨rfl, hR _ _ (h H2 (e1.trans (ExtN.of s3)) (t1.ext s3))⟩
  · refine .inr ⟨hn.same s1, fun dd H2 t => ?_⟩
    have s3 := s1.trans t.1
    exact ⟨.nm v, v, dd, .inl rfl, rfl, rfl, t.2.2, fun q H3 s4 hq hv => h q H3 (e1.trans (ExtN.of (s3.trans s4))) (t1.ext (s3.trans s4)) hv⟩
/-- reading, heard -/
theorem read_core {K : PySem.W.Frag} {c : C4} {d : D3} {CD : Addr} {TT : List (Addr × Str)} {H H1 : Hp} {v : V} {o : Op} {Q R : VK} (hv : (o = none ∧ ∃ z mk us, v = .str z ∧ z.length ≤ 1000 ∧ (Txt.split z " ").length ≤ 60 ∧ DT z mk us) ∨ (o = some (Str.ofString "deed", v) ∧ NoDeed K H1 v)) (e1 : ExtN H H1) (t1 : Tabs TT H1) (h : TellsO TT H Q o) (hR : ∀ v H2, Q .non H2 → R v H2) :
    spRd K c d [.ref CD, v] H1 R
      (fun cls dd H' => ∃ (f : Fa) (u : V) (a : Addr), (u = f.val ∨ f = .em) ∧ cls = .ref (f.cls c) ∧ dd = some a ∧ H' a = some (.xd [(f.fld, u)]) ∧ ∀ p H'', Same H' H'' → H' p = none → H'' p = some (.tup [.str f.word, u]) → Q (.ref p) H'') := by
  rcases hv with ⟨rfl, z, mk, us, rfl, h1, h2, h3⟩ | ⟨rfl, hn⟩
  · exact ⟨CD, _, rfl, .inl ⟨z, mk, us, rfl, h1, h2, h3, fun x H2 new => hR _ _ (h H2 (e1.trans (ExtN.of new.1)) (t1.ext new.1))⟩⟩
  · refine ⟨CD, _, rfl, .inr ⟨hn, fun dd H2 t => ?_⟩⟩
    exact ⟨.em, v, dd, .inr rfl, rfl, rfl, t.2.2, fun q H3 s4 hq hv => h q H3 (e1.trans (ExtN.of (t.1.trans s4))) (t1.ext (t.1.trans s4)) hv⟩
theorem heard_make {K : PySem.W.Frag} {mg : Str → Option Value} {c : C4} {d : D3} {fU fM fD : Addr} {TT : List (Addr × Str)} {H H1 : Hp} {v : V} {o : Op} {Q : VK} {tl : XK → Hp → VK → Prop} (D : Dcs K mg d fU fM fD) (hv : (o = none ∧ ∃ z, IsNm v z) ∨ (o = some (Str.ofString "name", v) ∧ NoNm K H1 v)) (e1 : ExtN H H1) (t1 : Tabs TT H1)
    (pre : ∀ (E : XK) (R : VK), (∀ x dx, H1 x = none → H1 dx = none → dx ≠ x → spMake K c (V.ref x :: ([v] ++ [])) (upd (upd H1 dx (.own x)) x (.ins d.m dx [])) (fun v H2 => v = .non ∧ R (.ref x) H2) E) → tl E H1 R) (h : TellsO TT H Q o) : THeard c tl H1 Q :=
  fun R hR => pre _ R (make_core D hv e1 t1 h hR)
theorem heard_read {K : PySem.W.Frag} {c : C4} {d : D3} {CD : Addr} {TT : List (Addr × Str)} {H H1 : Hp} {v : V} {o : Op} {Q : VK} {tl : XK → Hp → VK → Prop} (hv : (o = none ∧ ∃ z mk us, v = .str z ∧ z.length ≤ 1000 ∧ (Txt.split z " ").length ≤ 60 ∧ DT z mk us) ∨ (o = some (Str.ofString "deed", v) ∧ NoDeed K H1 v)) (e1 : ExtN H H1) (t1 : Tabs TT H1)
    (pre : ∀ (E : XK) (R : VK), spRd K c d [.ref CD, v] H1 R E → tl E H1 R) (h : TellsO TT H Q o) : THeard c tl H1 Q :=
  fun R hR => pre _ R (read_core hv e1 t1 h hR)
theorem heard_use {K : PySem.W.Frag} {mg : Str → Option Value} {c : C4} {d : D3} {fU fM fD : Addr} {TT : List (Addr × Str)} {H H1 : Hp} {r : Option Fa} {xs : List V} {Q : VK} {tl : XK → Hp → VK → Prop} (D : Dcs K mg d fU fM fD) (few : xs.length ≤ 5) (hD : DueF K H1 xs 0 r) (e1 : ExtN H H1) (t1 : Tabs TT H1)
    (pre : ∀ (E : XK) (R : VK), (∀ x dx, H1 x = none → H1 dx = none → dx ≠ x → spUse K c (V.ref x :: xs) (upd (upd H1 dx (.own x)) x (.ins d.u dx [])) (fun v H2 => v = .non ∧ R (.ref x) H2) E) → tl E H1 R) (h : TellsE TT H Q r) : THeard c tl H1 Q :=
  fun R hR => pre _ R (used_core D few hD e1 t1 h hR)
theorem heard_do {K : PySem.W.Frag} {mg : Str → Option Value} {c : C4} {d : D3} {fU fM fD : Addr} {TT : List (Addr × Str)} {H H1 : Hp} {r : Option Fa} {v : V} {xs : List V} {Q : VK} {tl : XK → Hp → VK → Prop} (D : Dcs K mg d fU fM fD) (few : xs.length ≤ 5) (hD : DueF K H1 (v :: xs) 1 r) (e1 : ExtN H H1) (t1 : Tabs TT H1)
    (pre : ∀ (E : XK) (R : VK), (∀ x dx, H1 x = none → H1 dx = none → dx ≠ x → spDo K c (V.ref x :: v :: xs) (upd (upd H1 dx (.own x)) x (.ins d.d dx [])) (fun v H2 => v = .non ∧ R (.ref x) H2) E) → tl E H1 R) (h : TellsE TT H Q r) : THeard c tl H1 Q :=
  fun R hR => pre _ R (done_core D few hD e1 t1 h hR)
/-- ('deed', None) as data -/
def deedN : PyData := .tuple [.str (Str.ofString "deed"), .none]
theorem dpN {K : PySem.W.Frag} {H : Hp} {p : Addr} (h : H p = some (.tup [.str (Str.ofString "deed"), .non])) : Dp K H (.ref p) deedN := .tup (SqT.of h) (.cons (.str _) (.cons .non .nil))
theorem shapedN : SeqAt.shaped deedN = true := by decide +kernel
theorem eqvN : PyData.eqv deedN deedN = true := by decide +kernel
end K02

set_option Elab.async false
set_option linter.all false
set_option maxRecDepth 100000
set_option maxHeartbeats 8000000
namespace K02
open PySem L2 NX NU LamX
abbrev sLaw : Stmt := top 34
theorem scLaw : FnScope ["_law_script", "_law_pen_here", "_law_lap", "_law_due_here", "_law_odd_here", "_law_text", "_law_values_here"] ["_law_script"] (defScope sLaw) := ⟨rfl, rfl, rfl, by decide +kernel, rfl, by decide +kernel, by decide +kernel⟩
/-- what the law uses -/
structure LawTxt (P : Program) (w : World) (K : PySem.W.Frag) (mg : Str → Option Value) (base : Heap) (c : C4) (d : D3) (CS CD fU fM fD fH : Addr) (fdH : FuncData) (TT : List (Addr × Str)) : Prop where
  T : TxtB mg
  E : ErrK K mg c CS
  D : Dcs K mg d fU fM fD
  FU : FnR P w K mg base (CX P w) 5 fU (spUse K c)
  FM : ∃ fd, FnOk P w K mg base (CX P w) 4 fM fd ["self", "name"] (spMake K c) ∧ Binds K fd ["self", "name"] []
  FD : FnR P w K mg base (CX P w) 5 fD (spDo K c)
  gD : mg "Deed" = some (.ref CD)
  rd : ∃ mc, ClX.CRead K CD mc ∧ ∃ p g, ClX.CMet K CD mc "read" p g ∧ ∃ fd, FnOk P w K mg base (CX P w) 8 g fd ["cls", "text"] (spRd K c d) ∧ Binds K fd ["cls", "text"] []
  FH : Fun K "_law_heard" "_law_heard" sHeard fH fdH
  gH : mg "_law_heard" = some (.ref fH)
  hbH : Binds K fdH ["_law_ask"] []
  sys : SysB base
  pen : C8.Cal P w K mg base 1 "_law_pen" (spPen K) []
  draw : C8.Cal P w K mg base 1 "_law_draw" spDraw []
  vals : C8.Cal P w K mg base 4 "_law_values" spVals []
  due : C8.Cal P w K mg base 2 "_law_due" (spDue K) []
  lis : C8.Cal P w K mg base 1 "_law_is_name" (spLIs K) []
  odd : C8.Cal P w K mg base 3 "_law_odd" spOdd []
  bent : C8.Cal P w K mg base 3 "_law_bent" spBent []
  it : C8.Cal P w K mg base 2 "_law_is_text" spIt []
  done : ∃ f fd, FnG P w K mg base 9 f fd ["_law_made", "_law_used_here"] (spDone K TT) ∧ mg "_law_done" = some (.ref f) ∧ PySem.W.keepIn K (.ref f) = true ∧ Binds K fd ["_law_made", "_law_used_here"] []
  used : ∃ f fd, FnG P w K mg base 9 f fd ["_law_used_here"] (spUsed K TT) ∧ mg "_law_used" = some (.ref f) ∧ PySem.W.keepIn K (.ref f) = true ∧ Binds K fd ["_law_used_here"] []
def spLaw (K : PySem.W.Frag) (TT : List (Addr × Str)) : Sp := fun vs H Q _ => ∃ (a : Addr) (ns : List Int), vs = [.ref a] ∧ SqL K H a (ns.map V.int) ∧ Tabs TT H ∧ ∀ H', Q (.bl true) H'
section
variable {P : Program} {w : World} {K : PySem.W.Frag} {mg : Str → Option Value} {base : Heap}
theorem ok_law {c : C4} {d : D3} {CS CD fU fM fD fH : Addr} {fdH : FuncData} {f cc Pc : Addr} {fd : FuncData} {TT : List (Addr × Str)} (F : FunC K "law" sLaw f fd cc) (X : LawTxt P w K mg base c d CS CD fU fM fD fH fdH TT) (TB : TabB base mg cc Pc)
    (hmT : (Pc, Str.ofString "law.<locals>.<lambda>") ∈ TT) (hu2 : ∀ p ∈ TT, p.1 = Pc → p.2 = Str.ofString "law.<locals>.<lambda>") : FnG P w K mg base 11 f fd ["_law_script"] (spLaw K TT) := by
  obtain ⟨T, E, D, FU, ⟨fdM, FM, hbM⟩, FD, gD, ⟨mc, rdD, pr, gr, cmt, fdr, FR, hbR⟩, FH, gH, hbH, S, cPen, cDraw, cVals, cDue, cLis, cOdd, cBent, cIt, ⟨fDn, fdDn, FDn, gDn, kDn, hbDn⟩, ⟨fUd, fdUd, FUd, gUd, kUd, hbUd⟩⟩ := X
  obtain ⟨oc, od, kV, doc, pm, an, ct, osl, rfl, lk, hcd⟩ := F.ex
  obtain ⟨ocH, odH, kVH, docH, pmH, anH, cdvH, ctH, oslH, rfl, lkH, hcH⟩ := FH.ex
  refine ⟨fun vs H Q E h => ?_, fun A st s H args us vs Q gd hr0 e0 hb rv h => ?_⟩
  · obtain ⟨a, ns, rfl, _⟩ := h
    rfl
  · obtain ⟨a, ns, rfl, hS, hTb, k⟩ := h
    refine run_ofS (k := 10) (N := ["_law_script", "_law_pen_here", "_law_lap", "_law_due_here", "_law_odd_here", "_law_text", "_law_values_here"]) (ps := ["_law_script"]) lk hcd scLaw hr0 e0 hb rv rfl fun hr => ?_
    have gd : (A.deeper (PyProof.Rows.envOfC "law" (defScope sLaw) s.heap.objs.size f (.ref cc))).guards = some [] := gd
    refine ⟨_, PSs.nox (pss_cons (ps_set (i := 1) scLaw.nd rfl (Or.inl rfl) (C8.pe_c cPen hr (by decide) rfl (pa_cons (pv 0) pa_nil)))
      (pss_cons (ps_for PassesOwn.never rfl (pi_range1 (by rfl) T.brange (pa_cons pe_int pa_nil)) (pg_name (i := 2) scLaw.nd rfl (Or.inl rfl)) (pss_cons (ps_set (i := 6) scLaw.nd rfl (Or.inr rfl) (C8.pe_c cVals hr (by decide) rfl (pa_cons (pv 1) (pa_cons (pe_op op_add pe_int (C8.pe_c cDraw hr (by decide) rfl (pa_cons (pv 1) (pa_cons pe_int pa_nil)))) pa_nil))))
      (pss_cons (ps_if (pt_cmpR op_ne (pe_callB (call_reprD gd hr.units S) (by rfl) T.brepr (by decide +kernel) (pa_cons (pe_callG FDn gd hr (by decide) rfl gDn kDn hbDn (pa_cons (pe_ix ix_list (pv 6) pe_int (fun _ _ => rfl)) (pa_cons (pe_slice sl_list (pv 6) (po_some pe_int) po_none) pa_nil))) pa_nil)) (pe_callB (call_reprD gd hr.units S) (by rfl) T.brepr (by decide +kernel) (pa_cons (C8.pe_c cDue hr (by decide) rfl (pa_cons (pv 6) (pa_cons pe_int pa_nil))) pa_nil)) (nomark _)) (pss_one (ps_ret pe_bl)) pss_nil)
      (pss_cons (ps_if (pt_cmpR op_ne (pe_callB (call_reprD gd hr.units S) (by rfl) T.brepr (by decide +kernel) (pa_cons (pe_callG FUd gd hr (by decide) rfl gUd kUd hbUd (pa_cons (pe_slice sl_list (pv 6) (po_some pe_int) po_none) pa_nil)) pa_nil)) (pe_callB (call_reprD gd hr.units S) (by rfl) T.brepr (by decide +kernel) (pa_cons (C8.pe_c cDue hr (by decide) rfl (pa_cons (pe_slice sl_list (pv 6) (po_some pe_int) po_none) (pa_cons pe_int pa_nil))) pa_nil)) (nomark _)) (pss_one (ps_ret pe_bl)) pss_nil)
      (C8.pss_cut (ps_set (i := 3) scLaw.nd rfl (Or.inl rfl) (pe_ifExp (pt_val (C8.pe_c cLis hr (by decide) rfl (pa_cons (pe_ix ix_list (pv 6) pe_int (fun _ _ => rfl)) pa_nil))) pe_non (pe_tup (pa_cons pe_str (pa_cons (pe_ix ix_list (pv 6) pe_int (fun _ _ => rfl)) pa_nil)))))
      (pss_cons (ps_if (pt_cmpR op_ne (pe_callB (call_reprD gd hr.units S) (by rfl) T.brepr (by decide +kernel) (pa_cons (pe_lamcall (T := TT) (TT := THeard c) (c := cc) (P := Pc) (Ng := ["_law_ask", "_law_caught", "error", "_law_kinds"]) (a := "_law_ask") (t := fun E => tMake d.m (spMake K c) [] E (tCons (tOp (rIxL K) (tVar 6) (tC (.int 0))) tNil)) rfl gH FH.kp lkH hcH hbH scHeard rfl (Or.inl rfl) (heard_gives T E) TB rfl hmT hu2 (k := 5) (hr.mono (by decide)) (lamS_by (sc := defScope sLaw) (by decide +kernel)) rfl (fun _ _ _ _ _ => rfl) (fun A outer s H E f c2 hr2 => pe_make D.mm FM hr2 rfl D.gm hbM .nil (L2passOf (takes_of rfl rfl rfl rfl)) (pa_cons (pe_ix ix_list (pv 6) pe_int (fun _ _ => rfl)) pa_nil))) pa_nil)) (pe_callB (call_reprD gd hr.units S) (by rfl) T.brepr (by decide +kernel) (pa_cons (pv 3) pa_nil)) (nomark _)) (pss_one (ps_ret pe_bl)) pss_nil)
      (pss_cons (ps_asg (pe_tup (pa_cons (C8.pe_c cBent hr (by decide) rfl (pa_cons (pv 1) pa_nil)) (pa_cons (C8.pe_c cOdd hr (by decide) rfl (pa_cons (pv 1) pa_nil)) pa_nil))) (pg_tup rfl (pgs_cons (pg_name (i := 5) scLaw.nd rfl (Or.inr rfl)) (pgs_cons (pg_name (i := 4) scLaw.nd rfl (Or.inr rfl)) pgs_nil))))
      (C8.pss_cut (ps_set (i := 3) scLaw.nd rfl (Or.inl rfl) (pe_ifExp (pt_val (C8.pe_c cIt hr (by decide) rfl (pa_cons (pv 5) pa_nil))) pe_non (pe_tup (pa_cons pe_str (pa_cons (pv 5) pa_nil)))))
      (pss_cons (ps_if (pt_cmpR op_ne (pe_callB (call_reprD gd hr.units S) (by rfl) T.brepr (by decide +kernel) (pa_cons (pe_lamcall (T := TT) (TT := THeard c) (c := cc) (P := Pc) (Ng := ["_law_ask", "_law_caught", "error", "_law_kinds"]) (a := "_law_ask") (t := fun E => ClX.tCMeth CD (fun vs H Q E => spRd K c d (vs ++ []) H Q E) E (tC (.ref CD)) (tCons (tVar 5) tNil)) rfl gH FH.kp lkH hcH hbH scHeard rfl (Or.inl rfl) (heard_gives T E) TB rfl hmT hu2 (k := 8) (hr.mono (by decide)) (lamS_by (sc := defScope sLaw) (by decide +kernel)) rfl (fun _ _ _ _ _ => rfl) (fun A outer s H E f c2 hr2 => ClX.pe_cmeth (C8.pe_gc (v := .ref CD) rfl ⟨_, gD, rfl⟩) rdD cmt (FR.raw hbR .nil) hr2 (L2passOf (takes_of rfl rfl rfl rfl)) (pa_cons (pv 5) pa_nil))) pa_nil)) (pe_callB (call_reprD gd hr.units S) (by rfl) T.brepr (by decide +kernel) (pa_cons (pv 3) pa_nil)) (nomark _)) (pss_one (ps_ret pe_bl)) pss_nil)
      (pss_one (ps_if (pt_cmpR op_ne (pe_callB (call_reprD gd hr.units S) (by rfl) T.brepr (by decide +kernel) (pa_cons (pe_lamcall (T := TT) (TT := THeard c) (c := cc) (P := Pc) (Ng := ["_law_ask", "_law_caught", "error", "_law_kinds"]) (a := "_law_ask") (t := fun E => ClX.tCMeth CD (fun vs H Q E => spRd K c d (vs ++ []) H Q E) E (tC (.ref CD)) (tCons (tVar 4) tNil)) rfl gH FH.kp lkH hcH hbH scHeard rfl (Or.inl rfl) (heard_gives T E) TB rfl hmT hu2 (k := 8) (hr.mono (by decide)) (lamS_by (sc := defScope sLaw) (by decide +kernel)) rfl (fun _ _ _ _ _ => rfl) (fun A outer s H E f c2 hr2 => ClX.pe_cmeth (C8.pe_gc (v := .ref CD) rfl ⟨_, gD, rfl⟩) rdD cmt (FR.raw hbR .nil) hr2 (L2passOf (takes_of rfl rfl rfl rfl)) (pa_cons (pv 4) pa_nil))) pa_nil)) (pe_callB (call_reprD gd hr.units S) (by rfl) T.brepr (by decide +kernel) (pa_cons (pe_tup (pa_cons pe_str (pa_cons (pv 4) pa_nil))) pa_nil)) (nomark _)) (pss_one (ps_ret pe_bl)) pss_nil)))))))))))
      (pss_cons (ps_if (pt_cmpR (op_neD hr.units) (pe_lamcall (T := TT) (TT := THeard c) (c := cc) (P := Pc) (Ng := ["_law_ask", "_law_caught", "error", "_law_kinds"]) (a := "_law_ask") (t := fun E => tMakeR0 d.u (spUse K c) E) rfl gH FH.kp lkH hcH hbH scHeard rfl (Or.inl rfl) (heard_gives T E) TB rfl hmT hu2 (k := 6) (hr.mono (by decide)) (lamS_by (sc := defScope sLaw) (by decide +kernel)) rfl (fun _ _ _ _ _ => rfl) (fun A outer s H E f c2 hr2 => pe_makeR0 D.mu FU hr2 rfl D.gu (L2passOf (takes_of rfl rfl rfl rfl)))) (pe_tup (pa_cons pe_str (pa_cons pe_non pa_nil))) (nomark _)) (pss_one (ps_ret pe_bl)) pss_nil)
      (pss_one (ps_ret (pe_cmpR (op_eqD hr.units) (pe_lamcall (T := TT) (TT := THeard c) (c := cc) (P := Pc) (Ng := ["_law_ask", "_law_caught", "error", "_law_kinds"]) (a := "_law_ask") (t := fun E => StX.tMakeR d.d (spDo K c) E (tCons (tC (.str "a")) tNil)) rfl gH FH.kp lkH hcH hbH scHeard rfl (Or.inl rfl) (heard_gives T E) TB rfl hmT hu2 (k := 6) (hr.mono (by decide)) (lamS_by (sc := defScope sLaw) (by decide +kernel)) rfl (fun _ _ _ _ _ => rfl) (fun A outer s H E f c2 hr2 => StX.pe_makeR D.md FD hr2 rfl D.gd (L2passOf (takes_of rfl rfl rfl rfl)) (pa_cons pe_str pa_nil))) (pe_tup (pa_cons pe_str (pa_cons pe_non pa_nil))) (nomark _))))))), ?_⟩
    refine ⟨_, rfl, a, ns, rfl, hS, fun p c1 ms H1 hp P1 s1 => ?_⟩
    have I1 : LawI TT p c1 ms 0 H1 := ⟨⟨0, 0, P1, Int.le_refl _⟩, hTb.ext s1⟩
    clear hp P1 s1
    refine ⟨8, rfl, by decide, by decide, ?_⟩
    have ne : ∀ z : Str, ¬ (!decide (V.str z = V.str z)) = true := fun z h => by
      rw [decide_eq_true rfl] at h
      cases h
    refine for_range (n := 8) (fun i σ H' => ∃ x2 x3 x4 x5 x6, σ = [some (.ref a), some (.ref p), x2, x3, x4, x5, x6] ∧ LawI TT p c1 ms (100 * i) H') ?_ ?_ ?_
    · exact ⟨_, _, _, _, _, rfl, I1⟩
    · rintro i σ H2 hi ⟨x2, x3, x4, x5, x6, rfl, I2⟩
      have hi8 : (i : Int) < 8 := by omega
      obtain ⟨at1, rest1, P2, hat1⟩ := I2.pen
      refine ⟨_, rfl, _, rfl, p, c1, ms, at1, rest1, 6, rfl, P2, by omega, by decide, by decide, fun dr H3 d0 d6 hd => ?_⟩
      obtain ⟨dn, rfl⟩ := Int.eq_ofNat_of_zero_le d0
      have I3 : LawI TT p c1 ms (100 * i + 1) H3 := (I2.drawn hd).mono (by omega)
      obtain ⟨at3, rest3, P3, hat3⟩ := I3.pen
      clear P2 hat1 I2 hd
      have em : (1 : Int) + (dn : Int) = ((1 + dn : Nat) : Int) := by omega
      refine ⟨_, _, rfl, rfl, p, c1, ms, at3, rest3, 1 + dn, congrArg (fun z => [V.ref p, V.int z]) em, P3, by omega, by omega, fun l xs H4 hlen hl0 got => ?_⟩
      have I4 : LawI TT p c1 ms (100 * i + 40) H4 := (I3.drawn got.dr).mono (by omega)
      have R4 : Rd TT p c1 ms (100 * i + 40) l xs H4 := ⟨I4, got.at_, fun v hv => (got.vs v hv).1⟩
      clear P3 hat3 I3 I4 got hl0 em
      obtain ⟨v0, rest, rfl⟩ : ∃ v0 rest, xs = v0 :: rest := by
        cases xs with
        | nil => simp only [List.length_nil] at hlen; omega
        | cons v0 rest => exact ⟨v0, rest, rfl⟩
      have hrest : rest.length ≤ 5 := by
        simp only [List.length_cons] at hlen
        omega
      have cut1 : cutV (v0 :: rest) (some 1) none = rest := cut_from (v0 :: rest) 1
      have z100 : (100 : Nat) ≤ sizeLine := by decide
      -- _law_done
      obtain ⟨r1, hD1, hd1⟩ := due_any K H4 1 (v0 :: rest) R4.lv
      obtain ⟨dd1, hd1⟩ : ∃ d, ∀ f, r1 = some f → SmD K H4 f.val d := by
        cases r1 with
        | none => exact ⟨.none, fun f e => by cases e⟩
        | some f =>
          obtain ⟨d, hd⟩ := hd1 f rfl
          exact ⟨d, fun g e => by cases e; exact hd⟩
      refine ⟨_, rfl, l, _, ((0 : Nat) : Int), v0, rfl, rfl, SqL.of R4.at_, atI_nat rfl, _, rfl, _, rfl, l, _, rfl, SqL.of R4.at_, fun u1 hu1 => ?_⟩
      rw [cut1]
      have S5 : Same H4 (upd H4 u1 (.lst rest)) := Same.new hu1
      have R5 := R4.same S5
      refine ⟨v0, u1, rest, r1, rfl, SqL.of upd_same, hrest, hD1.same S5, R5.I.tab, tellsE_of (fun f e => (hd1 f e).same S5) fun w1 H6 e6 t6 ans => ?_⟩
      dsimp only [tNil]
      refine Ans.ask (K := K) (H := H6) ans ?_
      have R6 := R5.ext e6 t6
      have E46 : ExtN H4 H6 := (ExtN.of S5).trans e6
      clear S5 R5 e6 t6 ans hu1
      refine ⟨_, rfl, l, 1, v0 :: rest, r1, rfl, SqL.of R6.at_, by rw [hlen]; omega, by simp, fun v hv => (R6.lv v hv).sml, DueF.ext E46 hD1, tells_of (d := dd1) (fun f e => (hd1 f e).ext E46) fun w2 H7 s7 ans => ?_⟩
      dsimp only [tNil]
      refine Ans.ask (K := K) (H := H7) ans ?_
      refine ⟨rfl, _, rfl, ite2 (fun h => absurd h (ne _)) (fun _ => ?_)⟩
      have R7 := R6.same s7
      clear R4 R6 s7 ans E46 hD1 hd1
      -- _law_used
      have lvr : ∀ v ∈ rest, Lv H7 v := fun v hv => R7.lv v (List.mem_cons_of_mem _ hv)
      obtain ⟨r2, hD2, hd2⟩ := due_any K H7 0 rest lvr
      obtain ⟨dd2, hd2⟩ : ∃ d, ∀ f, r2 = some f → SmD K H7 f.val d := by
        cases r2 with
        | none => exact ⟨.none, fun f e => by cases e⟩
        | some f =>
          obtain ⟨d, hd⟩ := hd2 f rfl
          exact ⟨d, fun g e => by cases e; exact hd⟩
      refine ⟨_, rfl, _, rfl, l, _, rfl, SqL.of R7.at_, fun u1 hu1 => ?_⟩
      rw [cut1]
      have S5 : Same H7 (upd H7 u1 (.lst rest)) := Same.new hu1
      have R5 := R7.same S5
      refine ⟨u1, rest, r2, rfl, SqL.of upd_same, hrest, hD2.same S5, R5.I.tab, tellsE_of (fun f e => (hd2 f e).same S5) fun w1 H8 e6 t6 ans => ?_⟩
      dsimp only [tNil]
      refine Ans.ask (K := K) (H := H8) ans ?_
      have R8 := R5.ext e6 t6
      have E78 : ExtN H7 H8 := (ExtN.of S5).trans e6
      clear S5 R5 e6 t6 ans hu1
      refine ⟨_, rfl, _, rfl, l, _, rfl, SqL.of R8.at_, fun u2 hu2 => ?_⟩
      rw [cut1]
      have S9 : Same H8 (upd H8 u2 (.lst rest)) := Same.new hu2
      have R9 := R8.same S9
      have E79 := E78.trans (ExtN.of S9)
      refine ⟨u2, 0, rest, r2, rfl, SqL.of upd_same, by omega, by omega, fun v hv => (R9.lv v (List.mem_cons_of_mem _ hv)).sml, DueF.ext E79 hD2, tells_of (d := dd2) (fun f e => (hd2 f e).ext E79) fun w2 H10 s10 ans => ?_⟩
      dsimp only [tNil]
      refine Ans.ask (K := K) (H := H10) ans ?_
      refine ⟨rfl, _, rfl, ite2 (fun h => absurd h (ne _)) (fun _ => ?_)⟩
      have R10 := R9.same s10
      clear R7 R8 R9 s10 ans E78 E79 hD2 hd2 S9 hu2 lvr
      -- Make
      have L0 : Lv H10 v0 := R10.lv v0 List.mem_cons_self
      obtain ⟨dd3, hd3⟩ := L0.smD (K := K)
      obtain ⟨o3, ho3⟩ : ∃ o : Op, ∀ H', ExtN H10 H' → (o = none ∧ ∃ z, IsNm v0 z) ∨ (o = some (Str.ofString "name", v0) ∧ NoNm K H' v0) := by
        rcases L0 with ⟨z, hz, e⟩ | ho
        · exact ⟨none, fun _ _ => .inl ⟨rfl, z, e, by have := (namT_at hz).2.1; omega, (namT_at hz).1⟩⟩
        · exact ⟨_, fun _ s => .inr ⟨rfl, (ho.no).ext s⟩⟩
      have hs3 : ∀ e, o3 = some e → e = (Str.ofString "name", v0) := fun e he => by
        rcases ho3 H10 (ExtN.of same_refl) with ⟨h, _⟩ | ⟨h, _⟩
        · rw [h] at he; cases he
        · rw [h] at he; exact (Option.some.inj he).symm
      refine ⟨fun σ' H' => ∃ w3, σ' = [some (.ref a), some (.ref p), some (.int (0 + (i : Int))), some w3, x4, x5, some (.ref l)] ∧ Rd TT p c1 ms (100 * i + 40) l (v0 :: rest) H' ∧ ExtN H10 H' ∧ Ans K H' o3 dd3 w3, ?_, ?_⟩
      · refine ⟨_, rfl, l, _, ((0 : Nat) : Int), v0, rfl, rfl, SqL.of R10.at_, atI_nat rfl, v0, rfl, ?_⟩
        rcases L0 with ⟨z, hz, rfl⟩ | ho
        · obtain ⟨b1, b2, b3⟩ := namT_at hz
          refine .inl ⟨z, rfl, by omega, b3, fun H11 s11 => ?_⟩
          rw [b1]
          refine ⟨_, rfl, iteT ⟨_, rfl, R10.same s11, ExtN.of s11, ?_⟩⟩
          rcases ho3 H10 (ExtN.of same_refl) with ⟨h, _⟩ | ⟨_, h⟩
          · rw [h]
            rfl
          · rcases h with ⟨y, e, _, h⟩ | h
            · injection e with e
              rw [← e, b1] at h
              cases h
            · exact (noStr_str h).elim
        · have tupn : ∀ H11, Same H10 H11 → (2 ≤ sizeLine ∧ ∀ t, H11 t = none → ∃ w3, ([some (.ref a), some (.ref p), some (.int (0 + (i : Int))), x3, x4, x5, some (.ref l)] : L2.St).set 3 (some (.ref t)) = [some (.ref a), some (.ref p), some (.int (0 + (i : Int))), some w3, x4, x5, some (.ref l)] ∧ Rd TT p c1 ms (100 * i + 40) l (v0 :: rest) (upd H11 t (.tup [.str (Str.ofString "name"), v0])) ∧ ExtN H10 (upd H11 t (.tup [.str (Str.ofString "name"), v0])) ∧ Ans K (upd H11 t (.tup [.str (Str.ofString "name"), v0])) o3 dd3 w3) := fun H11 s11 => by
            refine ⟨by decide, fun t ht => ⟨.ref t, rfl, (R10.same s11).same (Same.new ht), ExtN.of (s11.trans (Same.new ht)), ?_⟩⟩
            rcases ho3 H10 (ExtN.of same_refl) with ⟨_, z, e, hz, hn⟩ | ⟨h, _⟩
            · subst e
              rcases ho.no (K := K) with ⟨y, e, _, h⟩ | h
              · injection e with e
                rw [← e, hn] at h
                cases h
              · exact (noStr_str h).elim
            · rw [h]
              exact ⟨.inl rfl, t, rfl, upd_same, hd3.same (s11.trans (Same.new ht))⟩
          rcases ho.sml (K := K) with ⟨z, rfl, hz, hk⟩ | hn
          · refine .inl ⟨z, rfl, hz, hk, fun H11 s11 => ?_⟩
            have hf : nm z = false := by
              rcases ho.no (K := K) with ⟨y, e, _, h⟩ | h
              · injection e with e
                rw [e]; exact h
              · exact (noStr_str h).elim
            rw [hf]
            refine ⟨_, rfl, iteF ⟨_, rfl, l, _, ((0 : Nat) : Int), _, rfl, rfl, SqL.of (R10.same s11).at_, atI_nat rfl, tupn H11 s11⟩⟩
          · refine .inr ⟨hn, _, rfl, iteF ⟨_, rfl, l, _, ((0 : Nat) : Int), _, rfl, rfl, SqL.of R10.at_, atI_nat rfl, tupn H10 same_refl⟩⟩
      · rintro σ' H11 ⟨w3, rfl, R11, E11, ans3⟩
        refine ⟨R11.I.tab, fun H12 e12 t12 => ?_⟩
        refine heard_make (o := o3) (H := H11) D (ho3 H12 (E11.trans e12)) e12 t12 (fun E R h => ⟨_, rfl, l, _, ((0 : Nat) : Int), v0, rfl, rfl, SqL.of (R11.ext e12 t12).at_, atI_nat rfl, h⟩) ?_
        refine tellsO_of (d := dd3) (K := K) (TT := TT) (H := H11) (fun e he => by rw [hs3 e he]; exact hd3.ext E11) (fun e he => by rw [hs3 e he]; exact .inl rfl) fun w1 H13 e13 t13 ans => ?_
        clear e12 t12
        dsimp only [tNil]
        refine Ans.ask (K := K) (H := H13) ans ?_
        refine ⟨_, rfl, ?_⟩
        dsimp only [tNil]
        refine Ans.ask (K := K) (H := H13) (ans3.ext e13) ?_
        refine ⟨rfl, _, rfl, ite2 (fun h => absurd h (ne _)) (fun _ => ?_)⟩
        have I13 := (R11.ext e13 t13).I
        obtain ⟨at4, rest4, P4, hat4⟩ := I13.pen
        clear R11 E11 ans3 ans e13 t13 ho3 hs3 hd3 L0 R10
        -- the text, the odd value
        refine ⟨_, rfl, p, c1, ms, at4, rest4, rfl, P4, by omega, fun z H14 hz hlz d14 => ?_⟩
        have I14 : LawI TT p c1 ms (100 * i + 60) H14 := (I13.drawn d14).mono (by omega)
        obtain ⟨at5, rest5, P5, hat5⟩ := I14.pen
        clear P4 hat4 I13 d14
        refine ⟨_, rfl, p, c1, ms, at5, rest5, rfl, P5, by omega, fun ov H15 hov _ d15 => ?_⟩
        have I15 : LawI TT p c1 ms (100 * i + 61) H15 := (I14.drawn d15).mono (by omega)
        clear P5 hat5 I14 d15
        refine ⟨by show 2 ≤ sizeLine; decide, fun tq htq => ?_⟩
        refine ⟨tq, _, rfl, SqT.of upd_same, rfl, _, _, rfl, _, _, rfl, rfl, ?_⟩
        have S16 : Same H15 (upd H15 tq (.tup [.str z, ov])) := Same.new htq
        have I16 := I15.same S16
        have O16 : Ov (upd H15 tq (.tup [.str z, ov])) ov := hov.ext (ExtN.of S16)
        clear I15 hov S16 htq
        generalize (upd H15 tq (.tup [.str z, ov])) = H16 at *
        have zl : z.length ≤ 1000 := by omega
        have zs : (Txt.split z (Str.ofString " ")).length ≤ 60 := by
          have := PyProof.Rows.split_le z (Str.ofString " ")
          omega
        obtain ⟨b, hb⟩ : ∃ b : Bool, b = true ↔ ∃ mk us, DT z mk us := by
          by_cases q : ∃ mk us, DT z mk us
          · exact ⟨true, fun _ => q, fun _ => rfl⟩
          · exact ⟨false, fun h => (by cases h), fun h => absurd h q⟩
        obtain ⟨o4, ho4⟩ : ∃ o : Op, o = if b = true then none else some (Str.ofString "deed", .str z) := ⟨_, rfl⟩
        have hs4 : ∀ e, o4 = some e → e = (Str.ofString "deed", .str z) := fun e he => by
          rw [ho4] at he
          split at he
          · cases he
          · exact (Option.some.inj he).symm
        refine ⟨fun σ' H' => ∃ w3, σ' = [some (.ref a), some (.ref p), some (.int (0 + (i : Int))), some w3, some ov, some (.str z), some (.ref l)] ∧ LawI TT p c1 ms (100 * i + 61) H' ∧ Ov H' ov ∧ Ans K H' o4 (.str z) w3, ?_, ?_⟩
        · refine ⟨_, rfl, z, b, rfl, zl, hz, zs, hb, fun H17 s17 => ?_⟩
          cases b with
          | true => exact ⟨_, rfl, iteT ⟨_, rfl, I16.same s17, O16.ext (ExtN.of s17), by rw [ho4]; rfl⟩⟩
          | false =>
            refine ⟨_, rfl, iteF ⟨_, rfl, by show 2 ≤ sizeLine; decide, fun t ht => ⟨_, rfl, (I16.same s17).same (Same.new ht), (O16.ext (ExtN.of s17)).ext (ExtN.of (Same.new ht)), ?_⟩⟩⟩
            rw [ho4]
            exact ⟨.inr (.inr (.inr rfl)), t, rfl, upd_same, smD_str hz zl⟩
        · rintro σ' H17 ⟨w3, rfl, I17, O17, ans4⟩
          clear I16 O16
          refine ⟨I17.tab, fun H18 e18 t18 => ?_⟩
          refine heard_read (K := K) (c := c) (d := d) (CD := CD) (o := o4) (TT := TT) (H := H17) (v := .str z) ?_ e18 t18 (fun E R h => ⟨rfl, _, rfl, h⟩) ?_
          · rw [ho4]
            cases b with
            | true =>
              obtain ⟨mk, us, h⟩ := hb.mp rfl
              exact .inl ⟨rfl, z, mk, us, rfl, zl, zs, h⟩
            | false => exact .inr ⟨rfl, .inl ⟨z, rfl, zl, zs, fun mk us h => by have := hb.mpr ⟨mk, us, h⟩; cases this⟩⟩
          refine tellsO_of (d := .str z) (K := K) (TT := TT) (H := H17) (fun e he => by rw [hs4 e he]; exact smD_str hz zl) (fun e he => by rw [hs4 e he]; exact .inr (.inr (.inr rfl))) fun w1 H19 e19 t19 ans => ?_
          clear e18 t18
          dsimp only [tNil]
          refine Ans.ask (K := K) (H := H19) ans ?_
          refine ⟨_, rfl, ?_⟩
          dsimp only [tNil]
          refine Ans.ask (K := K) (H := H19) (ans4.ext e19) ?_
          refine ⟨rfl, _, rfl, ite2 (fun h => absurd h (ne _)) (fun _ => ?_)⟩
          have I19 := I17.ext e19 t19
          have O19 := O17.ext e19
          clear I17 O17 e19 t19 ans ans4 ho4 hs4 hb
          obtain ⟨dd5, hd5⟩ := O19.smD (K := K)
          refine ⟨I19.tab, fun H20 e20 t20 => ?_⟩
          refine heard_read (K := K) (c := c) (d := d) (CD := CD) (o := some (Str.ofString "deed", ov)) (TT := TT) (H := H19) (v := ov) (.inr ⟨rfl, ((O19.ext e20).noDeed)⟩) e20 t20 (fun E R h => ⟨rfl, _, rfl, h⟩) ?_
          refine tellsO_of (d := dd5) (K := K) (TT := TT) (H := H19) (fun e he => by cases he; exact hd5) (fun e he => by cases he; exact .inr (.inr (.inr rfl))) fun w1 H21 e21 t21 ans => ?_
          clear e20 t20
          dsimp only [tNil]
          refine Ans.ask (K := K) (H := H21) ans ?_
          refine ⟨_, rfl, by show 2 ≤ sizeLine; decide, fun t22 h22 => ?_⟩
          have S22 : Same H21 (upd H21 t22 (.tup [.str (Str.ofString "deed"), ov])) := Same.new h22
          have ans5 : Ans K (upd H21 t22 (.tup [.str (Str.ofString "deed"), ov])) (some (Str.ofString "deed", ov)) dd5 (.ref t22) := ⟨.inr (.inr (.inr rfl)), t22, rfl, upd_same, (hd5.ext e21).same S22⟩
          dsimp only [tNil]
          refine Ans.ask (K := K) ans5 ?_
          refine ⟨rfl, _, rfl, ite2 (fun h => absurd h (ne _)) (fun _ => ?_)⟩
          exact ⟨_, _, _, _, _, rfl, ((I19.ext e21 t21).same S22).mono (by omega)⟩
    · rintro σ H2 ⟨x2, x3, x4, x5, x6, rfl, I2⟩
      refine ⟨I2.tab, fun H3 e3 t3 => ?_⟩
      refine heard_use (K := K) (H := H2) (r := some .em) (xs := []) D (by decide) (.rest (ws := []) rfl nofun (.em rfl)) e3 t3 (fun E R h => h) ?_
      intro q H4 e4 t4 hq
      refine ⟨by show 2 ≤ sizeLine; decide, fun t ht => ?_⟩
      have S5 : Same H4 (upd H4 t (.tup [.str (Str.ofString "deed"), .non])) := Same.new ht
      refine ⟨deedN, deedN, dpN (S5 _ _ hq), dpN upd_same, shapedN, shapedN, ?_⟩
      rw [eqvN]
      refine ⟨_, rfl, iteF ?_⟩
      have T5 := t4.ext S5
      clear hq e3 t3 e4 t4 ht
      generalize (upd H4 t (.tup [.str (Str.ofString "deed"), .non])) = H5 at *
      refine ⟨T5, fun H6 e6 t6 => ?_⟩
      refine heard_do (K := K) (H := H5) (r := some .em) (v := .str (Str.ofString "a")) (xs := []) D (by decide) (.rest (ws := [Str.ofString "a"]) rfl (fun z hz => by rw [List.mem_singleton.mp hz]; exact ⟨by decide +kernel, by decide +kernel⟩) (.em rfl)) e6 t6 (fun E R h => h) ?_
      intro q H7 e7 t7 hq
      refine ⟨by show 2 ≤ sizeLine; decide, fun t ht => ?_⟩
      have S8 : Same H7 (upd H7 t (.tup [.str (Str.ofString "deed"), .non])) := Same.new ht
      refine ⟨deedN, deedN, dpN (S8 _ _ hq), dpN upd_same, shapedN, shapedN, ?_⟩
      rw [eqvN]
      exact k _
end
end K02

set_option Elab.async false
set_option linter.all false
set_option maxRecDepth 100000
set_option maxHeartbeats 8000000
/-! The head: what the written part says, and the chain of the promises up to the law. -/
namespace K02
open PySem L2 NX NU LamX PySem.Spec PyProof.Rows
structure FnT2 (K : PySem.W.Frag) (x : Str) (st : Stmt) (f c Pc : Addr) : Prop where
  ex : ∃ fd, K02.FunC K x st f fd c
  hd : PySem.W.codeHdIn K c Pc = true
theorem fnT2 {K : PySem.W.Frag} {x : Str} {st : Stmt} {f c Pc : Addr} {oc e1 : Value} {od an e2 : Option Addr} {osl sl : Array (Option Value)} {kV doc pm ct : Value} {vs : Array Value}
    (l : K.lookup f = some ⟨oc, od, .func (PySem.W.fnOf x x (defArgs st) (defBody st) (defScope st) .none kV doc pm an (.ref c) ct), osl⟩)
    (cd : PySem.W.codeIn K (.ref c) x = true) (k : PySem.W.keepIn K (.ref f) = true) (lc : K.lookup c = some ⟨e1, e2, .fields vs, sl⟩) (h11 : vs[11]? = some (.ref Pc)) (hd : PySem.W.codeHdIn K c Pc = true) : FnT2 K x st f c Pc :=
  ⟨⟨_, ⟨oc, od, kV, doc, pm, an, ct, osl, rfl, l, cd⟩, k⟩, hd⟩
/-- all that the head finds -/
structure HeadF (K : PySem.W.Frag) (CS CD pRd cN cT cM cD dU dM dD fEN fED fET fEM fU fM fD fRd fIs fCns fCun fAsc fCus fOf fPen fDraw fPick fHeard fLis fDue fOdd fVals fIt fBent fDn cDn pDn fUd cUd pUd fLaw cLaw pLaw : Addr) : Prop where
  n_int : PySem.W.nsIn K mainGlobals "int" = some none
  n_len : PySem.W.nsIn K mainGlobals "len" = some none
  n_abs : PySem.W.nsIn K mainGlobals "abs" = some none
  n_list : PySem.W.nsIn K mainGlobals "list" = some none
  n_str : PySem.W.nsIn K mainGlobals "str" = some none
  n_tuple : PySem.W.nsIn K mainGlobals "tuple" = some none
  n_isinstance : PySem.W.nsIn K mainGlobals "isinstance" = some none
  n_repr : PySem.W.nsIn K mainGlobals "repr" = some none
  n_range : PySem.W.nsIn K mainGlobals "range" = some none
  n_enumerate : PySem.W.nsIn K mainGlobals "enumerate" = some none
  n_ValueError : PySem.W.nsIn K mainGlobals "ValueError" = some none
  n_set : PySem.W.nsIn K mainGlobals "set" = some none
  n_sorted : PySem.W.nsIn K mainGlobals "sorted" = some none
  gLet : ∃ t, PySem.W.nsIn K mainGlobals "LETTERS" = some (some (.str "abcdefghijklmnopqrstuvwxyz" t))
  gMost : ∃ t, PySem.W.nsIn K mainGlobals "MOST_LETTERS" = some (some (.int 6 t))
  base : BaseF K CS
  eN : ErrF K "BadName" "value" cN fEN CS
  eT : ErrF K "Twice" "name" cT fET CS
  eM : ErrF K "TooMany" "most" cM fEM CS
  eD : ErrF K "BadDeed" "value" cD fED CS
  k_eNeT : PySem.W.kitOne K (.ref cN) (.ref cT) = some false
  k_eNeM : PySem.W.kitOne K (.ref cN) (.ref cM) = some false
  k_eNeD : PySem.W.kitOne K (.ref cN) (.ref cD) = some false
  k_eTeN : PySem.W.kitOne K (.ref cT) (.ref cN) = some false
  k_eTeM : PySem.W.kitOne K (.ref cT) (.ref cM) = some false
  k_eTeD : PySem.W.kitOne K (.ref cT) (.ref cD) = some false
  k_eMeN : PySem.W.kitOne K (.ref cM) (.ref cN) = some false
  k_eMeT : PySem.W.kitOne K (.ref cM) (.ref cT) = some false
  k_eMeD : PySem.W.kitOne K (.ref cM) (.ref cD) = some false
  k_eDeN : PySem.W.kitOne K (.ref cD) (.ref cN) = some false
  k_eDeT : PySem.W.kitOne K (.ref cD) (.ref cT) = some false
  k_eDeM : PySem.W.kitOne K (.ref cD) (.ref cM) = some false
  kU : ClsF K "Use" dU fU
  kU_uses : PySem.W.findIn K (.ref dU) "uses" = some none
  kU_makes : PySem.W.findIn K (.ref dU) "makes" = some none
  kU_names : PySem.W.findIn K (.ref dU) "_names" = some none
  kM : ClsF K "Make" dM fM
  kM_uses : PySem.W.findIn K (.ref dM) "uses" = some none
  kM_makes : PySem.W.findIn K (.ref dM) "makes" = some none
  kM_names : PySem.W.findIn K (.ref dM) "_names" = some none
  kD : ClsF K "Do" dD fD
  kD_uses : PySem.W.findIn K (.ref dD) "uses" = some none
  kD_makes : PySem.W.findIn K (.ref dD) "makes" = some none
  kD_names : PySem.W.findIn K (.ref dD) "_names" = some none
  gD : PySem.W.nsIn K mainGlobals "Deed" = some (some (.ref CD))
  rdD : RdF K CD
  most : ∃ t, PySem.W.findCls K (.ref CD) (.type "type") "MOST" = some (.val (.int 3 t))
  cm : CmF K CD "read" pRd fRd
  w_fEN : FnF K "__init__" "BadName.__init__" sErrN fEN
  w_fED : FnF K "__init__" "BadDeed.__init__" sErrD fED
  w_fET : FnF K "__init__" "Twice.__init__" sErrT fET
  w_fEM : FnF K "__init__" "TooMany.__init__" sErrM fEM
  w_fU : FnF K "__init__" "Use.__init__" sUse fU
  w_fM : FnF K "__init__" "Make.__init__" sMake fM
  w_fD : FnF K "__init__" "Do.__init__" sDo fD
  w_fRd : FnF K "read" "Deed.read" sRead fRd
  g_fIs : PySem.W.nsIn K mainGlobals "is_name" = some (some (.ref fIs))
  w_fIs : FnF K "is_name" "is_name" sIs fIs
  g_fCns : PySem.W.nsIn K mainGlobals "check_names" = some (some (.ref fCns))
  w_fCns : FnF K "check_names" "check_names" sCns fCns
  g_fCun : PySem.W.nsIn K mainGlobals "check_unlike" = some (some (.ref fCun))
  w_fCun : FnF K "check_unlike" "check_unlike" sCun fCun
  g_fAsc : PySem.W.nsIn K mainGlobals "ascending" = some (some (.ref fAsc))
  w_fAsc : FnF K "ascending" "ascending" sAsc fAsc
  g_fCus : PySem.W.nsIn K mainGlobals "check_used" = some (some (.ref fCus))
  w_fCus : FnF K "check_used" "check_used" sCus fCus
  g_fOf : PySem.W.nsIn K mainGlobals "deed_of" = some (some (.ref fOf))
  w_fOf : FnF K "deed_of" "deed_of" sOf fOf
  g_fPen : PySem.W.nsIn K mainGlobals "_law_pen" = some (some (.ref fPen))
  w_fPen : FnF K "_law_pen" "_law_pen" sPen fPen
  g_fDraw : PySem.W.nsIn K mainGlobals "_law_draw" = some (some (.ref fDraw))
  w_fDraw : FnF K "_law_draw" "_law_draw" sDraw fDraw
  g_fPick : PySem.W.nsIn K mainGlobals "_law_pick" = some (some (.ref fPick))
  w_fPick : FnF K "_law_pick" "_law_pick" sPick fPick
  g_fHeard : PySem.W.nsIn K mainGlobals "_law_heard" = some (some (.ref fHeard))
  w_fHeard : FnF K "_law_heard" "_law_heard" sHeard fHeard
  g_fLis : PySem.W.nsIn K mainGlobals "_law_is_name" = some (some (.ref fLis))
  w_fLis : FnF K "_law_is_name" "_law_is_name" sLIs fLis
  g_fDue : PySem.W.nsIn K mainGlobals "_law_due" = some (some (.ref fDue))
  w_fDue : FnF K "_law_due" "_law_due" sDue fDue
  g_fOdd : PySem.W.nsIn K mainGlobals "_law_odd" = some (some (.ref fOdd))
  w_fOdd : FnF K "_law_odd" "_law_odd" sOdd fOdd
  g_fVals : PySem.W.nsIn K mainGlobals "_law_values" = some (some (.ref fVals))
  w_fVals : FnF K "_law_values" "_law_values" sVals fVals
  g_fIt : PySem.W.nsIn K mainGlobals "_law_is_text" = some (some (.ref fIt))
  w_fIt : FnF K "_law_is_text" "_law_is_text" sIt fIt
  g_fBent : PySem.W.nsIn K mainGlobals "_law_bent" = some (some (.ref fBent))
  w_fBent : FnF K "_law_bent" "_law_bent" sBent fBent
  g_Dn : PySem.W.nsIn K mainGlobals "_law_done" = some (some (.ref fDn))
  w_Dn : FnT2 K "_law_done" sDone fDn cDn pDn
  l_Dn : K.lookup pDn = none
  g_Ud : PySem.W.nsIn K mainGlobals "_law_used" = some (some (.ref fUd))
  w_Ud : FnT2 K "_law_used" sUsed fUd cUd pUd
  l_Ud : K.lookup pUd = none
  g_Law : PySem.W.nsIn K mainGlobals "law" = some (some (.ref fLaw))
  w_Law : FnT2 K "law" sLaw fLaw cLaw pLaw
  l_Law : K.lookup pLaw = none
  ne1 : decide (pDn = pUd) = false
  ne2 : decide (pDn = pLaw) = false
  ne3 : decide (pUd = pLaw) = false
section
variable {K : PySem.W.Frag} {mg : Str → Option Value} {h : Heap} {CS CD pRd cN cT cM cD dU dM dD fEN fED fET fEM fU fM fD fRd fIs fCns fCun fAsc fCus fOf fPen fDraw fPick fHeard fLis fDue fOdd fVals fIt fBent fDn cDn pDn fUd cUd pUd fLaw cLaw pLaw : Addr}
theorem HeadF.law {l : PySem.W.OpenLaw} {w : World} {fa : Addr} (D : HeadF K CS CD pRd cN cT cM cD dU dM dD fEN fED fET fEM fU fM fD fRd fIs fCns fCun fAsc fCus fOf fPen fDraw fPick fHeard fLis fDue fOdd fVals fIt fBent fDn cDn pDn fUd cUd pUd fLaw cLaw pLaw) (X : K.In h) (G : h.Ns mainGlobals mg) (hfa : mg "law" = some (.ref fa))
    (tbDn : h.get? pDn = some { cls := .none, data := .fields #[] }) (tbUd : h.get? pUd = some { cls := .none, data := .fields #[] }) (tbLaw : h.get? pLaw = some { cls := .none, data := .fields #[] }) : ∃ fd cs sp, LawG l w K 11 63 "_law_script" mg fa h fd cs sp := by
  have e := hfa.symm.trans (PySem.W.mg_of X G D.g_Law)
  cases e
  obtain ⟨⟨fdDn, FDn⟩, tDn⟩ := D.w_Dn
  have cdDn := PySem.W.codeHd_of_K X tDn
  obtain ⟨⟨fdUd, FUd⟩, tUd⟩ := D.w_Ud
  have cdUd := PySem.W.codeHd_of_K X tUd
  obtain ⟨⟨fdLaw, FLaw⟩, tLaw⟩ := D.w_Law
  have cdLaw := PySem.W.codeHd_of_K X tLaw
  have ne1 : pDn ≠ pUd := of_decide_eq_false D.ne1
  have ne2 : pDn ≠ pLaw := of_decide_eq_false D.ne2
  have ne3 : pUd ≠ pLaw := of_decide_eq_false D.ne3
  have TB : TxtB mg := ⟨PySem.W.mg_none_of X G D.n_int, PySem.W.mg_none_of X G D.n_len, PySem.W.mg_none_of X G D.n_abs, PySem.W.mg_none_of X G D.n_list, PySem.W.mg_none_of X G D.n_str, PySem.W.mg_none_of X G D.n_tuple, PySem.W.mg_none_of X G D.n_isinstance, PySem.W.mg_none_of X G D.n_repr, PySem.W.mg_none_of X G D.n_range, PySem.W.mg_none_of X G D.n_enumerate, PySem.W.mg_none_of X G D.n_ValueError⟩
  have TA : TxtA mg := ⟨PySem.W.mg_none_of X G D.n_set, PySem.W.mg_none_of X G D.n_sorted, PySem.W.mg_none_of X G D.n_tuple⟩
  have TN : TxtN mg := ⟨let ⟨t, e⟩ := D.gLet; ⟨t, PySem.W.mg_of X G e⟩, let ⟨t, e⟩ := D.gMost; ⟨t, PySem.W.mg_of X G e⟩⟩
  obtain ⟨fd_fEN, F_fEN⟩ := D.w_fEN.ex
  have b_fEN := F_fEN.binds (ps := ["self", "value"]) fun _ _ _ _ _ _ us hl => match us, hl with | [_, _], _ => rfl
  obtain ⟨fd_fED, F_fED⟩ := D.w_fED.ex
  have b_fED := F_fED.binds (ps := ["self", "value"]) fun _ _ _ _ _ _ us hl => match us, hl with | [_, _], _ => rfl
  obtain ⟨fd_fET, F_fET⟩ := D.w_fET.ex
  have b_fET := F_fET.binds (ps := ["self", "name"]) fun _ _ _ _ _ _ us hl => match us, hl with | [_, _], _ => rfl
  obtain ⟨fd_fEM, F_fEM⟩ := D.w_fEM.ex
  have b_fEM := F_fEM.binds (ps := ["self", "most"]) fun _ _ _ _ _ _ us hl => match us, hl with | [_, _], _ => rfl
  obtain ⟨fd_fU, F_fU⟩ := D.w_fU.ex
  obtain ⟨fd_fM, F_fM⟩ := D.w_fM.ex
  have b_fM := F_fM.binds (ps := ["self", "name"]) fun _ _ _ _ _ _ us hl => match us, hl with | [_, _], _ => rfl
  obtain ⟨fd_fD, F_fD⟩ := D.w_fD.ex
  obtain ⟨fd_fRd, F_fRd⟩ := D.w_fRd.ex
  have b_fRd := F_fRd.binds (ps := ["cls", "text"]) fun _ _ _ _ _ _ us hl => match us, hl with | [_, _], _ => rfl
  obtain ⟨fd_fIs, F_fIs⟩ := D.w_fIs.ex
  have b_fIs := F_fIs.binds (ps := ["value"]) fun _ _ _ _ _ _ us hl => match us, hl with | [_], _ => rfl
  obtain ⟨fd_fCns, F_fCns⟩ := D.w_fCns.ex
  have b_fCns := F_fCns.binds (ps := ["values"]) fun _ _ _ _ _ _ us hl => match us, hl with | [_], _ => rfl
  obtain ⟨fd_fCun, F_fCun⟩ := D.w_fCun.ex
  have b_fCun := F_fCun.binds (ps := ["names"]) fun _ _ _ _ _ _ us hl => match us, hl with | [_], _ => rfl
  obtain ⟨fd_fAsc, F_fAsc⟩ := D.w_fAsc.ex
  have b_fAsc := F_fAsc.binds (ps := ["names"]) fun _ _ _ _ _ _ us hl => match us, hl with | [_], _ => rfl
  obtain ⟨fd_fCus, F_fCus⟩ := D.w_fCus.ex
  have b_fCus := F_fCus.binds (ps := ["names"]) fun _ _ _ _ _ _ us hl => match us, hl with | [_], _ => rfl
  obtain ⟨fd_fOf, F_fOf⟩ := D.w_fOf.ex
  have b_fOf := F_fOf.binds (ps := ["word", "names"]) fun _ _ _ _ _ _ us hl => match us, hl with | [_, _], _ => rfl
  obtain ⟨fd_fPen, F_fPen⟩ := D.w_fPen.ex
  have b_fPen := F_fPen.binds (ps := ["_law_script"]) fun _ _ _ _ _ _ us hl => match us, hl with | [_], _ => rfl
  obtain ⟨fd_fDraw, F_fDraw⟩ := D.w_fDraw.ex
  have b_fDraw := F_fDraw.binds (ps := ["_law_pen_here", "_law_many"]) fun _ _ _ _ _ _ us hl => match us, hl with | [_, _], _ => rfl
  obtain ⟨fd_fPick, F_fPick⟩ := D.w_fPick.ex
  have b_fPick := F_fPick.binds (ps := ["_law_pen_here", "_law_some"]) fun _ _ _ _ _ _ us hl => match us, hl with | [_, _], _ => rfl
  obtain ⟨fd_fHeard, F_fHeard⟩ := D.w_fHeard.ex
  have b_fHeard := F_fHeard.binds (ps := ["_law_ask"]) fun _ _ _ _ _ _ us hl => match us, hl with | [_], _ => rfl
  obtain ⟨fd_fLis, F_fLis⟩ := D.w_fLis.ex
  have b_fLis := F_fLis.binds (ps := ["_law_value"]) fun _ _ _ _ _ _ us hl => match us, hl with | [_], _ => rfl
  obtain ⟨fd_fDue, F_fDue⟩ := D.w_fDue.ex
  have b_fDue := F_fDue.binds (ps := ["_law_values_here", "_law_first"]) fun _ _ _ _ _ _ us hl => match us, hl with | [_, _], _ => rfl
  obtain ⟨fd_fOdd, F_fOdd⟩ := D.w_fOdd.ex
  have b_fOdd := F_fOdd.binds (ps := ["_law_pen_here"]) fun _ _ _ _ _ _ us hl => match us, hl with | [_], _ => rfl
  obtain ⟨fd_fVals, F_fVals⟩ := D.w_fVals.ex
  have b_fVals := F_fVals.binds (ps := ["_law_pen_here", "_law_many"]) fun _ _ _ _ _ _ us hl => match us, hl with | [_, _], _ => rfl
  obtain ⟨fd_fIt, F_fIt⟩ := D.w_fIt.ex
  have b_fIt := F_fIt.binds (ps := ["_law_text"]) fun _ _ _ _ _ _ us hl => match us, hl with | [_], _ => rfl
  obtain ⟨fd_fBent, F_fBent⟩ := D.w_fBent.ex
  have b_fBent := F_fBent.binds (ps := ["_law_pen_here"]) fun _ _ _ _ _ _ us hl => match us, hl with | [_], _ => rfl
  have b_Dn : Binds K fdDn ["_law_made", "_law_used_here"] [] := by
    obtain ⟨oc, od, kV, doc, pm, an, ct, osl, rfl, lk, hcd⟩ := FDn.ex
    exact .all fun us hl => match us, hl with | [_, _], _ => rfl
  have b_Ud : Binds K fdUd ["_law_used_here"] [] := by
    obtain ⟨oc, od, kV, doc, pm, an, ct, osl, rfl, lk, hcd⟩ := FUd.ex
    exact .all fun us hl => match us, hl with | [_], _ => rfl
  have b_L : ∀ (t : Shared) (u : Value), BindsTo t fdLaw ⟨[u], []⟩ [("_law_script", u)] := by
    obtain ⟨oc, od, kV, doc, pm, an, ct, osl, rfl, lk, hcd⟩ := FLaw.ex
    exact fun t u => .of_eq rfl
  obtain ⟨TT, hTT⟩ : ∃ TT : List (Addr × Str), TT = [(pDn, Str.ofString "_law_done.<locals>.<lambda>"), (pUd, Str.ofString "_law_used.<locals>.<lambda>"), (pLaw, Str.ofString "law.<locals>.<lambda>")] := ⟨_, rfl⟩
  have hmDn : (pDn, Str.ofString "_law_done.<locals>.<lambda>") ∈ TT := by rw [hTT]; simp
  have huDn : ∀ p ∈ TT, p.1 = pDn → p.2 = Str.ofString "_law_done.<locals>.<lambda>" := fun p hp e => by
    rw [hTT] at hp
    simp only [List.mem_cons, List.not_mem_nil, or_false] at hp
    rcases hp with rfl | rfl | rfl
    · rfl
    · exact absurd e ne1.symm
    · exact absurd e ne2.symm
  have hmUd : (pUd, Str.ofString "_law_used.<locals>.<lambda>") ∈ TT := by rw [hTT]; simp
  have huUd : ∀ p ∈ TT, p.1 = pUd → p.2 = Str.ofString "_law_used.<locals>.<lambda>" := fun p hp e => by
    rw [hTT] at hp
    simp only [List.mem_cons, List.not_mem_nil, or_false] at hp
    rcases hp with rfl | rfl | rfl
    · exact absurd e ne1
    · rfl
    · exact absurd e ne3.symm
  have hmLaw : (pLaw, Str.ofString "law.<locals>.<lambda>") ∈ TT := by rw [hTT]; simp
  have huLaw : ∀ p ∈ TT, p.1 = pLaw → p.2 = Str.ofString "law.<locals>.<lambda>" := fun p hp e => by
    rw [hTT] at hp
    simp only [List.mem_cons, List.not_mem_nil, or_false] at hp
    rcases hp with rfl | rfl | rfl
    · exact absurd e ne2
    · exact absurd e ne3
    · rfl
  have kerr : ErrK K mg ⟨cN, cT, cM, cD⟩ CS :=
    { gS := PySem.W.mg_of X G D.base.g, gN := PySem.W.mg_of X G D.eN.g, gT := PySem.W.mg_of X G D.eT.g, gM := PySem.W.mg_of X G D.eM.g, gD := PySem.W.mg_of X G D.eD.g
      n := ⟨D.eN.exm D.base, D.eN.ec D.base, D.eN.xf, D.eN.v, kit_self, D.k_eNeT, D.k_eNeM, D.k_eNeD, D.eN.ve⟩
      t := ⟨D.eT.exm D.base, D.eT.ec D.base, D.eT.xf, D.eT.v, D.k_eTeN, kit_self, D.k_eTeM, D.k_eTeD, D.eT.ve⟩
      m := ⟨D.eM.exm D.base, D.eM.ec D.base, D.eM.xf, D.eM.v, D.k_eMeN, D.k_eMeT, kit_self, D.k_eMeD, D.eM.ve⟩
      d := ⟨D.eD.exm D.base, D.eD.ec D.base, D.eD.xf, D.eD.v, D.k_eDeN, D.k_eDeT, D.k_eDeM, kit_self, D.eD.ve⟩ }
  have dcs : Dcs K mg ⟨dU, dM, dD⟩ fU fM fD :=
    { mu := D.kU.mak, mm := D.kM.mak, md := D.kD.mak, gu := PySem.W.mg_of X G D.kU.g, gm := PySem.W.mg_of X G D.kM.g, gd := PySem.W.mg_of X G D.kD.g
      du := ⟨D.kU.cls, D.kU_uses, D.kU_makes, D.kU_names⟩, dm := ⟨D.kM.cls, D.kM_uses, D.kM_makes, D.kM_names⟩, dd := ⟨D.kD.cls, D.kD_uses, D.kD_makes, D.kD_names⟩ }
  have gD := PySem.W.mg_of X G D.gD
  have deedC : DeedC K mg CD := ⟨gD, let ⟨t, e⟩ := D.most; ⟨.type "type", _, ⟨D.rdD.rd, D.rdD.ga⟩, ⟨e, ⟨_, rfl⟩⟩⟩⟩
  have stow : Stow K mg ⟨cN, cT, cM, cD⟩ CS := ⟨PySem.W.mg_of X G D.base.g, D.eN.exm D.base, D.eT.exm D.base, D.eM.exm D.base, D.eD.exm D.base⟩
  refine ⟨fdLaw, [(cDn, pDn), (cUd, pUd), (cLaw, pLaw)], spLaw K TT, ?_⟩
  refine ⟨fun p hp => ?_, fun p hp => ?_, fun p hp => ?_, b_L, fun H a ns hl hT hS => ⟨a, ns, rfl, hS, fun p hp => ?_, fun H' => rfl⟩, fun base Xb Gb TBs SB => ?_⟩
  · simp only [List.mem_cons, List.not_mem_nil, or_false] at hp
    rcases hp with rfl | rfl | rfl
    · exact tbDn
    · exact tbUd
    · exact tbLaw
  · simp only [List.mem_cons, List.not_mem_nil, or_false] at hp
    rcases hp with rfl | rfl | rfl
    · exact D.l_Dn
    · exact D.l_Ud
    · exact D.l_Law
  · simp only [List.mem_cons, List.not_mem_nil, or_false] at hp
    rcases hp with rfl | rfl | rfl
    · exact cdDn
    · exact cdUd
    · exact cdLaw
  · rw [hTT] at hp
    simp only [List.mem_cons, List.not_mem_nil, or_false] at hp
    rcases hp with rfl | rfl | rfl
    · exact TabS.nil (hT (cDn, pDn) (by simp))
    · exact TabS.nil (hT (cUd, pUd) (by simp))
    · exact TabS.nil (hT (cLaw, pLaw) (by simp))
  · have tD1 : TabB base mg cDn pDn := TBs (cDn, pDn) (by simp)
    have tU1 : TabB base mg cUd pUd := TBs (cUd, pUd) (by simp)
    have tL1 : TabB base mg cLaw pLaw := TBs (cLaw, pLaw) (by simp)
    have c_fDraw : C8.Cal l.prog w K mg base 1 "_law_draw" spDraw [] := ⟨_, _, _, _, ok_draw F_fDraw TB, PySem.W.mg_of X G D.g_fDraw, F_fDraw.kp, b_fDraw, .nil⟩
    have c_fPen : C8.Cal l.prog w K mg base 1 "_law_pen" (spPen K) [] := ⟨_, _, _, _, ok_pen F_fPen TB, PySem.W.mg_of X G D.g_fPen, F_fPen.kp, b_fPen, .nil⟩
    have c_fPick : C8.Cal l.prog w K mg base 2 "_law_pick" (spPick K) [] := ⟨_, _, _, _, ok_pick F_fPick TB c_fDraw, PySem.W.mg_of X G D.g_fPick, F_fPick.kp, b_fPick, .nil⟩
    have c_fIs : C8.Cal l.prog w K mg base 1 "is_name" (spIs K) [] := ⟨_, _, _, _, ok_is F_fIs TB TN, PySem.W.mg_of X G D.g_fIs, F_fIs.kp, b_fIs, .nil⟩
    have EN : ErrC l.prog w K mg base "BadName" "value" cN fEN := ⟨D.eN.O, D.eN.i, D.eN.t, ⟨_, ok_errN F_fEN, b_fEN⟩, PySem.W.mg_of X G D.eN.g, D.eN.v⟩
    have ET : ErrC l.prog w K mg base "Twice" "name" cT fET := ⟨D.eT.O, D.eT.i, D.eT.t, ⟨_, ok_errT F_fET, b_fET⟩, PySem.W.mg_of X G D.eT.g, D.eT.v⟩
    have EM : ErrC l.prog w K mg base "TooMany" "most" cM fEM := ⟨D.eM.O, D.eM.i, D.eM.t, ⟨_, ok_errM F_fEM, b_fEM⟩, PySem.W.mg_of X G D.eM.g, D.eM.v⟩
    have ED : ErrC l.prog w K mg base "BadDeed" "value" cD fED := ⟨D.eD.O, D.eD.i, D.eD.t, ⟨_, ok_errD F_fED, b_fED⟩, PySem.W.mg_of X G D.eD.g, D.eD.v⟩
    have c_fCns : CalL l.prog w K mg base 3 "check_names" (spCns K cN) := ⟨⟨_, _, _, ok_cns F_fCns c_fIs EN, PySem.W.mg_of X G D.g_fCns, F_fCns.kp, b_fCns⟩⟩
    have c_fCun : CalL l.prog w K mg base 3 "check_unlike" (spCun K cT) := ⟨⟨_, _, _, ok_cun F_fCun ET, PySem.W.mg_of X G D.g_fCun, F_fCun.kp, b_fCun⟩⟩
    have c_fCus : CalL l.prog w K mg base 4 "check_used" (spCus K ⟨cN, cT, cM, cD⟩) := ⟨⟨_, _, _, ok_cus (fT := fET) F_fCus TB c_fCun deedC EM ED, PySem.W.mg_of X G D.g_fCus, F_fCus.kp, b_fCus⟩⟩
    have c_fAsc : C8.Cal l.prog w K mg base 1 "ascending" (spAsc K) [] := ⟨_, _, _, _, ok_asc F_fAsc TA, PySem.W.mg_of X G D.g_fAsc, F_fAsc.kp, b_fAsc, .nil⟩
    have cks : Cks l.prog w K mg base ⟨cN, cT, cM, cD⟩ := ⟨c_fCns, c_fCus, c_fAsc⟩
    have OU : FnR l.prog w K mg base (L2N.CX l.prog w) 5 fU (spUse K ⟨cN, cT, cM, cD⟩) := ok_use cks F_fU
    have OD : FnR l.prog w K mg base (L2N.CX l.prog w) 5 fD (spDo K ⟨cN, cT, cM, cD⟩) := ok_do cks F_fD
    have OM : FnOk l.prog w K mg base (L2N.CX l.prog w) 4 fM fd_fM ["self", "name"] (spMake K ⟨cN, cT, cM, cD⟩) := ok_make cks F_fM
    have c_fOf : CalL l.prog w K mg base 7 "deed_of" (spOf K ⟨cN, cT, cM, cD⟩ ⟨dU, dM, dD⟩) := ⟨⟨_, _, _, ok_of F_fOf TB dcs OU OM b_fM OD ED, PySem.W.mg_of X G D.g_fOf, F_fOf.kp, b_fOf⟩⟩
    have EH : ErrH l.prog w K mg base cD fED := ⟨⟨_, ok_errDH F_fED, b_fED⟩⟩
    have ORd : FnOk l.prog w K mg base (L2.CX l.prog w) 8 fRd fd_fRd ["cls", "text"] (spRd K ⟨cN, cT, cM, cD⟩ ⟨dU, dM, dD⟩) := ok_read F_fRd TB c_fOf ED EH stow
    have c_fLis : C8.Cal l.prog w K mg base 1 "_law_is_name" (spLIs K) [] := ⟨_, _, _, _, ok_lis F_fLis TB, PySem.W.mg_of X G D.g_fLis, F_fLis.kp, b_fLis, .nil⟩
    have c_fDue : C8.Cal l.prog w K mg base 2 "_law_due" (spDue K) [] := ⟨_, _, _, _, ok_due F_fDue TB c_fLis, PySem.W.mg_of X G D.g_fDue, F_fDue.kp, b_fDue, .nil⟩
    have c_fOdd : C8.Cal l.prog w K mg base 3 "_law_odd" spOdd [] := ⟨_, _, _, _, ok_odd F_fOdd c_fPick, PySem.W.mg_of X G D.g_fOdd, F_fOdd.kp, b_fOdd, .nil⟩
    have c_fVals : C8.Cal l.prog w K mg base 4 "_law_values" spVals [] := ⟨_, _, _, _, ok_vals F_fVals TB c_fDraw c_fPick c_fOdd, PySem.W.mg_of X G D.g_fVals, F_fVals.kp, b_fVals, .nil⟩
    have c_fIt : C8.Cal l.prog w K mg base 2 "_law_is_text" spIt [] := ⟨_, _, _, _, ok_it F_fIt TB TA c_fLis, PySem.W.mg_of X G D.g_fIt, F_fIt.kp, b_fIt, .nil⟩
    have c_fBent : C8.Cal l.prog w K mg base 3 "_law_bent" spBent [] := ⟨_, _, _, _, ok_bent F_fBent TB c_fDraw c_fPick, PySem.W.mg_of X G D.g_fBent, F_fBent.kp, b_fBent, .nil⟩
    have ODn : FnG l.prog w K mg base 9 fDn fdDn ["_law_made", "_law_used_here"] (spDone K TT) := ok_done FDn TB kerr dcs (NN.fnR_less OD) F_fHeard (PySem.W.mg_of X G D.g_fHeard) b_fHeard tD1 hmDn huDn
    have OUd : FnG l.prog w K mg base 9 fUd fdUd ["_law_used_here"] (spUsed K TT) := ok_used FUd TB kerr dcs (NN.fnR_less OU) F_fHeard (PySem.W.mg_of X G D.g_fHeard) b_fHeard tU1 hmUd huUd
    have LX : LawTxt l.prog w K mg base ⟨cN, cT, cM, cD⟩ ⟨dU, dM, dD⟩ CS CD fU fM fD fHeard fd_fHeard TT :=
      { T := TB, E := kerr, D := dcs, FU := NN.fnR_less OU, FM := ⟨_, NN.fnOk_less OM, b_fM⟩, FD := NN.fnR_less OD, gD := gD
        rd := ⟨.type "type", ⟨D.rdD.rd, D.rdD.ga⟩, pRd, fRd, ⟨D.cm.at_, D.cm.rc, D.cm.fi⟩, fd_fRd, ORd, b_fRd⟩
        FH := F_fHeard, gH := PySem.W.mg_of X G D.g_fHeard, hbH := b_fHeard, sys := SB
        pen := c_fPen, draw := c_fDraw, vals := c_fVals, due := c_fDue, lis := c_fLis, odd := c_fOdd, bent := c_fBent, it := c_fIt
        done := ⟨_, _, ODn, PySem.W.mg_of X G D.g_Dn, FDn.kp, b_Dn⟩
        used := ⟨_, _, OUd, PySem.W.mg_of X G D.g_Ud, FUd.kp, b_Ud⟩ }
    exact ok_law FLaw LX tL1 hmLaw huLaw
end
end K02

set_option Elab.async false
set_option linter.all false
set_option maxRecDepth 100000
open PySem PySem.W PyProof.Rows
set_option maxHeartbeats 0 in
theorem PySem.Challenge.cw_loopstow_k02_deeds_refused_holds : PySem.Challenge.rw_loopstow_k02_deeds_refused.Holds := by
  w_on; o_law; k_head; (case hw => w_witness2)
  k_fill
  refine NX.walkG (l := PySem.Challenge.rw_loopstow_k02_deeds_refused) (n := 63) (k := 11) (x := "_law_script") rfl (by decide) rfl ⟨rfl, by decide, by decide⟩ (by rfl) (fun w h Y => PySem.W.km_in_of Y) ?G
  case G =>
    intro w mg fa h Y KX G hmg
    refine' K02.HeadF.law ?D KX G hmg ?tD ?tU ?tL
    case D =>
      exact ⟨by k_is,
      by k_is,
      by k_is,
      by k_is,
      by k_is,
      by k_is,
      by k_is,
      by k_is,
      by k_is,
      by k_is,
      by k_is,
      by k_is,
      by k_is,
      ⟨_, by k_is⟩,
      ⟨_, by k_is⟩,
      ⟨by k_is, by k_is, by k_is, by k_is, by k_is, by k_is⟩,
      ⟨by k_is, by k_is, by k_is, ⟨_, _, _, _, _, _, _, _, _, _, _, _, _, _, by k_is⟩, by k_is, by k_is, by k_is, by k_is, by k_is, by k_is, by k_is, by k_is, by k_is, by k_is, by k_is, by k_is, by k_is⟩,
      ⟨by k_is, by k_is, by k_is, ⟨_, _, _, _, _, _, _, _, _, _, _, _, _, _, by k_is⟩, by k_is, by k_is, by k_is, by k_is, by k_is, by k_is, by k_is, by k_is, by k_is, by k_is, by k_is, by k_is, by k_is⟩,
      ⟨by k_is, by k_is, by k_is, ⟨_, _, _, _, _, _, _, _, _, _, _, _, _, _, by k_is⟩, by k_is, by k_is, by k_is, by k_is, by k_is, by k_is, by k_is, by k_is, by k_is, by k_is, by k_is, by k_is, by k_is⟩,
      ⟨by k_is, by k_is, by k_is, ⟨_, _, _, _, _, _, _, _, _, _, _, _, _, _, by k_is⟩, by k_is, by k_is, by k_is, by k_is, by k_is, by k_is, by k_is, by k_is, by k_is, by k_is, by k_is, by k_is, by k_is⟩,
      NX.kit_ref (by decide) (by k_is) (by k_is) (by k_is),
      NX.kit_ref (by decide) (by k_is) (by k_is) (by k_is),
      NX.kit_ref (by decide) (by k_is) (by k_is) (by k_is),
      NX.kit_ref (by decide) (by k_is) (by k_is) (by k_is),
      NX.kit_ref (by decide) (by k_is) (by k_is) (by k_is),
      NX.kit_ref (by decide) (by k_is) (by k_is) (by k_is),
      NX.kit_ref (by decide) (by k_is) (by k_is) (by k_is),
      NX.kit_ref (by decide) (by k_is) (by k_is) (by k_is),
      NX.kit_ref (by decide) (by k_is) (by k_is) (by k_is),
      NX.kit_ref (by decide) (by k_is) (by k_is) (by k_is),
      NX.kit_ref (by decide) (by k_is) (by k_is) (by k_is),
      NX.kit_ref (by decide) (by k_is) (by k_is) (by k_is),
      ⟨by k_is, by k_is, by k_is, by k_is, by k_is, by k_is, by k_is, by k_is, by k_is⟩,
      by k_is,
      by k_is,
      by k_is,
      ⟨by k_is, by k_is, by k_is, by k_is, by k_is, by k_is, by k_is, by k_is, by k_is⟩,
      by k_is,
      by k_is,
      by k_is,
      ⟨by k_is, by k_is, by k_is, by k_is, by k_is, by k_is, by k_is, by k_is, by k_is⟩,
      by k_is,
      by k_is,
      by k_is,
      by k_is,
      ⟨by k_is, by k_is⟩,
      ⟨_, by k_is⟩,
      ⟨by k_is, ⟨_, by k_is⟩, by k_is⟩,
      NX.fnF (by k_is) (by k_is) (by k_is),
      NX.fnF (by k_is) (by k_is) (by k_is),
      NX.fnF (by k_is) (by k_is) (by k_is),
      NX.fnF (by k_is) (by k_is) (by k_is),
      NX.fnF (by k_is) (by k_is) (by k_is),
      NX.fnF (by k_is) (by k_is) (by k_is),
      NX.fnF (by k_is) (by k_is) (by k_is),
      NX.fnF (by k_is) (by k_is) (by k_is),
      by k_is,
      NX.fnF (by k_is) (by k_is) (by k_is),
      by k_is,
      NX.fnF (by k_is) (by k_is) (by k_is),
      by k_is,
      NX.fnF (by k_is) (by k_is) (by k_is),
      by k_is,
      NX.fnF (by k_is) (by k_is) (by k_is),
      by k_is,
      NX.fnF (by k_is) (by k_is) (by k_is),
      by k_is,
      NX.fnF (by k_is) (by k_is) (by k_is),
      by k_is,
      NX.fnF (by k_is) (by k_is) (by k_is),
      by k_is,
      NX.fnF (by k_is) (by k_is) (by k_is),
      by k_is,
      NX.fnF (by k_is) (by k_is) (by k_is),
      by k_is,
      NX.fnF (by k_is) (by k_is) (by k_is),
      by k_is,
      NX.fnF (by k_is) (by k_is) (by k_is),
      by k_is,
      NX.fnF (by k_is) (by k_is) (by k_is),
      by k_is,
      NX.fnF (by k_is) (by k_is) (by k_is),
      by k_is,
      NX.fnF (by k_is) (by k_is) (by k_is),
      by k_is,
      NX.fnF (by k_is) (by k_is) (by k_is),
      by k_is,
      NX.fnF (by k_is) (by k_is) (by k_is),
      by k_is,
      K02.fnT2 (by k_is) (by k_is) (by k_is) (by k_is) (by rfl) (by kernel_rfl),
      by kernel_rfl,
      by k_is,
      K02.fnT2 (by k_is) (by k_is) (by k_is) (by k_is) (by rfl) (by kernel_rfl),
      by kernel_rfl,
      by k_is,
      K02.fnT2 (by k_is) (by k_is) (by k_is) (by k_is) (by rfl) (by kernel_rfl),
      by kernel_rfl,
      by decide,
      by decide,
      by decide⟩
    case tD => exact PySem.W.km_tabs_of Y _ (by decide)
    case tU => exact PySem.W.km_tabs_of Y _ (by decide)
    case tL => exact PySem.W.km_tabs_of Y _ (by decide)
