import PyProof.Rows.All
import Wide.All
import OpenK.AllK
import Wide.FinOn
import HandS.ForMost
import HandS.Exc
import HandS.ExcInit
import HandS.ExcField
import HandS.ExcIs
import HandS.IsInst
import HandS.TryOnly
import KE.KExcIs
import PyProof.ReprRoads
import HandS.Lambda
import HandS.Codes
import HandS.EndTab
import HandS.ClsMeth
import HandS.OwnEq
import PyProof.InstEq
import HandS.HeadHook4
import HandS.Head2
import PySem.Challenge.RW_loopstow_k33_needed_in_loops
import HandS.FStr
import HandS.StrMore
import HandS.WordsExc
import KE.KUnpackStar
import PyProof.Rows.SetFrom
import HandS.Strs
import HandS.SetFor
import HandS.More
import HandS.Star
import HandS.SuiteRaise
import HandS.RaiseFrom
import HandS.ExcInitHot
import HandS.HotCalls
import HandS.Property
import HandS.Flow
import HandS.RaiseMore
import HandS.SortKw
import KE.KSortKey
import PyProof.TupleOfSeq
import KE.GoesEnum
import KE.GoesMore
import HandS.NoneIn
import HandS.Defaults
import HandS.MakeKwOnly
import HandS.Iter
import HandS.Rev
import HandS.Style
import HandS.WordsDict
import HandS.Small
import PyProof.Rows.StrMeet
import PyProof.Rows.SortStr
import PyProof.CallFns
import PyProof.ReprReads
set_option Elab.async false
set_option linter.all false
set_option maxRecDepth 100000
set_option maxHeartbeats 4000000
/-! Rules of my own: an error that is caught under a name and kept in a local name behind the suite; what is asked of it there. -/
namespace NX
open PySem PySem.Spec PyProof.Rows L2
/-- the kept error at a: its class, its dict -/
def Kept (a : Addr) (cls : Value) (d : Option Addr) : HO := .ext fun h => ∃ o vs, h.get? a = some o ∧ o.cls = cls ∧ o.dict = d ∧ o.data = .fields vs
theorem kept_ne {a b : Addr} {cls : Value} {d : Option Addr} : Kept a cls d ≠ .own b := fun z => by
  unfold Kept at z
  cases z
theorem kept_ok {P : Program} {w : World} {H : Hp} {h : Heap} {a : Addr} {cls : Value} {d : Option Addr} {o : Obj} {vs : Array Value} (e : h.get? a = some o) (z : Zc cls d o) (f : o.data = .fields vs) : ObjOk P w H h a (Kept a cls d) :=
  ⟨⟨o, vs, e, z.1, z.2, f⟩, ⟨o, e⟩, fun h1 h2 ⟨o1, w1, e1, r1⟩ k => ⟨o1, w1, k _ e1, r1⟩⟩
section
variable {X : Cx} {pins : List (Addr × Obj)} {σ : L2.St} {H : Hp} {s : Shared}
/-- an object that nobody tracks, and that is none of the entry's, is tracked from now on -/
theorem adopt {a : Addr} {cls : Value} {d : Option Addr} {o : Obj} {vs : Array Value} (I : Inv X ((a, o) :: pins) σ H s) (z : Zc cls d o) (f : o.data = .fields vs) (new : X.s_0.heap.get? a = none) (np : ∀ p ∈ X.pn ++ pins, p.1 ≠ a) :
    Inv X pins σ (upd H a (Kept a cls d)) s := by
  obtain ⟨ga, na, nL, nF, nC⟩ := I.pin (a, o) (List.mem_append_right _ List.mem_cons_self)
  have ga : s.heap.get? a = some o := ga
  have na : H a = none := na
  have B := I.base
  have nb : ∀ {b u}, X.s_0.heap.get? b = some u → b ≠ a := fun {b u} e q => by rw [q, new] at e; cases e
  refine ⟨I.ok, I.os, I.bare, ⟨B.keep, B.slot, fun b u e n hx => ?_, B.there, fun b xs e => ?_, fun b u v e => ?_, fun b ps e => ?_⟩, I.loc, I.cell, ?_, fun x c e => ?_, fun p hp => ?_, ?_, I.len⟩
  · rw [upd_ne (nb e)]
    exact B.free b u e n hx
  · have q := B.tups b xs e
    rw [upd_ne (ne_of_none q na)]
    exact q
  · have q := B.frzs b u v e
    rw [upd_ne (ne_of_none q na)]
    exact q
  · obtain ⟨more, q⟩ := B.tbls b ps e
    exact ⟨more, by rw [upd_ne (ne_of_none q na)]; exact q⟩
  · rw [upd_ne (Ne.symm nL)]
    exact I.free
  · obtain ⟨v, oc, e1, e2⟩ := I.cell x c e
    have hne : c ≠ a := fun q => by
      rw [q, ga] at e1
      cases e1
      exact nC _ e2
    rw [upd_ne hne]
    exact I.freeC x c e
  · have hp' : p ∈ X.pn ++ (a, o) :: pins := by
      rcases List.mem_append.mp hp with q | q
      · exact List.mem_append_left _ q
      · exact List.mem_append_right _ (List.mem_cons_of_mem _ q)
    obtain ⟨e1, e2, e3⟩ := I.pin p hp'
    exact ⟨e1, by rw [upd_ne (np p hp)]; exact e2, e3⟩
  · intro b u e
    by_cases hb : b = a
    · rw [hb, upd_same] at e
      cases e
      rw [hb]
      exact kept_ok ga z f
    · rw [upd_ne hb] at e
      exact (I.hok b u e).stay (fun _ _ _ q => q) (fun c q => by rw [upd_ne (ne_of_none q na)]; exact q) fun c xs q => by rw [upd_ne (ne_of_none q na)]; exact q
/-- what «except x as n: suite» wishes of an error of the body, if the error is kept: slot i is n's, the suite's ends see the kept error -/
def wKeep (K : PySem.W.Frag) (c : Value) (i : Nat) (ts : Addr → Value → Option Addr → TS) (Wout : WX) (D : Ends) : WX := fun cls d σ H =>
  ∃ b, PySem.W.exmOne K cls c = some b ∧ (b = false → Wout cls d σ H) ∧
    (b = true → ∀ a, H a = none → ts a cls d ⟨fun σ' H' => D.nx (σ'.set i none) (upd H' a (Kept a cls d)), fun v H' => D.rt v (upd H' a (Kept a cls d)), fun σ' H' => D.bk (σ'.set i none) (upd H' a (Kept a cls d)), fun σ' H' => D.ct (σ'.set i none) (upd H' a (Kept a cls d))⟩ (σ.set i (some (.ref a))) H)
end
section
variable {X : Cx} {x n : Str} {c : Value} {i : Nat} {body suite : List Stmt} {b₀ : Stmt} {np p1 p2 : Pos} {tb : WX → TS} {ts : Addr → Value → Option Addr → TS} {Wout : WX}
theorem ps_try_keep (hs : X.stack = X.env :: X.outer) (hf : X.env.frame = some X.env.locals) (hN : X.N.Nodup) (hi : X.N[i]? = some n) (hln : X.env.kindOf n = some .local) (hex : X.ex = []) (hc : Names X x c) (tk : Takes X Wout)
    (hb : ∀ (W : WX) (pn : List (Addr × Obj)) (xe : Value → Shared → Prop), Takes (X.tr pn xe) W → PassesOwn (model X.prog X.w) X.A X.env xe → PSs (X.tr pn xe) body (tb W))
    (hsu : ∀ (a : Addr) (oe : Obj) (cls : Value) (d : Option Addr) (pn : List (Addr × Obj)), Zc cls d oe → (∃ vs, oe.data = .fields vs) → PSs (X.suite a ((a, oe) :: pn)) (b₀ :: suite) (ts a cls d)) :
    PS X (.Try body [.ExceptHandler (some (.Name x np)) (some n) (b₀ :: suite) p1] [] [] p2) (fun D σ H => tb (wKeep X.K c i ts Wout D) D σ H) := by
  refine ⟨fun pins s σ H D I h => ?_⟩
  have ok := I.ok
  have frames : X.A.frames = some (X.env :: X.outer) := by rw [ok.frames, hs]
  -- the wish of the body: what the clause does with an error
  have caught : ∀ (u : Value) (s' : Shared), XE (X.tr (X.pn ++ pins) (fun e s₁ => wpAny (model X.prog X.w) X.A (noteFrame e X.env) (fun _ s₂ => wpAny (model X.prog X.w) X.A (setFlight e none) (fun _ s₃ =>
      wpAny (model X.prog X.w) X.A (handleBy e X.env [.ExceptHandler (some (.Name x np)) (some n) (b₀ :: suite) p1]) (SP X pins D) X.xe s₃) X.xe s₂) X.xe s₁)) (wKeep X.K c i ts Wout D) u s' →
      wpAny (model X.prog X.w) X.A (noteFrame u X.env) (fun _ s₂ => wpAny (model X.prog X.w) X.A (setFlight u none) (fun _ s₃ =>
        wpAny (model X.prog X.w) X.A (handleBy u X.env [.ExceptHandler (some (.Name x np)) (some n) (b₀ :: suite) p1]) (SP X pins D) X.xe s₃) X.xe s₂) X.xe s' := by
    intro u s' xx
    obtain ⟨a, B, sI, pins', σ', H', cls, d, rfl, J', nb, up, sky, na, os, ag, b, hb1, hno, hyes⟩ := xx
    have J : Inv X pins σ' H' sI := J'.ofTry ok
    have sky' : Sky B (X.env :: X.outer) a (Zc cls d) X.env.locals s'.heap := by rw [← hs]; exact sky
    refine Sky.land Zc.steady frames hf sky' fun h3 fl3 up3 => ?_
    obtain ⟨oe3, vs3, he3, hz3, hd3⟩ := fl3.there
    have Ba : B.get? a = none := fl3.2.1
    have aFr : a ∉ frs (X.env :: X.outer) := fun hm => by
      obtain ⟨_, o', e', hnf⟩ := fl3.2.2.1.mem hm
      rw [he3] at e'
      cases e'
      exact hnf _ hd3
    have aS : a ∉ frs X.stack := by rw [hs]; exact aFr
    have aI : sI.heap.get? a = none := by
      cases e : sI.heap.get? a with
      | none => rfl
      | some o =>
        have q := nb a o e aS
        rw [Ba] at q
        cases q
    have a0 : X.s_0.heap.get? a = none := by
      cases e : X.s_0.heap.get? a with
      | none => rfl
      | some o =>
        obtain ⟨o', q⟩ := J.base.there a o e (by rw [hex]; simp)
        rw [aI] at q
        cases q
    have aL : a ≠ X.env.locals := fun z => aFr (List.mem_filterMap.mpr ⟨X.env, List.mem_cons_self, by rw [hf, z]⟩)
    have aF : a ∉ X.fs := fun hm => by
      obtain ⟨e, he, q⟩ := List.mem_filterMap.mp hm
      exact aFr (List.mem_filterMap.mpr ⟨e, List.mem_cons_of_mem _ he, q⟩)
    have aP : ∀ p ∈ X.pn ++ pins, p.1 ≠ a := fun p hp z => by
      have q := (J.pin p hp).1
      rw [z, aI] at q
      cases q
    have J3 : Inv X pins σ' H' { s' with heap := h3 } := J.landed nb fl3.1 (up.trans up3) os ag
    have S3 := J3.suite he3 hd3 na aL aF
    refine wpAny_handleBy_cons (codeAny_handlers_test ?_) (by intro q; cases q)
    have cl3 : PySem.W.Looks (model X.prog X.w) h3 (typeOf (.ref a)) cls := fun A Q E s k q => wpAny_typeOf_ref (k _ _ he3) (by rw [hz3.1]; exact q)
    have match_ := PySem.W.exm_one (M := model X.prog X.w) J3.kIn cl3 hb1
    have names : ∀ {Q : Value → Shared → Prop} {E : Value → Shared → Prop}, Q c { s' with heap := h3 } → wpAny (model X.prog X.w) (X.A.mark (some (.ref a))) (eval (.Name x np) X.env) Q E { s' with heap := h3 } := fun {Q E} q => by
      obtain ⟨hg, hdb, hm | ⟨hm, hv, hnn⟩⟩ := hc
      · exact ld_glob (X := X.suite a ((a, oe3) :: (X.pn ++ pins))) S3 hg hm q hdb
      · exact ld_blt (X := X.suite a ((a, oe3) :: (X.pn ++ pins))) S3 hg hm hv q hnn hdb
    refine names (match_.here ?_)
    cases b with
    | false =>
      show wpAny _ X.A (handleBy (.ref a) X.env []) _ _ _
      refine wpAny_handleBy_nil ?_
      obtain ⟨_, _, _, oe, vs, T, _, _, he, _, hd, h1, _⟩ := id fl3
      unfold PySem.passOn
      refine wpAny_bind (wpAny_field he hd h1 ?_)
      rw [if_neg (show ¬ ((Value.ref T == Value.none) = true) from by simp)]
      have out : wpAny (model X.prog X.w) X.A (setFlight (.ref a) X.env.frame) (fun _ s4 => wpAny (model X.prog X.w) X.A (throw (.ref a) : Sem Flow) (SP X pins D) X.xe s4) X.xe { s' with heap := h3 } := by
        rw [hf]
        refine HandSPX.setFlight_upZ fl3 fun h4 hh4 up4 => wpAny_throw (tk _ _ ?_)
        exact ⟨a, B, sI, pins, σ', H', cls, d, rfl, J, nb, (up.trans up3).trans up4, .inr (.inr (by rw [hs]; exact hh4)), na, os, ag, hno rfl⟩
      first
        | exact wpAny_bind (wpAny_pure (wpAny_bind out))
        | exact wpAny_bind out
    | true =>
      refine codeAny_handlers_suite_as ?_
      refine HandSPX.lands_againZ fl3 fun h4 fl4 up4 => ?_
      obtain ⟨oe4, vs4, he4, hz4, hd4⟩ := fl4.there
      have J4 : Inv X pins σ' H' { s' with heap := h4 } := J.landed nb fl4.1 ((up.trans up3).trans up4) os ag
      have S4 := J4.suite he4 hd4 na aL aF
      refine store_ok (X := X.suite a ((a, oe4) :: (X.pn ++ pins))) (v := .ref a) S4 hN hi (.inl hln) rfl (fun s5 S5 => ?_) (.inr hln)
      refine wpAny_mono ((hsu a oe4 cls d (X.pn ++ pins) hz4 ⟨_, hd4⟩).run [] s5 _ H' _ S5 (hyes rfl a na)) (fun f s6 hsp => ?_) (fun _ _ z => False.elim z)
      -- behind the suite: the name goes, the error is kept
      have last : ∀ {σ6 : L2.St} {H6 : Hp} {Q : Shared → Prop}, Inv (X.suite a ((a, oe4) :: (X.pn ++ pins))) [] σ6 H6 s6 → (∀ s7, Inv X pins (σ6.set i none) (upd H6 a (Kept a cls d)) s7 → Q s7) →
          wpAny (model X.prog X.w) X.A (do bindName X.env n .none; unbindBehindTheSuite X.env n p1) (fun _ s7 => Q s7) X.xe s6 := fun {σ6 H6 Q} S6 hq => by
        have W6 : Inv X ((a, oe4) :: pins) σ6 H6 s6 := ⟨ok, S6.os, S6.bare, S6.base, S6.loc, S6.cell, S6.free, S6.freeC, fun p hp => S6.pin p (by
          rw [List.append_nil]
          rcases List.mem_append.mp hp with q | q
          · exact List.mem_cons_of_mem _ (List.mem_append_left _ q)
          · rcases List.mem_cons.mp q with q | q
            · rw [q]
              exact List.mem_cons_self
            · exact List.mem_cons_of_mem _ (List.mem_append_right _ q)), S6.hok, S6.len⟩
        exact gone_ok W6 hN hi hln fun s7 J7 => hq s7 (adopt J7 hz4 hd4 a0 aP)
      cases f with
      | next =>
        obtain ⟨σ6, H6, S6, q6⟩ := hsp
        exact last S6 fun s7 J7 => ⟨_, _, J7, q6⟩
      | brk =>
        obtain ⟨σ6, H6, S6, q6⟩ := hsp
        exact last S6 fun s7 J7 => ⟨_, _, J7, q6⟩
      | cont =>
        obtain ⟨σ6, H6, S6, q6⟩ := hsp
        exact last S6 fun s7 J7 => ⟨_, _, J7, q6⟩
      | ret u =>
        obtain ⟨v6, σ6, H6, S6, r6, q6⟩ := hsp
        exact last S6 fun s7 J7 => ⟨_, _, _, J7, r6, q6⟩
  refine wpAny_Try_except (wpAny_mono ((hb _ _ _ (fun u s' xx => caught u s' xx) PassesOwn.looking).run [] s σ H D (I.toTry _) h) (fun f s1 hsp => ?_) (fun e s1 he => he))
  cases f with
  | next =>
    obtain ⟨σ', H', J', q⟩ := hsp
    exact wpAny_execs_nil ⟨σ', H', J'.ofTry ok, q⟩
  | brk =>
    obtain ⟨σ', H', J', q⟩ := hsp
    exact ⟨σ', H', J'.ofTry ok, q⟩
  | cont =>
    obtain ⟨σ', H', J', q⟩ := hsp
    exact ⟨σ', H', J'.ofTry ok, q⟩
  | ret u =>
    obtain ⟨v, σ', H', J', r, q⟩ := hsp
    exact ⟨v, σ', H', J'.ofTry ok, r, q⟩
end
/-- isinstance(e, c) of a kept error -/
def rIsKept (K : PySem.W.Frag) : List V → Hp → VK → Prop := fun xs H Q => ∃ (a D : Addr) (d : Addr) (fs : List (Str × V)) (c : V) (u : Value) (b : Bool), xs = [.ref a, c] ∧ ClsV c u ∧ H a = some (Kept a (.ref D) (some d)) ∧ H d = some (.xd fs) ∧ ExcC K D ∧ PySem.W.kitOne K (.ref D) u = some b ∧ Q (.bl b) H
section
variable {X : Cx} {e : Expr} {te : TE} {pos : Pos} {n : Str} {C : Addr}
theorem inst_kept {pins : List (Addr × Obj)} {σ : L2.St} {H : Hp} {s : Shared} {a D d : Addr} {fs : List (Str × V)} (I : Inv X pins σ H s) (ha : H a = some (Kept a (.ref D) (some d))) (hd : H d = some (.xd fs)) :
    ∃ o od, PySem.W.InstAt s.heap a o D (some od) ∧ s.heap.get? d = some od ∧ ∃ mA, s.heap.Ns1 d mA ∧ (∀ f, RelO (fs.lookup f) (mA f)) := by
  have x : ObjOk X.prog X.w H s.heap a (.ext fun h => ∃ o vs, h.get? a = some o ∧ o.cls = .ref D ∧ o.dict = some d ∧ o.data = .fields vs) := I.hok a _ ha
  obtain ⟨⟨o, vs, e1, e2, e3, e4⟩, _, _⟩ := x
  obtain ⟨mA, hns, hr⟩ := (show ObjOk X.prog X.w H s.heap d (.xd fs) from I.hok d _ hd)
  obtain ⟨od, ho, _⟩ := lookIn_ns hns
  exact ⟨o, od, ⟨e1, e2, by unfold PySem.W.notCls; rw [e4] <;> rfl, by rw [e3]; exact ho⟩, ho, mA, hns, hr⟩
theorem call_isKept : CallR X (.builtin "isinstance") (rIsKept X.K) := by
  intro pins s σ H xs us Q I r h
  obtain ⟨a, D, d, fs, c, u, b, rfl, hc, ha, hd, E, k, q⟩ := h
  obtain ⟨u1, u2, rfl, r1, r2⟩ := vals2 r
  have e2 := hc.eq r2
  subst e2
  obtain rfl : u1 = Value.ref a := r1
  obtain ⟨o, od, J, _⟩ := inst_kept I ha hd
  have hcl : (PySem.W.clsIn X.K D).isSome = true := by
    have z := E.hd
    unfold PySem.W.hasDictIn at z
    cases q : PySem.W.clsIn X.K D with
    | some cd => rfl
    | none => rw [q] at z; cases z
  exact PySem.W.kia_one (PySem.W.kitx_exc hcl E.hg E.hk E.hs E.ha E.hn E.ht E.hm) I.kIn J k (fun z => nomatch z) fun tk => ⟨.bl b, H, I.tok tk, rfl, q⟩
/-- e.n of a kept error -/
def tKept (K : PySem.W.Frag) (n : Str) (te : TE) : TE := fun σ H Q => te σ H fun x H1 => ∃ (a D d : Addr) (fs : List (Str × V)) (v : V), x = .ref a ∧ H1 a = some (Kept a (.ref D) (some d)) ∧ H1 d = some (.xd fs) ∧ XfC K D ∧ PySem.W.findIn K (.ref D) n = some none ∧ fs.lookup n = some v ∧ Q v H1
theorem pe_kept (he : PE X e te) (hb : attributeBase e n X.env (eval e X.env) = eval e X.env := by rfl) : PE X (.Attribute e n pos) (tKept X.K n te) := by
  refine ⟨fun pins s σ H Q I h => attr_of hb (thn (he.run pins s σ H _ I h) fun u s1 ⟨x, H1, I1, rx, a, D, d, fs, v, ex, ha, hd, T, hno, l, q⟩ => ?_)⟩
  subst ex
  obtain rfl : u = Value.ref a := rx
  obtain ⟨o, od, J, ho, mA, hns, hr⟩ := inst_kept I1 ha hd
  obtain ⟨od', ho', hl⟩ := lookIn_ns hns
  rw [ho] at ho'
  cases ho'
  obtain ⟨y, hy, ry⟩ := RelO.some_of (v := v) (o := mA n) (by rw [← l]; exact hr n)
  exact HandSPX.exc_get I1.kIn J T.ga T.gg T.exC (PySem.W.findObj_own T.hdC hno rfl (by rw [hl, hy])) (handed_of ry) ⟨v, H1, I1.tok _, ry, q⟩
end
end NX

set_option Elab.async false
set_option linter.all false
set_option maxRecDepth 100000
set_option maxHeartbeats 4000000
/-! Rules of my own: the text that repr tells of made data, dicts in it too. -/
namespace NX
open PySem PySem.Spec PyProof.Rows L2
def keyD : Key → PyData
  | .inl i => .int i
  | .inr x => .str x
mutual
inductive Dr (K : PySem.W.Frag) (H : Hp) : V → PyData → Prop
  | non : Dr K H .non .none
  | bl (b : Bool) : Dr K H (.bl b) (.bool b)
  | int (i : Int) : Dr K H (.int i) (.int i)
  | str (x : Str) : Dr K H (.str x) (.str x)
  | lst {a : Addr} {xs : List V} {ds : List PyData} : SqL K H a xs → DrAll K H xs ds → Dr K H (.ref a) (.list ds)
  | tup {a : Addr} {xs : List V} {ds : List PyData} : SqT K H a xs → DrAll K H xs ds → Dr K H (.ref a) (.tuple ds)
  | dct {a : Addr} {kvs : List (Key × V)} {ds : List PyData} : H a = some (.dK kvs) → DrAll K H (kvs.map (·.2)) ds → Dr K H (.ref a) (.dict ((kvs.map fun p => keyD p.1).zip ds))
inductive DrAll (K : PySem.W.Frag) (H : Hp) : List V → List PyData → Prop
  | nil : DrAll K H [] []
  | cons {v : V} {vs : List V} {d : PyData} {ds : List PyData} : Dr K H v d → DrAll K H vs ds → DrAll K H (v :: vs) (d :: ds)
end
theorem DrAll.length {K : PySem.W.Frag} {H : Hp} : ∀ {vs : List V} {ds : List PyData}, DrAll K H vs ds → vs.length = ds.length
  | _, _, .nil => rfl
  | _, _, .cons _ t => congrArg (· + 1) t.length
/-- a dict stands at the place of the loaded modules -/
def SysB (h : Heap) : Prop := ∃ (o : Obj) (es : Array DictEntry) (ep : Nat), h.get? sysModules = some o ∧ o.data = .dict es ep
section
variable {X : Cx} {pins : List (Addr × Obj)} {σ : L2.St} {H : Hp} {s : Shared}
theorem key_reads {h : Heap} : ∀ {k : Key} {v : Value}, keyIs k v = true → Reads h v (keyD k) [] := fun {k v} e => by
  rcases keyIs_shape e with ⟨i, t, rfl, rfl⟩ | ⟨x, t, rfl, rfl⟩
  · exact Reads.int i t
  · exact Reads.str x t
theorem keys_read {h : Heap} {P : Program} {w : World} : ∀ {es : List DictEntry} {vs : List (Key × Value)}, Pairs (mixKind P w) es vs → ∃ as, ReadsAll h (es.map (·.key)) (vs.map fun p => keyD p.1) as ∧ as = [] ∧ es.map (·.val) = vs.map (·.2)
  | _, _, .nil => ⟨_, ReadsAll.nil, rfl, rfl⟩
  | _, _, .cons h1 h2 t => by
    obtain ⟨as, q, rfl, e⟩ := keys_read t
    exact ⟨_, ReadsAll.cons (key_reads h1) q, rfl, by rw [List.map_cons, List.map_cons, e, h2]⟩
theorem kv_vals : ∀ {ks : List (Key × V)} {vs : List (Key × Value)}, KV ks vs → Vals (ks.map (·.2)) (vs.map (·.2)) ∧ vs.map (fun p => keyD p.1) = ks.map (fun p => keyD p.1)
  | _, _, .nil => ⟨.nil, rfl⟩
  | _, _, .cons h t => by
    obtain ⟨q, e⟩ := kv_vals t
    exact ⟨.cons h.2 q, by rw [List.map_cons, List.map_cons, e, h.1]⟩
theorem zip_fst {α β : Type} : ∀ {l : List α} {m : List β}, l.length = m.length → (l.zip m).map (·.1) = l
  | [], [], _ => rfl
  | a :: l, b :: m, h => by rw [List.zip_cons_cons, List.map_cons, zip_fst (Nat.succ.inj h)]
theorem zip_snd {α β : Type} : ∀ {l : List α} {m : List β}, l.length = m.length → (l.zip m).map (·.2) = m
  | [], [], _ => rfl
  | a :: l, b :: m, h => by rw [List.zip_cons_cons, List.map_cons, zip_snd (Nat.succ.inj h)]
mutual
theorem Dr.reads (I : Inv X pins σ H s) (S : SysB X.base) : ∀ {v : V} {d : PyData}, Dr X.K H v d → ∀ (u : Value), RelV v u → ∃ as, Reads s.heap u d as ∧ sysModules ∉ as
  | _, _, .non, _, r => by
    cases r
    exact ⟨_, Reads.none, by simp⟩
  | _, _, .bl b, _, r => by
    cases r
    exact ⟨_, Reads.bool b, by simp⟩
  | _, _, .int i, _, r => by
    obtain ⟨t, rfl⟩ := r
    exact ⟨_, Reads.int i t, by simp⟩
  | _, _, .str x, _, r => by
    obtain ⟨t, rfl⟩ := r
    exact ⟨_, Reads.str x t, by simp⟩
  | _, _, .lst hs ha, _, r => by
    cases r
    obtain ⟨its, rv, ⟨o, n, ho, hc, _, hd⟩, _⟩ := I.list hs
    obtain ⟨as, hr, hn⟩ := DrAll.reads I S ha its rv
    refine ⟨_, Reads.list ho hc hd hr, fun hm => ?_⟩
    rcases List.mem_cons.mp hm with e | e
    · obtain ⟨o2, es2, ep2, k2, c2⟩ := S
      have q := (I.bs _ _ k2).1
      rw [e, ho] at q
      have q2 := Option.some.inj q
      rw [← q2, hd] at c2
      cases c2
    · exact hn e
  | _, _, .tup hs ha, _, r => by
    cases r
    obtain ⟨its, rv, ⟨o, ho, hc, n, hd⟩, _⟩ := I.tuple hs
    obtain ⟨as, hr, hn⟩ := DrAll.reads I S ha its rv
    exact ⟨_, Reads.tuple ho hc hd hr, hn⟩
  | _, _, @Dr.dct _ _ a kvs ds hs ha, _, r => by
    cases r
    obtain ⟨_, lo, vs, kv, o, es, ep, ho, hex, hd, _, hp, _⟩ := (show ObjOk X.prog X.w H s.heap a (.dK kvs) from I.hok a _ hs)
    obtain ⟨rv, ek⟩ := kv_vals kv
    obtain ⟨as, hr, hn⟩ := DrAll.reads I S ha _ rv
    obtain ⟨bs, hk, rfl, ev⟩ := keys_read (h := s.heap) hp
    have el : (kvs.map fun p => keyD p.1).length = ds.length := by
      rw [List.length_map, ← ha.length, List.length_map]
    refine ⟨_, Reads.dict ho hex.1 hd (as := []) (bs := as) (by rw [zip_fst el, ← ek]; exact hk) (by rw [zip_snd el, ev]; exact hr), fun hm => ?_⟩
    rcases List.mem_append.mp hm with e | e
    · rcases List.mem_cons.mp e with e | e
      · rw [← e] at lo
        simp at lo
      · simp at e
    · exact hn e
theorem DrAll.reads (I : Inv X pins σ H s) (S : SysB X.base) : ∀ {vs : List V} {ds : List PyData}, DrAll X.K H vs ds → ∀ (us : List Value), Vals vs us → ∃ as, ReadsAll s.heap us ds as ∧ sysModules ∉ as
  | _, _, .nil, _, r => by
    cases r
    exact ⟨_, ReadsAll.nil, by simp⟩
  | _, _, .cons h1 h2, _, r => by
    cases r with
    | cons r1 r2 =>
      obtain ⟨as, q1, n1⟩ := Dr.reads I S h1 _ r1
      obtain ⟨bs, q2, n2⟩ := DrAll.reads I S h2 _ r2
      exact ⟨_, ReadsAll.cons q1 q2, fun hm => (List.mem_append.mp hm).elim n1 n2⟩
end
/-- repr(x), x a list, a tuple or a dict -/
def rRepr (K : PySem.W.Frag) : List V → Hp → VK → Prop := fun xs H Q => ∃ (a : Addr) (d : PyData), xs = [.ref a] ∧ Dr K H (.ref a) d ∧ d.showable = true ∧ d.depth ≤ 50 ∧ d.shown.length ≤ sizeLine ∧ Q (.str d.shown) H
theorem call_repr (hg : X.A.guards = some []) (hu : X.A.units + 64 < cLine) (S : SysB X.base) : CallR X (.builtin "repr") (rRepr X.K) := by
  intro pins s σ H xs us Q I r h
  obtain ⟨a, d, rfl, hd, hs, hdp, hl, q⟩ := h
  cases r with
  | cons r1 r2 =>
    cases r2
    cases r1
    obtain ⟨as, hr, hn⟩ := Dr.reads I S hd _ rfl
    refine PySem.repr_of_reads' hr hs (fun _ => hn) hg (by omega) (fun _ _ e => e) (fun h' u tk k => ?_) hl
    exact ⟨.str d.shown, H, I.kept k, ⟨u, rfl⟩, q⟩
end
end NX

set_option Elab.async false
set_option linter.all false
set_option maxRecDepth 100000
set_option maxHeartbeats 4000000
/-! A def's promise where no repr is under way, and the call of such a def. -/
namespace NX
open PySem PySem.Spec PyProof.Rows L2
structure FnG (P : Program) (w : World) (K : PySem.W.Frag) (mg : Str → Option Value) (base : Heap) (k : Nat) (f : Addr) (fd : FuncData) (ps : List Str) (sp : Sp) : Prop where
  len : ∀ vs H Q E, sp vs H Q E → vs.length = ps.length
  run : ∀ (A : Around) (st : List Env) (s : Shared) (H : Hp) (args : Args) (us : List Value) (vs : List V) (Q : VK), A.guards = some [] → Room k A → Env0 P w K mg base A st s H → BindsTo s fd args (ps.zip us) → Vals vs us → sp vs H Q C8.E0 →
    codeAny (model P w) A (.call (.ref f) args) (CR C8.CX0 st P w H s Q C8.E0) s
section
variable {X : Cx} {k j : Nat} {f : Addr} {fd : FuncData} {ps : List Str} {sp : Sp} {x : Str} {p pos : Pos} {e : Expr} {es : List Expr} {t : TA}
theorem pe_callG (F : FnG X.prog X.w X.K X.mg X.base k f fd ps sp) (gd : X.A.guards = some []) (hr : Room j X.A) (hj : k ≤ j) (hg : Gl X x) (hm : X.mg x = some (.ref f)) (hk : PySem.W.keepIn X.K (.ref f) = true) (hb : Binds X.K fd ps []) (ha : PA X (e :: es) t)
    (hd : (x == ("__debug__" : Str)) = false := by decide) (he : starEach (e :: es) X.env = (false, eval e X.env) :: starEach es X.env := by rfl) (hpl : (backTo pos (starEach es X.env)).any (·.1) = false := by rfl) :
    PE X (.Call (.Name x p) (e :: es) [] pos) (tCall sp [] C8.E0 t) := by
  refine ⟨fun pins s σ H Q I h => wpAny_Call_Name_kw (ld_glob I hg hm ?_ hd)⟩
  refine PySem.W.callWith_K (h₀ := X.base) I.ok.mod.kin hk (thn (ha.run pos pins s σ H _ I h) fun us s1 ⟨vs, H1, I1, rv, q⟩ => ⟨I1.kIn, ?_⟩) he hpl
  have q : sp vs H1 Q C8.E0 := by simpa using q
  have hl : us.length = ps.length := by rw [← F.len _ _ _ _ q, rv.length]
  have bt := hb s1 us I1.kIn (by simpa using hl)
  refine wpAny_call (codeAny_mono (F.run X.A X.stack s1 H1 ⟨us, []⟩ us vs Q gd (hr.mono hj) I1.env0 (by simpa using bt) rv q) fun r s' hq => ?_)
  cases r with
  | error er => exact False.elim (show False from hq)
  | ok fl =>
    cases fl with
    | ret w => exact I1.after hq
    | next => exact False.elim hq
    | brk => exact False.elim hq
    | cont => exact False.elim hq
end
end NX

set_option Elab.async false
set_option linter.all false
set_option maxRecDepth 100000
set_option maxHeartbeats 4000000
/-! The end of a row whose law wants an empty guard (FnG), in my own words. -/
namespace NX
open PySem PySem.Spec PyProof.Rows L2 LamX
section
variable {P : Program} {w : World} {K : PySem.W.Frag} {mg mb : Str → Option Value} {k : Nat} {fa a : Addr} {cs : List (Addr × Addr)} {fd : FuncData} {x : Str} {sp : Sp} {z : Shared} {vs : List Value} {ns : List Int}
/-- what is tracked at first: the empty tables, and the script where it is not written -/
def trackd (K : PySem.W.Frag) (cs : List (Addr × Addr)) (a : Addr) (vs : List Value) (ns : List Int) : Hp := fun b =>
  if b ∈ cs.map (·.2) then some (.tbl #[]) else if b = a ∧ K.lookup a = none then some (.frz { cls := .type "list", data := .seq vs.toArray } (.lst (ns.map V.int))) else none
/-- the heap of the call, as the tracked one sees it -/
structure Start (P : Program) (w : World) (K : PySem.W.Frag) (cs : List (Addr × Addr)) (a : Addr) (vs : List Value) (ns : List Int) (z : Shared) : Prop where
  KX : K.In z.heap
  hT : ∀ p ∈ cs, z.heap.get? p.2 = some { cls := .none, data := .fields #[] }
  nT : ∀ p ∈ cs, K.lookup p.2 = none
  ha : z.heap.get? a = some { cls := .type "list", data := .seq vs.toArray }
  hi : IntsAre vs ns
  hl : ns.length ≤ sizeLine
theorem Start.tab (S : Start P w K cs a vs ns z) {b : Addr} (h : b ∈ cs.map (·.2)) : z.heap.get? b = some { cls := .none, data := .fields #[] } ∧ K.lookup b = none := by
  obtain ⟨p, hp, rfl⟩ := List.mem_map.mp h
  exact ⟨S.hT p hp, S.nT p hp⟩
theorem Start.ne (S : Start P w K cs a vs ns z) : a ∉ cs.map (·.2) := fun h => by
  have q := (S.tab h).1
  rw [S.ha] at q
  injection q with q
  injection q with q1 q2 q3
  cases q3
theorem Start.at_tab (S : Start P w K cs a vs ns z) : ∀ p ∈ cs, trackd K cs a vs ns p.2 = some (.tbl #[]) := fun p hp => if_pos (List.mem_map.mpr ⟨p, hp, rfl⟩)
theorem Start.sq (S : Start P w K cs a vs ns z) : SqL K (trackd K cs a vs ns) a (ns.map V.int) := by
  cases hk : K.lookup a with
  | none => exact .inl (.inr ⟨_, (if_neg S.ne).trans (if_pos ⟨rfl, hk⟩)⟩)
  | some o =>
    have e := S.KX a o hk
    rw [S.ha] at e
    cases e
    exact .inr ⟨_, vs.toArray, _, hk, rfl, rfl, rfl, by rw [List.size_toArray, S.hi.length]; exact S.hl, by simpa using vals_ints S.hi⟩
/-- a tracked place is a table, or the script -/
theorem Start.cases (S : Start P w K cs a vs ns z) {b : Addr} {u : HO} (h : trackd K cs a vs ns b = some u) : (b ∈ cs.map (·.2) ∧ u = .tbl #[]) ∨ (b = a ∧ K.lookup a = none ∧ u = .frz { cls := .type "list", data := .seq vs.toArray } (.lst (ns.map V.int))) := by
  unfold trackd at h
  split at h
  · rename_i hb
    exact .inl ⟨hb, (Option.some.inj h).symm⟩
  · split at h
    · rename_i hb
      exact .inr ⟨hb.1, hb.2, (Option.some.inj h).symm⟩
    · cases h
theorem Start.ok (S : Start P w K cs a vs ns z) : HOk P w (trackd K cs a vs ns) z.heap := fun b u h => by
  rcases S.cases h with ⟨hb, rfl⟩ | ⟨rfl, _, rfl⟩
  · exact (S.tab hb).1
  · exact ⟨S.ha, by rw [List.length_map]; exact S.hl, vs, _, vals_ints S.hi, S.ha⟩
/-- what is neither a list nor an empty row of fields is not tracked -/
theorem Start.off (S : Start P w K cs a vs ns z) {b : Addr} {o : Obj} (e : z.heap.get? b = some o) (h1 : ∀ us n, o.data ≠ .seq us n) (h2 : o.data ≠ .fields #[]) : trackd K cs a vs ns b = none := by
  cases q : trackd K cs a vs ns b with
  | none => rfl
  | some u =>
    rcases S.cases q with ⟨hb, _⟩ | ⟨rfl, _, _⟩
    · rw [(S.tab hb).1] at e
      cases e
      exact (h2 rfl).elim
    · rw [S.ha] at e
      cases e
      exact (h1 _ _ rfl).elim
theorem Start.kin (S : Start P w K cs a vs ns z) : K.In (hidT z.heap (trackd K cs a vs ns)) := fun b o e => hidT_get (S.KX b o e) (by
  cases q : trackd K cs a vs ns b with
  | none => rfl
  | some u =>
    rcases S.cases q with ⟨hb, _⟩ | ⟨rfl, hk, _⟩
    · rw [(S.tab hb).2] at e
      cases e
    · rw [hk] at e
      cases e)
theorem Start.ns_ (S : Start P w K cs a vs ns z) {b : Addr} {m : Str → Option Value} (h : z.heap.Ns b m) : (hidT z.heap (trackd K cs a vs ns)).Ns b m := by
  obtain ⟨o, es, ep, e, d, r⟩ := h
  exact ⟨o, es, ep, hidT_get e (S.off e (fun us n q => by rw [d] at q; cases q) (fun q => by rw [d] at q; cases q)), d, r⟩
theorem Start.mod (S : Start P w K cs a vs ns z) (hg : z.heap.Ns mainGlobals mg) (hb : z.heap.Ns builtinsNs mb) (hbb : ∀ y : Str, y ≠ "__name__" → mb y = bootBuiltins y) (lim : z.heap.NoLimit) : L2.Mod K mg (hidT z.heap (trackd K cs a vs ns)) :=
  ⟨S.kin, S.ns_ hg, ⟨mb, S.ns_ hb, hbb⟩, by obtain ⟨mc, h1, h2⟩ := lim; exact ⟨mc, S.ns_ h1, h2⟩⟩
theorem Start.tabB (S : Start P w K cs a vs ns z) (hg : z.heap.Ns mainGlobals mg) (C : ∀ p ∈ cs, PySem.W.CodeHd z.heap p.1 p.2)
    (hm : ∃ (bm : Addr) (ob : Obj), mg "__builtins__" = some (.ref bm) ∧ bm ≠ builtinsNs ∧ z.heap.get? bm = some ob ∧ ob.cls = .type "module" ∧ ob.dict = some builtinsNs ∧ ob.data = .plain) : ∀ p ∈ cs, TabB (hidT z.heap (trackd K cs a vs ns)) mg p.1 p.2 := fun p hp => by
  have tp := S.hT p hp
  have gne : ∀ {b : Addr} {o : Obj}, z.heap.get? b = some o → (∀ es ep, o.data ≠ .dict es ep) → b ≠ mainGlobals := fun {b o} e d q => by
    obtain ⟨og, es, ep, eg, dg, _⟩ := hg
    rw [q, eg] at e
    cases e
    exact d es ep dg
  refine ⟨?_, ?_, fun q => gne tp (by intro es ep h; cases h) q.symm⟩
  · obtain ⟨o, us, file, tf, flags, tg, inF, text, tt, e1, r⟩ := C p hp
    refine ⟨o, us, file, tf, flags, tg, inF, text, tt, hidT_get e1 (S.off e1 (fun vs n q => ?_) fun q => ?_), r⟩
    · rw [r.2.1] at q
      cases q
    · rw [r.2.1] at q
      cases q
      have q2 := r.2.2.1
      simp at q2
  · obtain ⟨bm, ob, b1, b2, b3, b4, b5, b6⟩ := hm
    refine ⟨bm, ob, b1, b2, gne b3 (by intro es ep h; rw [b6] at h; cases h), fun q => ?_, hidT_get b3 (S.off b3 (fun vs n q => by rw [b6] at q; cases q) (fun q => by rw [b6] at q; cases q)), b4, b5, b6⟩
    rw [q, tp] at b3
    cases b3
    cases b6
theorem Start.env (S : Start P w K cs a vs ns z) (hg : z.heap.Ns mainGlobals mg) (hb : z.heap.Ns builtinsNs mb) (hbb : ∀ y : Str, y ≠ "__name__" → mb y = bootBuiltins y) (lim : z.heap.NoLimit) (gs : z.gens = #[]) : Env0 P w K mg (hidT z.heap (trackd K cs a vs ns)) callerA [] z (trackd K cs a vs ns) :=
  ⟨rfl, S.mod hg hb hbb lim, fun b o e => of_hidT e, Nat.le_of_eq (hidT_size _ _), trivial, fun b q => absurd (show b ∈ ([] : List Addr) from q) (by simp), S.ok, .of_eq gs⟩
theorem Start.sys (S : Start P w K cs a vs ns z) (h : SysB z.heap) : SysB (hidT z.heap (trackd K cs a vs ns)) := by
  obtain ⟨o, es, ep, e, d⟩ := h
  exact ⟨o, es, ep, hidT_get e (S.off e (fun us n q => by rw [d] at q; cases q) (fun q => by rw [d] at q; cases q)), d⟩
/-- the call of the law: it tells True, and what stood stands -/
theorem endG (S : Start P w K cs a vs ns z) (hg : z.heap.Ns mainGlobals mg) (hb : z.heap.Ns builtinsNs mb) (hbb : ∀ y : Str, y ≠ "__name__" → mb y = bootBuiltins y) (lim : z.heap.NoLimit) (gs : z.gens = #[]) (C : ∀ p ∈ cs, PySem.W.CodeHd z.heap p.1 p.2)
    (hm : ∃ (bm : Addr) (ob : Obj), mg "__builtins__" = some (.ref bm) ∧ bm ≠ builtinsNs ∧ z.heap.get? bm = some ob ∧ ob.cls = .type "module" ∧ ob.dict = some builtinsNs ∧ ob.data = .plain) (hr : Room k callerA) (hs : SysB z.heap)
    (F : ∀ base : Heap, K.In base → base.Ns mainGlobals mg → (∀ p ∈ cs, TabB base mg p.1 p.2) → SysB base → FnG P w K mg base k fa fd [x] sp) (bind : ∀ (t : Shared) (u : Value), BindsTo t fd ⟨[u], []⟩ [(x, u)])
    (ask : ∀ H : Hp, (∀ p ∈ cs, H p.2 = some (.tbl #[])) → SqL K H a (ns.map V.int) → sp [.ref a] H (fun v _ => v = .bl true) C8.E0) :
    codeAny (model P w) callerA (.call (.ref fa) ⟨[.ref a], []⟩) (fun r t => r = .ok (.ret (.bool true)) ∧ OldK z.heap t.heap ∧ t.os = z.os ∧ AllBare t.gens) z := by
  refine codeAny_mono ((F _ S.kin (S.ns_ hg) (S.tabB hg C hm) (S.sys hs)).run callerA [] z _ ⟨[.ref a], []⟩ [.ref a] [.ref a] _ rfl hr (S.env hg hb hbb lim gs) (bind z (.ref a)) (.cons rfl .nil) (ask _ S.at_tab S.sq)) fun r t h => ?_
  cases r with
  | error e => exact False.elim (show False from h)
  | ok fl =>
    cases fl with
    | next => exact False.elim h
    | brk => exact False.elim h
    | cont => exact False.elim h
    | ret u =>
      obtain ⟨v, H', os, bare, un, ok', ru, q⟩ := h
      have q : v = .bl true := q
      subst q
      obtain rfl : u = Value.bool true := ru
      have kept : ∀ b o, b ∉ cs.map (·.2) → z.heap.get? b = some o → t.heap.get? b = some o := fun b o nb e => by
        cases y : trackd K cs a vs ns b with
        | none => exact un.keep b o e y (by intro n; exact absurd (show b ∈ ([] : List Addr) from n) (by simp)) (by simp)
        | some u =>
          rcases S.cases y with ⟨hb, _⟩ | ⟨rfl, _, rfl⟩
          · exact absurd hb nb
          · obtain ⟨e2, _⟩ := ok' _ _ (un.frzs _ _ _ y)
            rw [S.ha] at e
            cases e
            exact e2
      have grow : ∀ p ∈ cs, ∃ more : Array Value, t.heap.get? p.2 = some { cls := .none, data := .fields more } := fun p hp => by
        obtain ⟨more, y⟩ := un.tbls p.2 #[] (S.at_tab p hp)
        exact ⟨_, ok' p.2 _ y⟩
      refine ⟨rfl, ⟨fun b o e => ?_, fun b o e => ?_⟩, os, bare⟩
      · by_cases hb : b ∈ cs.map (·.2)
        · obtain ⟨p, hp, rfl⟩ := List.mem_map.mp hb
          obtain ⟨more, hmo⟩ := grow p hp
          rw [S.hT p hp] at e
          cases e
          exact .inr (.inl ⟨((C p hp).tab (S.hT p hp)).isCodeTable, rfl, #[], more, rfl, by rw [Array.empty_append]; exact hmo⟩)
        · exact .inl (kept b o hb e)
      · by_cases hb : b ∈ cs.map (·.2)
        · obtain ⟨p, hp, rfl⟩ := List.mem_map.mp hb
          obtain ⟨more, hmo⟩ := grow p hp
          exact ⟨_, hmo⟩
        · exact ⟨o, kept b o hb e⟩
end
/-- what the head has to tell of the law at fa -/
structure LawG (l : PySem.W.OpenLaw) (w : World) (K : PySem.W.Frag) (k n : Nat) (x : Str) (mg : Str → Option Value) (fa : Addr) (h : Heap) (fd : FuncData) (cs : List (Addr × Addr)) (sp : Sp) : Prop where
  hT : ∀ p ∈ cs, h.get? p.2 = some { cls := .none, data := .fields #[] }
  nT : ∀ p ∈ cs, K.lookup p.2 = none
  C : ∀ p ∈ cs, PySem.W.CodeHd h p.1 p.2
  bind : ∀ (t : Shared) (u : Value), BindsTo t fd ⟨[u], []⟩ [(x, u)]
  ask : ∀ (H : Hp) (a : Addr) (ns : List Int), ns.length ≤ n → (∀ p ∈ cs, H p.2 = some (.tbl #[])) → SqL K H a (ns.map V.int) → sp [.ref a] H (fun v _ => v = .bl true) C8.E0
  F : ∀ base : Heap, K.In base → base.Ns mainGlobals mg → (∀ p ∈ cs, TabB base mg p.1 p.2) → SysB base → FnG l.prog w K mg base k fa fd [x] sp
theorem walkG {l : PySem.W.OpenLaw} {n k : Nat} {q : Program} {loose : List Str} {XP : (Str → Option Value) → Heap → Prop} {YP : World → Heap → Prop} {d : DefRec} {K : Params → PySem.W.Frag} {x : Str} (hn : l.most = some n) (hn2 : n ≤ sizeLine) (hdf : d.params.defaults = []) (hr : Room k callerA) (hi : importsNone q = true)
    (hY : ∀ (w : World) (h : Heap), YP w h → (K w.params).In h) (G : ∀ (w : World) (mg : Str → Option Value) (fa : Addr) (h : Heap), YP w h → (K w.params).In h → h.Ns mainGlobals mg → mg d.name = some (.ref fa) → ∃ fd cs sp, LawG l w (K w.params) k n x mg fa h fd cs sp) :
    PySem.W.WalkO q loose XP YP l.row.toRowW d [] (fun f vs => PySem.call f vs) := by
  refine Att.attach_callB hn hdf fun w s₀ s₁ mg mb fa o pm cd doc a vs ns T Y ho hd hcd hmg hobj hints hlen hbits hgen => ?_
  have KX := hY w _ Y
  obtain ⟨fd, cs, sp, L⟩ := G w mg fa _ Y KX T.T.g hmg
  exact endG ⟨KX, L.hT, L.nT, hobj, hints, Nat.le_trans hlen hn2⟩ T.T.g T.T.b T.T.builtins T.T.nolimit hgen L.C T.T.bmain hr (by obtain ⟨mm, ⟨o, es, ep, e, d, _⟩, _⟩ := (T.T.seer hi).mods; exact ⟨o, es, ep, e, d⟩) L.F L.bind (fun H h1 h2 => L.ask H a ns hlen h1 h2)
end NX

set_option Elab.async false
set_option linter.all false
set_option maxRecDepth 100000
set_option maxHeartbeats 4000000
/-! A rule of my own: C.m(k=e, ..), m a classmethod, by keywords alone. -/
namespace NX
open PySem PySem.Spec PyProof.Rows L2
section
variable {X : Cx} {CX : CXT} {k : Nat} {C p g : Addr} {mc : Value} {sp : Sp} {E : XK} {o : Expr} {kws : List Keyword} {m : Str} {pos apos : Pos} {ta : TE} {t : TA} {pl : Sem Bool} {fd : FuncData} {ps ks : List Str}
theorem pe_cmethK (he : PE X o ta) (r : ClX.CRead X.K C mc) (c : ClX.CMet X.K C mc m p g) (F : FnOk X.prog X.w X.K X.mg X.base CX k g fd ps sp) (hb : ∀ (s : Shared) (us : List Value), us.length + 1 = ps.length → BindsTo s fd ⟨[.ref C], ks.zip us⟩ (ps.zip (.ref C :: us)))
    (hr : Room k X.A) (hx : Passes CX X E) (ha : PK X kws t) (hall : (backToKw pos (keywordEach kws X.env)).all (·.1.isSome) = true := by rfl) (hks : (backToKw pos (keywordEach kws X.env)).filterMap (·.1) = ks := by rfl)
    (hpl : ((backTo pos (starEach [] X.env)).any (·.1) || (backToKw pos (keywordEach kws X.env)).any (·.1.isNone)) = false := by rfl)
    (ht : eval (.Call (.Attribute o m apos) [] kws pos) X.env = (do
      let ov ← eval o X.env
      standAt apos.atName
      let (f, first) ← holding [ov] (getMethod ov m pl)
      callWith pos f first (backTo pos (starEach [] X.env)) (backToKw pos (keywordEach kws X.env))) := by rfl) :
    PE X (.Call (.Attribute o m apos) [] kws pos) (ClX.tCMeth C sp E ta t) := by
  refine ⟨fun pins s σ H Q I h => PySem.W.methodCall_KW (pl := pl) (thn (he.run pins s σ H _ I h) fun u s1 ⟨x, H1, I1, rx, ex, q⟩ => ?_) ht⟩
  subst ex
  obtain rfl : u = Value.ref C := rx
  refine ClX.getmethcm_ok I1 r c fun s2 I2 => ?_
  refine PySem.W.callWith_of hpl (PySem.W.keeps_M (K := X.K) (self := .ref C) c.fi) (PyProof.Rows.evalArgs_kw2_nil hall (thn (ha.run pos _ s2 σ H1 _ I2 q) fun us s3 ⟨vs, H2, I3, rv, q2⟩ => ⟨⟨ClX.pin_at I3, I3.kIn⟩, ?_⟩))
  rw [hks]
  have r2 : Vals (V.ref C :: vs) (Value.ref C :: us) := .cons rfl rv
  have hl : us.length + 1 = ps.length := by
    have z := F.len _ _ _ _ q2
    rw [← z, r2.length]
    rfl
  have z : wpAny (model X.prog X.w) X.A (call (.ref s1.heap.objs.size) ([] ++ []) (ks.zip us)) (EP X ((s1.heap.objs.size, PySem.W.methodObj (.ref g) (.ref C)) :: pins) σ Q) X.xe s3 := by
    refine wpAny_call (PySem.W.method_call (ClX.pin_at I3) (codeAny_mono (F.run X.A X.stack s3 H2 ⟨[.ref C], ks.zip us⟩ (.ref C :: us) (.ref C :: vs) Q E hr I3.env0 (hb s3 us hl) r2 q2) fun r s' hq => ?_))
    cases r with
    | error er => exact hx _ σ H2 s3 er s' I3 hq
    | ok fl =>
      cases fl with
      | ret w => exact I3.after hq
      | next => exact False.elim hq
      | brk => exact False.elim hq
      | cont => exact False.elim hq
  exact thn z fun _ _ y => ClX.unpinE y
end
end NX

set_option Elab.async false
set_option linter.all false
set_option maxRecDepth 100000
set_option maxHeartbeats 4000000
/-! Rules of my own: == and != of an object whose class has an own equality; any answer, any other side. -/
namespace NX
open PySem PySem.Spec PyProof.Rows L2
/-- what the class at C says of == and != -/
structure EqC (K : PySem.W.Frag) (C f : Addr) : Prop where
  cl : Cls K C
  eq : PySem.W.findIn K (.ref C) "__eq__" = some (some (.ref f))
  ne : PySem.W.findIn K (.ref C) "__ne__" = some (some (.builtin "object.__ne__"))
  fn : PySem.W.isFn K (.ref f) = true
  ob : PySem.W.mroIn K C (.type "object") = some true
section
variable {X : Cx} {n : Nat} {f : Addr} {fd : FuncData} {ps : List Str} {sp : Sp} {CX : CXT} {E : XK}
/-- the own equality is called by the machine -/
theorem run_own (F : FnOk X.prog X.w X.K X.mg X.base CX n f fd ps sp) (hb : Binds X.K fd ps []) (hx : Passes CX X E) {A : Around} {pins : List (Addr × Obj)} {σ : L2.St} {H : Hp} {s : Shared} {x y : V} {u v : Value} {Q : VK}
    (sb : Sub X n A) (I : Inv X pins σ H s) (rx : RelV x u) (ry : RelV y v) (q : sp [x, y] H Q E) : wpAny (model X.prog X.w) A (call (.ref f) [u, v]) (EP X pins σ Q) X.xe s := by
  have e := I.env0
  have e0 : Env0 X.prog X.w X.K X.mg X.base A X.stack s H := ⟨by rw [sb.fr]; exact e.frames, e.mod, e.bs, e.bsz, e.funs, e.frf, e.hok, e.bare⟩
  have hl : [u, v].length = ps.length := (F.len _ _ _ _ q)
  have r2 : Vals [x, y] [u, v] := .cons rx (.cons ry .nil)
  refine wpAny_call (codeAny_mono (F.run A X.stack s H ⟨[u, v], []⟩ [u, v] [x, y] Q E sb.room e0 (by
    have z := hb s [u, v] I.kIn (by simpa using hl)
    simpa using z) r2 q) fun r s' hq => ?_)
  cases r with
  | error er => exact hx pins σ H s er s' I hq
  | ok fl =>
    cases fl with
    | ret w => exact I.after hq
    | next => exact False.elim hq
    | brk => exact False.elim hq
    | cont => exact False.elim hq
def rOwn (K : PySem.W.Frag) (f : Addr) (sp : Sp) (E : XK) (neg : Bool) : R2 := fun x y H Q => ∃ (a C dx : Addr) (fs : List (Str × V)) (tb : Value), x = .ref a ∧ H a = some (.ins C dx fs) ∧ EqC K C f ∧ PySem.W.notFirst K C tb = true ∧ TyX K H y tb ∧
  sp [x, y] H (fun v H' => ∃ b, v = .bl b ∧ Q (.bl (if neg then !b else b)) H') E
theorem op_eqOwn (F : FnOk X.prog X.w X.K X.mg X.base CX n f fd ps sp) (hb : Binds X.K fd ps []) (hx : Passes CX X E) (hr : Room n X.A) : OpR X (compareOp .Eq) (rOwn X.K f sp E false) := by
  intro pins s σ H x y u v Q I rx ry h
  obtain ⟨a, C, dx, fs, tb, rfl, ha, T, nf, ty, q⟩ := h
  obtain rfl : u = Value.ref a := rx
  obtain ⟨mA, O, _⟩ := ins_get I.hok ha
  obtain ⟨od, J, _⟩ := O.look
  obtain ⟨m, fr⟩ := I.fr
  obtain ⟨P, Z, p, _⟩ := kit_of I ry ty
  show wpAny (model X.prog X.w) X.A (richCompare .Eq (.ref a) v) (EP X pins σ Q) X.xe s
  refine PySem.W.cmp_K (op := .Eq) (tb := tb) hr.units0 fr I.ok.mod.kin J (Z.ty _ _ I.kIn p) nf T.eq T.fn ?_
  refine wpAny_mono (run_own (x := .ref a) F hb hx ⟨hr, rfl⟩ I rfl ry q) (fun r s' hq => ?_) fun _ _ z => z
  obtain ⟨w, H', I', rw', b, rfl, q'⟩ := hq
  obtain rfl : r = Value.bool b := rw'
  exact ⟨.bl b, H', I', rfl, q'⟩
end
end NX
namespace NX
open PySem PySem.W PyProof.Rows Builtin
section
variable {prog : Program} {w : World} {A : Around} {E : Value → Shared → Prop} {s : Shared} {K : Frag} {x C f : Addr} {ox : Obj} {od : Option Obj} {b tb : Value}
/-- object.__ne__ found by the class is bound and called -/
theorem bound_ne {M : Model} {args : List Value} {Q : Option Value → Shared → Prop} (X : K.In s.heap) (I : InstAt s.heap x ox C od) (hs : findIn K (.ref C) "__ne__" = some (some (.builtin "object.__ne__")))
    (h : wpAny M A (call (.builtin "object.__ne__") (.ref x :: args)) (fun v => Q (some v)) E s) : wpAny M A (callSpecialIfBound? (.ref x) "__ne__" args) Q E s := by
  simp only [callSpecialIfBound?, bindSpecialIfBound?]
  refine wpAny_holding (wpAny_bind (wpAny_bind (wpAny_bind (I.type.here ((looks_findIn X hs).here ?_)))))
  simp only [F.cmp_object.ne.bind]
  have last : wpAny M A (call (.builtin "object.__ne__") ([.ref x] ++ args) >>= fun v => pure (some v)) Q E s := wpAny_bind (wpAny_mono h (fun v s' q => wpAny_pure q) fun _ _ q => q)
  refine wpAny_bind (wpAny_askSetting (wpAny_ite ?_))
  split
  · exact wpAny_bind (wpAny_pure (wpAny_pure last))
  · exact wpAny_tryCatch (wpAny_bind (wpAny_pure (wpAny_pure last)))
/-- .. and asks the own equality, whose answer it turns -/
theorem call_ne {Q : Value → Shared → Prop} (hu : A.units + 1 < cLine) (X : K.In s.heap) (I : InstAt s.heap x ox C od) (he : findIn K (.ref C) "__eq__" = some (some (.ref f))) (hf : isFn K (.ref f) = true) (ho : mroIn K C (.type "object") = some true)
    (h : wpAny (model prog w) A.in1 (call (.ref f) [.ref x, b]) (fun v s' => ∃ k, v = .bool k ∧ Q (.bool (!k)) s') E s) : wpAny (model prog w) A (call (.builtin "object.__ne__") [.ref x, b]) Q E s := by
  obtain ⟨hp, g, d, t, os⟩ := s
  have sub : Looks (model prog w) hp (isInstance (.ref x) (.type "object")) true := I.type.andThen (looks_mroIn X ho)
  refine wpAny_call (codeAny_call_builtin F.cmp_object.ne.plain F.cmpEntry_ne (@check_slot (model prog w) _ _ ⟨hp, g, d, t, os⟩ "object.__ne__" "object" "__ne__" (.ref x) [b] [] _ F.cmpKind_ne F.cmpSplit_ne sub (F.cmpArgs_ne _ _) ?_))
  unfold Builtin.«object.__ne__»
  repeat (first
    | with_reducible refine wpAny_cRoomFor (show A.in1.units < cLine from hu) ?_
    | (refine wpAny_bind (m := callSpecialIfBound? (.ref x) (Str.ofString "__eq__") [b]) (ifBound_K X I he hf (wpAny_mono h (fun r s' hr => ?_) fun _ _ e => e)))
    | wp_step)
  obtain ⟨k, rfl, q⟩ := hr
  exact wpAny_bind (wpAny_truthy_bool (wpAny_pure q))
/-- x != b -/
theorem rich_ne {Q : Value → Shared → Prop} (hu : A.units + 1 < cLine) (X : K.In s.heap) (I : InstAt s.heap x ox C od) (hb : Looks (model prog w) s.heap (typeOf b) tb) (hn : notFirst K C tb = true) (hs : findIn K (.ref C) "__ne__" = some (some (.builtin "object.__ne__")))
    (he : findIn K (.ref C) "__eq__" = some (some (.ref f))) (hf : isFn K (.ref f) = true) (ho : mroIn K C (.type "object") = some true)
    (h : wpAny (model prog w) A.in1 (call (.ref f) [.ref x, b]) (fun v s' => ∃ k, v = .bool k ∧ Q (.bool (!k)) s') E s) : wpAny (model prog w) A (richCompare .NotEq (.ref x) b) Q E s := by
  have one : wpAny (model prog w) A (tryCompare (.ref x) "__ne__" b) (fun r s' => ∃ k, r = some (.bool k) ∧ Q (.bool k) s') E s := by
    unfold tryCompare
    refine wpAny_bind (bound_ne X I hs (call_ne (Q := fun v s' => ∃ k, v = .bool k ∧ Q (.bool k) s') hu X I he hf ho (wpAny_mono h (fun v s' ⟨k, e, q⟩ => ⟨k, e, _, rfl, q⟩) fun _ _ e => e) |> fun z => wpAny_mono z (fun v s' ⟨k, e, q⟩ => ?_) fun _ _ e => e))
    subst e
    exact wpAny_pure ⟨k, rfl, q⟩
  unfold richCompare
  simp only [oneThing_ref]
  refine wpAny_holding (wpAny_bind (wpAny_cRoomFor (Nat.lt_of_succ_lt hu) ?_))
  rw [cmpInfo_NotEq]
  dsimp only
  refine wpAny_bind (I.type.here (wpAny_bind (hb.here ?_)))
  split
  · rename_i q
    have e : subIn K tb (.ref C) = some false := by
      rcases Bool.or_eq_true_iff.mp hn with e | e
      · rw [beq_iff_eq.mp e] at q
        simp at q
      · exact beq_iff_eq.mp e
    refine wpAny_bind ((looks_subIn X e).here ?_)
    simp only [Bool.false_eq_true, if_false]
    refine wpAny_bind (wpAny_mono one (fun r s' ⟨k, z, hq⟩ => ?_) fun _ _ e => e)
    subst z
    exact wpAny_pure hq
  · refine wpAny_bind (wpAny_pure ?_)
    simp only [Bool.false_eq_true, if_false]
    refine wpAny_bind (wpAny_mono one (fun r s' ⟨k, z, hq⟩ => ?_) fun _ _ e => e)
    subst z
    exact wpAny_pure hq
end
end NX
namespace NX
open PySem PySem.Spec PyProof.Rows L2
section
variable {X : Cx} {n : Nat} {f : Addr} {fd : FuncData} {ps : List Str} {sp : Sp} {CX : CXT} {E : XK}
theorem op_neOwn (F : FnOk X.prog X.w X.K X.mg X.base CX n f fd ps sp) (hb : Binds X.K fd ps []) (hx : Passes CX X E) (hr : Room (n + 1) X.A) : OpR X (compareOp .NotEq) (rOwn X.K f sp E true) := by
  intro pins s σ H x y u v Q I rx ry h
  obtain ⟨a, C, dx, fs, tb, rfl, ha, T, nf, ty, q⟩ := h
  obtain rfl : u = Value.ref a := rx
  obtain ⟨mA, O, _⟩ := ins_get I.hok ha
  obtain ⟨od, J, _⟩ := O.look
  obtain ⟨P, Z, p, _⟩ := kit_of I ry ty
  show wpAny (model X.prog X.w) X.A (richCompare .NotEq (.ref a) v) (EP X pins σ Q) X.xe s
  refine rich_ne (hu_of hr) I.kIn J (Z.ty _ _ I.kIn p) nf T.ne T.eq T.fn T.ob (wpAny_mono (run_own (x := .ref a) F hb hx ⟨hr.in1, rfl⟩ I rfl ry q) (fun r s' hq => ?_) fun _ _ z => z)
  obtain ⟨w, H', I', rw', b, rfl, q'⟩ := hq
  obtain rfl : r = Value.bool b := rw'
  exact ⟨b, rfl, .bl (!b), H', I', rfl, q'⟩
end
end NX

set_option Elab.async false
set_option linter.all false
set_option maxRecDepth 100000
set_option maxHeartbeats 4000000
/-! What the head tells of classes, errors and defs, in bundles. -/
namespace NX
open PySem L2 LamX PySem.Spec PyProof.Rows
section
variable {K : PySem.W.Frag}
theorem kit_self {C : Addr} : PySem.W.kitOne K (.ref C) (.ref C) = some true := by
  unfold PySem.W.kitOne
  rw [if_pos (beq_self_eq_true _)]
theorem kitCls_of {t : Value} {D : Addr} {b : Bool} (i : PySem.W.isClsIn K D = true) (ty : PySem.W.typeIn K (.ref D) = some (.type "type")) (s : PySem.W.subIn K t (.ref D) = some b) : PySem.W.kitCls K t (.ref D) = some b := by
  have e : ((PySem.W.clsIn K D).isSome && PySem.W.typeIn K (.ref D) == some (.type "type")) = true := by
    have i' : (PySem.W.clsIn K D).isSome = true := i
    rw [i', ty] <;> rfl
  show (if ((PySem.W.clsIn K D).isSome && PySem.W.typeIn K (.ref D) == some (.type "type")) = true then PySem.W.subIn K t (.ref D) else none) = some b
  rw [if_pos e]
  exact s
theorem kit_of {t : Value} {D : Addr} {b : Bool} (ne : (t == .ref D) = false) (i : PySem.W.isClsIn K D = true) (ty : PySem.W.typeIn K (.ref D) = some (.type "type")) (s : PySem.W.subIn K t (.ref D) = some b) : PySem.W.kitOne K t (.ref D) = some b := by
  unfold PySem.W.kitOne
  rw [if_neg (by rw [ne]; exact Bool.false_ne_true)]
  exact kitCls_of i ty s
theorem kit_ref {C D : Addr} {b : Bool} (ne : decide (C = D) = false) (i : PySem.W.isClsIn K D = true) (ty : PySem.W.typeIn K (.ref D) = some (.type "type")) (s : PySem.W.subIn K (.ref C) (.ref D) = some b) : PySem.W.kitOne K (.ref C) (.ref D) = some b :=
  kit_of (by
    have n : C ≠ D := of_decide_eq_false ne
    cases q : ((.ref C : Value) == .ref D) with
    | false => rfl
    | true =>
      have z : (Value.ref C) = .ref D := eq_of_beq q
      cases z
      exact absurd rfl n) i ty s
theorem kit_tyr {T : String} {D : Addr} {b : Bool} (i : PySem.W.isClsIn K D = true) (ty : PySem.W.typeIn K (.ref D) = some (.type "type")) (s : PySem.W.subIn K (.type T) (.ref D) = some b) : PySem.W.kitOne K (.type T) (.ref D) = some b :=
  kit_of (by
    cases q : ((.type T : Value) == .ref D) with
    | false => rfl
    | true =>
      have z : (Value.type T) = .ref D := eq_of_beq q
      cases z) i ty s
theorem kit_rty {T : String} {C : Addr} {b : Bool} (m : PySem.W.kitMeta T = true) (s : PySem.W.subIn K (.ref C) (.type T) = some b) : PySem.W.kitOne K (.ref C) (.type T) = some b := by
  have ne : ((.ref C : Value) == .type T) = false := by
    cases q : ((.ref C : Value) == .type T) with
    | false => rfl
    | true =>
      have z : (Value.ref C) = .type T := eq_of_beq q
      cases z
  unfold PySem.W.kitOne
  rw [if_neg (by rw [ne]; exact Bool.false_ne_true)]
  show (if PySem.W.kitMeta T = true then PySem.W.subIn K (.ref C) (.type T) else none) = some b
  rw [if_pos m]
  exact s
theorem exm_of {C S : Addr} {b : Bool} (h1 : PySem.W.subIn K (.ref S) (.type "BaseException") = some true) (i : PySem.W.isClsIn K S = true) (ty : PySem.W.typeIn K (.ref S) = some (.type "type")) (s : PySem.W.subIn K (.ref C) (.ref S) = some b) : PySem.W.exmOne K (.ref C) (.ref S) = some b := by
  have e1 : (PySem.W.subIn K (.ref S) (.type "BaseException") == some true) = true := by rw [h1] <;> rfl
  show (if (PySem.W.subIn K (.ref S) (.type "BaseException") == some true) = true then PySem.W.kitCls K (.ref C) (.ref S) else none) = some b
  rw [if_pos e1]
  exact kitCls_of i ty s
/-- a def as it stands in the written part -/
structure FnF (K : PySem.W.Frag) (x q : Str) (st : Stmt) (f : Addr) : Prop where
  ex : ∃ fd, Fun K x q st f fd
theorem fnF {x q : Str} {st : Stmt} {f : Addr} {oc : Value} {od an : Option Addr} {osl : Array (Option Value)} {kV doc pm cdv ct : Value} (l : K.lookup f = some ⟨oc, od, .func (PySem.W.fnOf x q (defArgs st) (defBody st) (defScope st) .none kV doc pm an cdv ct), osl⟩)
    (c : PySem.W.codeIn K cdv q = true) (k : PySem.W.keepIn K (.ref f) = true) : FnF K x q st f := ⟨⟨_, fun_mk l c k⟩⟩
/-- a def of ours, with its code object -/
structure FunC (K : PySem.W.Frag) (x : Str) (st : Stmt) (f : Addr) (fd : FuncData) (c : Addr) : Prop where
  ex : ∃ oc od kV doc pm an ct osl, fd = PySem.W.fnOf x x (defArgs st) (defBody st) (defScope st) .none kV doc pm an (.ref c) ct ∧ K.lookup f = some ⟨oc, od, .func fd, osl⟩ ∧ PySem.W.codeIn K (.ref c) x = true
  kp : PySem.W.keepIn K (.ref f) = true
/-- .. and the table of that -/
structure FnT (K : PySem.W.Frag) (x : Str) (st : Stmt) (f c Pc : Addr) : Prop where
  ex : ∃ fd, FunC K x st f fd c
  hd : PySem.W.codeHdIn K c Pc = true
theorem fnT {x : Str} {st : Stmt} {f c Pc : Addr} {oc e1 : Value} {od an e2 : Option Addr} {osl sl : Array (Option Value)} {kV doc pm ct : Value} {vs : Array Value}
    (l : K.lookup f = some ⟨oc, od, .func (PySem.W.fnOf x x (defArgs st) (defBody st) (defScope st) .none kV doc pm an (.ref c) ct), osl⟩)
    (cd : PySem.W.codeIn K (.ref c) x = true) (k : PySem.W.keepIn K (.ref f) = true) (lc : K.lookup c = some ⟨e1, e2, .fields vs, sl⟩) (h11 : vs[11]? = some (.ref Pc)) (hd : PySem.W.codeHdIn K c Pc = true) : FnT K x st f c Pc :=
  ⟨⟨_, ⟨oc, od, kV, doc, pm, an, ct, osl, rfl, l, cd⟩, k⟩, hd⟩
end
theorem FunC.binds {K : PySem.W.Frag} {x : Str} {st : Stmt} {f c : Addr} {fd : FuncData} {ps : List Str} (F : FunC K x st f fd c) (hb : ∀ (kV doc pm : Value) (an : Option Addr) (ct : Value) (us : List Value), us.length = ps.length → bindArgs (PySem.W.fnOf x x (defArgs st) (defBody st) (defScope st) .none kV doc pm an (.ref c) ct) ⟨us, []⟩ = pure (ps.zip us)) : Binds K fd ps [] := by
  obtain ⟨oc, od, kV, doc, pm, an, ct, osl, rfl, lk, hcd⟩ := F.ex
  exact .all fun us hl => hb kV doc pm an ct us hl
/-- an error of ours, which keeps the field y -/
structure ErrF (K : PySem.W.Frag) (x y : Str) (C fI CS : Addr) : Prop where
  g : PySem.W.nsIn K mainGlobals x = some (some (.ref C))
  i : PySem.W.findIn K (.ref C) "__init__" = some (some (.ref fI))
  t : PySem.W.typeIn K (.ref fI) = some (.type "function")
  cls : ∃ nm q N bs sn sub ab col dd k0 k1 k2 k3 k5, K.lookup C = some (excClassObj nm q C N bs [.ref CS, .type "ValueError", .type "Exception", .type "BaseException", .type "object"] true sn sub ab col dd k0 k1 k2 k3 k5 "ValueError.__new__")
  sa : PySem.W.findIn K (.ref C) "__setattr__" = some (some (.builtin "object.__setattr__"))
  ex : PySem.W.subIn K (.ref C) (.type "BaseException") = some true
  ty : PySem.W.typeIn K (.ref C) = some (.type "type")
  kp : PySem.W.keepIn K (.ref C) = true
  v : PySem.W.findIn K (.ref C) y = some none
  ga : PySem.W.findIn K (.ref C) "__getattribute__" = some (some (.builtin "BaseException.__getattribute__"))
  gg : PySem.W.findIn K (.ref C) "__getattr__" = some none
  hd : PySem.W.hasDictIn K C = true
  cl : PySem.W.findIn K (.ref C) "__class__" = some (some (.builtin "object.__class__"))
  ob : PySem.W.mroIn K C (.type "object") = some true
  ic : PySem.W.isClsIn K C = true
  sS : PySem.W.subIn K (.ref C) (.ref CS) = some true
  sV : PySem.W.subIn K (.ref C) (.type "ValueError") = some true
theorem refs5 (CS : Addr) : PySem.HandSPX.refsVE [.ref CS, .type "ValueError", .type "Exception", .type "BaseException", .type "object"] = true := by
  show PySem.HandSPX.refsVE [.type "ValueError", .type "Exception", .type "BaseException", .type "object"] = true
  decide +kernel
/-- what is asked of the base of the errors, and of isinstance -/
structure BaseF (K : PySem.W.Frag) (CS : Addr) : Prop where
  g : PySem.W.nsIn K mainGlobals "StowError" = some (some (.ref CS))
  sB : PySem.W.subIn K (.ref CS) (.type "BaseException") = some true
  sI : PySem.W.isClsIn K CS = true
  sT : PySem.W.typeIn K (.ref CS) = some (.type "type")
  hn : PySem.W.specialIn K (.builtin "object.__class__") "__get__" = some (some (.builtin "getset_descriptor.__get__"))
  ht : PySem.W.takesIn K (.builtin "object.__class__") = some true
/-- a class of ours, made by an __init__ -/
structure ClsF (K : PySem.W.Frag) (x : Str) (C fI : Addr) : Prop where
  g : PySem.W.nsIn K mainGlobals x = some (some (.ref C))
  pg : PySem.W.plainGet K C Str.empty = true
  hd : PySem.W.hasDictIn K C = true
  po : PySem.W.plainOver K C = true
  sa : PySem.W.findIn K (.ref C) "__setattr__" = some (some (.builtin "object.__setattr__"))
  mkC : PySem.W.makesIn K C = true
  ini : PySem.W.findIn K (.ref C) "__init__" = some (some (.ref fI))
  ifn : PySem.W.isFn K (.ref fI) = true
  kp : PySem.W.keepIn K (.ref C) = true
theorem ClsF.cls {K : PySem.W.Frag} {x : Str} {C fI : Addr} (F : ClsF K x C fI) : Cls K C := ⟨F.pg, F.hd, F.po, F.sa⟩
theorem ClsF.mak {K : PySem.W.Frag} {x : Str} {C fI : Addr} (F : ClsF K x C fI) : Mk K C fI := ⟨F.mkC, F.ini, F.ifn, F.kp⟩
/-- a classmethod read off a class -/
structure CmF (K : PySem.W.Frag) (C : Addr) (m : Str) (p g : Addr) : Prop where
  at_ : PySem.W.findCls K (.ref C) (.type "type") m = some (.get (.builtin "classmethod.__get__") (.ref p) .none (.ref C))
  rc : ∃ rest, PySem.W.recIn K p "classmethod" = some (.ref g :: rest)
  fi : PySem.W.fnIn K g = true
structure RdF (K : PySem.W.Frag) (C : Addr) : Prop where
  rd : PySem.W.readsIn K C (.type "type") = true
  ga : PySem.W.specialIn K (.ref C) "__getattribute__" = some (some (.builtin "type.__getattribute__"))
section
variable {P : Program} {w : World} {K : PySem.W.Frag} {mg : Str → Option Value} {base h : Heap}
theorem ErrF.O {x y : Str} {C fI CS : Addr} (E : ErrF K x y C fI CS) : OexC K C := by
  obtain ⟨nm, q, N, bs, sn, sub, ab, col, dd, k0, k1, k2, k3, k5, e⟩ := E.cls
  exact ⟨⟨nm, q, N, bs, _, sn, sub, ab, col, dd, k0, k1, k2, k3, k5, e, refs5 CS⟩, E.sa, E.ex, E.ty, E.kp⟩
theorem ErrF.ec {x y : Str} {C fI CS : Addr} (E : ErrF K x y C fI CS) (B : BaseF K CS) : ExcC K C := ⟨E.ga, E.gg, E.ex, E.hd, E.cl, B.hn, B.ht, E.ob⟩
theorem ErrF.xf {x y : Str} {C fI CS : Addr} (E : ErrF K x y C fI CS) : XfC K C := ⟨E.ga, E.gg, E.ex, E.hd⟩
theorem ErrF.exm {x y : Str} {C fI CS : Addr} (E : ErrF K x y C fI CS) (B : BaseF K CS) : PySem.W.exmOne K (.ref C) (.ref CS) = some true := exm_of B.sB B.sI B.sT E.sS
theorem ErrF.ve {x y : Str} {C fI CS : Addr} (E : ErrF K x y C fI CS) : PySem.W.kitOne K (.ref C) (.type "ValueError") = some true := kit_rty (by decide +kernel) E.sV
/-- the tables of the lambdas: by the code objects of the defs that hold them -/
structure TbF (h : Heap) (K : PySem.W.Frag) (c p : Addr) : Prop where
  hd : PySem.W.CodeHd h c p
  n : K.lookup p = none
end
end NX

set_option Elab.async false
set_option linter.all false
set_option maxRecDepth 100000
set_option maxHeartbeats 4000000
/-! The head by one run in the kernel: the written part is what the end's heap holds at told addresses; what is asked of it is one Bool. -/
namespace HK
open PySem L2 LamX PySem.Spec PyProof.Rows NX
abbrev Fg := PySem.W.Frag
/-! ### addresses by names -/
/-- what the module's name x holds -/
abbrev g (x : Str) : Fg → Addr := fun K => He.ga K x
/-- what the class at C holds under m -/
abbrev m (C : Fg → Addr) (x : Str) : Fg → Addr := fun K => He.ma K (C K) x
/-- the def within a property, a classmethod -/
def inner (T : String) (p : Fg → Addr) : Fg → Addr := fun K => match PySem.W.recIn K (p K) T with
  | some (.ref a :: _) => a
  | _ => 0
/-- the classmethod object that the class at C holds under m -/
def cmO (C : Fg → Addr) (x : Str) : Fg → Addr := fun K => match PySem.W.findCls K (.ref (C K)) (.type "type") x with
  | some (.get _ (.ref p) _ _) => p
  | _ => 0
def codeAt (f : Fg → Addr) : Fg → Addr := fun K => match K.lookup (f K) with
  | some ⟨_, _, .func fd, _⟩ => (match fd.code with
    | .ref c => c
    | _ => 0)
  | _ => 0
def tabAt (f : Fg → Addr) : Fg → Addr := fun K => He.tabOf K (codeAt f K)
/-! ### defs -/
structure Df where
  at_ : Fg → Addr
  name : Str
  qual : Str
  params : Arguments
  body : List Stmt
  scope : Scope
  dfl : List He.Dv := []
  kwd : List (Str × He.Dv) := []
abbrev dOf (a : Fg → Addr) (x q : Str) (st : Stmt) : Df := ⟨a, x, q, defArgs st, defBody st, defScope st, [], []⟩
def fnW (K : Fg) (a : Addr) : He.FnW := match K.lookup a with
  | some ⟨_, _, .func fd, _⟩ => some (fd.name, fd.qualname, fd.params, fd.body, fd.scope, fd.globals, fd.closure, fd.builtins)
  | _ => none
def Df.val (d : Df) : He.FnW := some (d.name, d.qual, d.params, .stmts d.body, d.scope, mainGlobals, [], builtinsNs)
def Df.dvs (K : Fg) (d : Df) : List V := d.dfl.map (He.Dv.v K)
def Df.kws (K : Fg) (d : Df) : List (Str × V) := d.kwd.map fun q => (q.1, q.2.v K)
def Df.ok (K : Fg) (d : Df) : Bool := PySem.W.keepIn K (.ref (d.at_ K)) && (match K.lookup (d.at_ K) with
  | some ⟨_, _, .func fd, _⟩ => PySem.W.codeIn K fd.code d.qual && (He.dflB K fd.defaults (d.dvs K) && He.kwdB K fd.kwdefaults (d.kws K))
  | _ => false)
theorem Df.funD {K : Fg} {d : Df} (e : fnW K (d.at_ K) = d.val) (c : d.ok K = true) : ∃ fd, FunD K d.name d.qual d.params d.body d.scope (d.dvs K) (d.kws K) (d.at_ K) fd := by
  obtain ⟨kp, c2⟩ := He.ba c
  unfold fnW at e
  cases q : K.lookup (d.at_ K) with
  | none =>
    rw [q] at c2
    cases c2
  | some o =>
    obtain ⟨oc, od, dt, osl⟩ := o
    rw [q] at c2 e
    cases dt with
    | func fd =>
      obtain ⟨n1, n2, n3, n4, n5, n6, n7, n8, n9, n10, n11, n12, n13, n14, n15⟩ := fd
      have e2 : (some (n1, n2, n3, n4, n5, n6, n7, n15) : He.FnW) = some (d.name, d.qual, d.params, .stmts d.body, d.scope, mainGlobals, [], builtinsNs) := e
      simp only [Option.some.injEq, Prod.mk.injEq] at e2
      obtain ⟨h1, h2, h3, h4, h5, h6, h7, h8⟩ := e2
      subst h1 h2 h3 h4 h5 h6 h7 h8
      have c3 : (PySem.W.codeIn K n13 d.qual && (He.dflB K n8 (d.dvs K) && He.kwdB K n9 (d.kws K))) = true := c2
      obtain ⟨k1, k2⟩ := He.ba c3
      obtain ⟨k3, k4⟩ := He.ba k2
      exact ⟨_, ⟨oc, od, n8, n9, n10, n11, n12, n13, n14, osl, rfl, q, k1, He.dflB_ok k3, He.kwdB_ok k4⟩, kp⟩
    | _ => cases c2
/-! ### the Hook -/
/-- what is told of the written part K of the heap h -/
structure Says (fn : List Df) (tf : List (Fg → Addr)) (ex : Fg → List Bool) (h : Heap) (K : Fg) : Prop where
  fns : (fn.map fun d => fnW K (d.at_ K)) = fn.map Df.val
  fok : ∀ d ∈ fn, d.ok K = true
  more : (ex K).all id = true
  hd : ∀ f ∈ tf, PySem.W.codeHdIn K (codeAt f K) (tabAt f K) = true
  out : ∀ f ∈ tf, K.lookup (tabAt f K) = none
  empty : ∀ f ∈ tf, h.get? (tabAt f K) = some { cls := .none, data := .fields #[] }
def tabsB (gt : Addr → Option Obj) (tf : List (Fg → Addr)) (K : Fg) : Bool := tf.all fun f => PySem.W.codeHdIn K (codeAt f K) (tabAt f K) && (match gt (tabAt f K) with
  | some o => He.emptyTab o
  | none => false)
abbrev Al : Type := List He.FnW × Bool
def obsK (fn : List Df) (tf : List (Fg → Addr)) (ex : Fg → List Bool) (gt : Addr → Option Obj) (K : Fg) : Al := (fn.map fun d => fnW K (d.at_ K), (fn.all fun d => d.ok K) && ((ex K).all id && tabsB gt tf K))
/-- a list made of its items, before it is looked at -/
def frL {α β : Type} : List α → (List α → β) → β
  | [], k => k []
  | x :: r, k => frL r fun r => k (x :: r)
theorem frL_eq {α β : Type} : ∀ (l : List α) (k : List α → β), frL l k = k l
  | [], _ => rfl
  | x :: r, k => by
    show frL r (fun r => k (x :: r)) = _
    rw [frL_eq r]
def obs (as : List Addr) (fn : List Df) (tf : List (Fg → Addr)) (ex : Fg → List Bool) (gt : Addr → Option Obj) : Al := frL (He.frT gt as) fun K => obsK fn tf ex gt K
def val (fn : List Df) : Al := (fn.map Df.val, true)
theorem says_of {as : List Addr} {fn : List Df} {tf : List (Fg → Addr)} {ex : Fg → List Bool} {h : Heap} (e : obs as fn tf ex h.get? = val fn) : Says fn tf ex h (He.frT h.get? as) := by
  unfold obs at e
  rw [frL_eq] at e
  generalize hK : He.frT h.get? as = K at e
  have e1 : (fn.map fun d => fnW K (d.at_ K)) = fn.map Df.val := congrArg (fun z : Al => z.1) e
  have e2 : ((fn.all fun d => d.ok K) && ((ex K).all id && tabsB h.get? tf K)) = true := congrArg (fun z : Al => z.2) e
  obtain ⟨h1, h2⟩ := He.ba e2
  obtain ⟨h3, h4⟩ := He.ba h2
  have key : ∀ f ∈ tf, PySem.W.codeHdIn K (codeAt f K) (tabAt f K) = true ∧ ∃ o, h.get? (tabAt f K) = some o ∧ He.emptyTab o = true := fun p hp => by
    obtain ⟨h5, h6⟩ := He.ba (List.all_eq_true.mp h4 p hp)
    refine ⟨h5, ?_⟩
    cases q : h.get? (tabAt p K) with
    | none =>
      rw [q] at h6
      cases h6
    | some o =>
      rw [q] at h6
      exact ⟨o, rfl, h6⟩
  refine ⟨e1, fun d hd => List.all_eq_true.mp h1 d hd, h3, fun p hp => (key p hp).1, fun p hp => ?_, fun p hp => ?_⟩
  · obtain ⟨_, o, q, z⟩ := key p hp
    have r := He.frT_none (as := as) q z
    rw [hK] at r
    exact r
  · obtain ⟨_, o, q, z⟩ := key p hp
    rw [q, He.emptyTab_eq z]
def hook (as : List Addr) (fn : List Df) (tf : List (Fg → Addr)) (ex : Fg → List Bool) : PySem.W.Hook where
  α := Al
  obs := fun s => obs as fn tf ex s.heap.get?
  val := fun _ => val fn
  says := fun _ h => ∃ K : Fg, K.In h ∧ Says fn tf ex h K
  of := fun _ _ e => ⟨_, He.frT_in, says_of e⟩
  keeps := fun _ _ _ ⟨K, hK, c⟩ k => ⟨K, PySem.W.Frag.In.keeps hK k, ⟨c.fns, c.fok, c.more, c.hd, c.out, fun p hp => k _ _ (c.empty p hp)⟩⟩
theorem obs_eq {as : List Addr} {fn : List Df} {tf : List (Fg → Addr)} {ex : Fg → List Bool} (s : PySem.W.SharedT) : obs as fn tf ex (HandSHeadRun.getT s) = (hook as fn tf ex).obs s.abs := by
  have e : HandSHeadRun.getT s = s.abs.heap.get? := funext (HandSHeadRun.getT_eq s)
  rw [e] <;> rfl
section
variable {fn : List Df} {tf : List (Fg → Addr)} {ex : Fg → List Bool} {h : Heap} {K : Fg}
theorem Says.def_ (c : Says fn tf ex h K) (i : Nat) {d : Df} (hi : fn[i]? = some d := by rfl) : ∃ fd, FunD K d.name d.qual d.params d.body d.scope (d.dvs K) (d.kws K) (d.at_ K) fd := by
  have e2 : (fn.map fun d => fnW K (d.at_ K))[i]? = (fn.map Df.val)[i]? := by rw [c.fns]
  rw [List.getElem?_map, List.getElem?_map, hi] at e2
  exact Df.funD (Option.some.inj e2) (c.fok d (List.mem_of_getElem? hi))
/-- a def without defaults -/
theorem fnF_of {x q : Str} {st : Stmt} {f : Addr} (h : ∃ fd, FunD K x q (defArgs st) (defBody st) (defScope st) [] [] f fd) : FnF K x q st f := by
  obtain ⟨fd, F⟩ := h
  obtain ⟨oc, od, dV, kV, doc, pm, an, cdv, ct, osl, rfl, lk, hcd, hd, _⟩ := F.ex
  rcases hd with ⟨_, rfl⟩ | ⟨n, _⟩
  · exact fnF lk hcd F.kp
  · exact absurd rfl n
theorem fnT_of {x : Str} {st : Stmt} {f : Addr} (h : ∃ fd, FunD K x x (defArgs st) (defBody st) (defScope st) [] [] f fd) (a : Fg → Addr) (ha : a K = f) (hd : PySem.W.codeHdIn K (codeAt a K) (tabAt a K) = true) : FnT K x st f (codeAt a K) (tabAt a K) := by
  obtain ⟨fd, F⟩ := h
  obtain ⟨oc, od, dV, kV, doc, pm, an, cdv, ct, osl, rfl, lk, hcd, hdd, _⟩ := F.ex
  rcases hdd with ⟨_, rfl⟩ | ⟨n, _⟩
  · obtain ⟨c, rfl⟩ := He.codeIn_ref hcd
    have e : codeAt a K = c := by
      unfold codeAt
      rw [ha, lk]
    refine ⟨⟨_, ⟨oc, od, kV, doc, pm, an, ct, osl, ?_, lk, ?_⟩, F.kp⟩, hd⟩
    · rw [e]
    · rw [e]
      exact hcd
  · exact absurd rfl n
theorem Says.at_ (c : Says fn tf ex h K) (i : Nat) {b : Bool} (hi : (ex K)[i]? = some b := by rfl) : b = true := List.all_eq_true.mp c.more b (List.mem_of_getElem? hi)
end
/-! ### facts as Bools -/
section
variable {K : Fg}
def eqV (a b : Option (Option Value)) : Bool := decide (a = b)
theorem eqV_ok {a b : Option (Option Value)} (h : eqV a b = true) : a = b := of_decide_eq_true h
def eqB (a b : Option Bool) : Bool := decide (a = b)
theorem eqB_ok {a b : Option Bool} (h : eqB a b = true) : a = b := of_decide_eq_true h
def eqT (a b : Option Value) : Bool := decide (a = b)
theorem eqT_ok {a b : Option Value} (h : eqT a b = true) : a = b := of_decide_eq_true h
theorem notB_ok {b : Bool} (h : (!b) = true) : b = false := by
  cases b with
  | false => rfl
  | true => cases h
/-- a constant that is a text, an int -/
def strB (K : Fg) (x z : Str) : Bool := match PySem.W.nsIn K mainGlobals x with
  | some (some (.str y _)) => decide (y = z)
  | _ => false
theorem strB_ok {x z : Str} (h : strB K x z = true) : ∃ t, PySem.W.nsIn K mainGlobals x = some (some (.str z t)) := by
  unfold strB at h
  split at h
  · rename_i y t q
    rw [of_decide_eq_true h] at q
    exact ⟨t, q⟩
  · cases h
def intB (K : Fg) (x : Str) (i : Int) : Bool := match PySem.W.nsIn K mainGlobals x with
  | some (some (.int j _)) => decide (j = i)
  | _ => false
theorem intB_ok {x : Str} {i : Int} (h : intB K x i = true) : ∃ t, PySem.W.nsIn K mainGlobals x = some (some (.int i t)) := by
  unfold intB at h
  split at h
  · rename_i y t q
    rw [of_decide_eq_true h] at q
    exact ⟨t, q⟩
  · cases h
/-- an error class over the base CS -/
def errC (K : Fg) (C CS : Addr) : Bool := match K.lookup C with
  | some ⟨.type T, _, .cls cd, sl⟩ => decide (T = "type") && (decide (cd.mro = [.ref C, .ref CS, .type "ValueError", .type "Exception", .type "BaseException", .type "object"]) && (cd.hasDict && (!cd.hasDel && (match sl.toList with
    | [_, _, _, _, some (.builtin n), _] => decide (n = "ValueError.__new__")
    | _ => false))))
  | _ => false
theorem errC_ok {C CS : Addr} (h : errC K C CS = true) : ∃ nm q N bs sn sub ab col dd k0 k1 k2 k3 k5, K.lookup C = some (excClassObj nm q C N bs [.ref CS, .type "ValueError", .type "Exception", .type "BaseException", .type "object"] true sn sub ab col dd k0 k1 k2 k3 k5 "ValueError.__new__") := by
  unfold errC at h
  split at h
  · rename_i T dd cd sl q
    obtain ⟨h1, h⟩ := He.ba h
    obtain ⟨h2, h⟩ := He.ba h
    obtain ⟨h3, h⟩ := He.ba h
    obtain ⟨h4, h5⟩ := He.ba h
    obtain ⟨nm, bs, mro, ns, qn, hd, sn, sub, ab, col, del⟩ := cd
    have e1 : T = "type" := of_decide_eq_true h1
    have e2 : mro = [.ref C, .ref CS, .type "ValueError", .type "Exception", .type "BaseException", .type "object"] := of_decide_eq_true h2
    have e3 : hd = true := h3
    have e4 : del = false := by
      cases del with
      | false => rfl
      | true => cases h4
    subst e1 e2 e3 e4
    obtain ⟨l⟩ := sl
    split at h5
    · rename_i k0 k1 k2 k3 n k5 hl
      have e5 : n = "ValueError.__new__" := of_decide_eq_true h5
      have hl' : l = [k0, k1, k2, k3, some (.builtin n), k5] := hl
      subst e5 hl'
      exact ⟨nm, qn, ns, bs, sn, sub, ab, col, dd, k0, k1, k2, k3, k5, q⟩
    · cases h5
  · cases h
/-- an error of ours: the class x, its field y -/
def errB (K : Fg) (x y : Str) (C fI CS : Addr) : List Bool :=
  [eqV (PySem.W.nsIn K mainGlobals x) (some (some (.ref C))), eqV (PySem.W.findIn K (.ref C) "__init__") (some (some (.ref fI))), eqT (PySem.W.typeIn K (.ref fI)) (some (.type "function")), errC K C CS,
   eqV (PySem.W.findIn K (.ref C) "__setattr__") (some (some (.builtin "object.__setattr__"))), eqB (PySem.W.subIn K (.ref C) (.type "BaseException")) (some true), eqT (PySem.W.typeIn K (.ref C)) (some (.type "type")), PySem.W.keepIn K (.ref C),
   eqV (PySem.W.findIn K (.ref C) y) (some none), eqV (PySem.W.findIn K (.ref C) "__getattribute__") (some (some (.builtin "BaseException.__getattribute__"))), eqV (PySem.W.findIn K (.ref C) "__getattr__") (some none), PySem.W.hasDictIn K C,
   eqV (PySem.W.findIn K (.ref C) "__class__") (some (some (.builtin "object.__class__"))), eqB (PySem.W.mroIn K C (.type "object")) (some true), PySem.W.isClsIn K C, eqB (PySem.W.subIn K (.ref C) (.ref CS)) (some true), eqB (PySem.W.subIn K (.ref C) (.type "ValueError")) (some true)]
theorem all_at {l : List Bool} (h : l.all id = true) (i : Nat) {b : Bool} (hi : l[i]? = some b := by rfl) : b = true := List.all_eq_true.mp h b (List.mem_of_getElem? hi)
theorem errB_ok {x y : Str} {C fI CS : Addr} (h : (errB K x y C fI CS).all id = true) : ErrF K x y C fI CS :=
  ⟨eqV_ok (all_at h 0), eqV_ok (all_at h 1), eqT_ok (all_at h 2), errC_ok (all_at h 3), eqV_ok (all_at h 4), eqB_ok (all_at h 5), eqT_ok (all_at h 6), all_at h 7, eqV_ok (all_at h 8), eqV_ok (all_at h 9), eqV_ok (all_at h 10), all_at h 11, eqV_ok (all_at h 12), eqB_ok (all_at h 13), all_at h 14, eqB_ok (all_at h 15), eqB_ok (all_at h 16)⟩
def baseB (K : Fg) (CS : Addr) : List Bool :=
  [eqV (PySem.W.nsIn K mainGlobals "StowError") (some (some (.ref CS))), eqB (PySem.W.subIn K (.ref CS) (.type "BaseException")) (some true), PySem.W.isClsIn K CS, eqT (PySem.W.typeIn K (.ref CS)) (some (.type "type")),
   eqV (PySem.W.specialIn K (.builtin "object.__class__") "__get__") (some (some (.builtin "getset_descriptor.__get__"))), eqB (PySem.W.takesIn K (.builtin "object.__class__")) (some true)]
theorem baseB_ok {CS : Addr} (h : (baseB K CS).all id = true) : BaseF K CS := ⟨eqV_ok (all_at h 0), eqB_ok (all_at h 1), all_at h 2, eqT_ok (all_at h 3), eqV_ok (all_at h 4), eqB_ok (all_at h 5)⟩
def clsB (K : Fg) (x : Str) (C fI : Addr) : List Bool :=
  [eqV (PySem.W.nsIn K mainGlobals x) (some (some (.ref C))), PySem.W.plainGet K C Str.empty, PySem.W.hasDictIn K C, PySem.W.plainOver K C, eqV (PySem.W.findIn K (.ref C) "__setattr__") (some (some (.builtin "object.__setattr__"))), PySem.W.makesIn K C,
   eqV (PySem.W.findIn K (.ref C) "__init__") (some (some (.ref fI))), PySem.W.isFn K (.ref fI), PySem.W.keepIn K (.ref C)]
theorem clsB_ok {x : Str} {C fI : Addr} (h : (clsB K x C fI).all id = true) : ClsF K x C fI := ⟨eqV_ok (all_at h 0), all_at h 1, all_at h 2, all_at h 3, eqV_ok (all_at h 4), all_at h 5, eqV_ok (all_at h 6), all_at h 7, all_at h 8⟩
/-- a record's first -/
def recB (K : Fg) (p : Addr) (T : String) (gt : Addr) : Bool := match PySem.W.recIn K p T with
  | some (.ref a :: _) => decide (a = gt)
  | _ => false
theorem recB_ok {p gt : Addr} {T : String} (h : recB K p T gt = true) : ∃ rest, PySem.W.recIn K p T = some (.ref gt :: rest) := by
  unfold recB at h
  split at h
  · rename_i a r q
    rw [of_decide_eq_true h] at q
    exact ⟨r, q⟩
  · cases h
def getB (K : Fg) (C : Addr) (x : Str) (p : Addr) : Bool := match PySem.W.findCls K (.ref C) (.type "type") x with
  | some (.get gg pp ob c) => decide (gg = .builtin "classmethod.__get__") && (decide (pp = .ref p) && (decide (ob = .none) && decide (c = .ref C)))
  | _ => false
theorem getB_ok {C p : Addr} {x : Str} (h : getB K C x p = true) : PySem.W.findCls K (.ref C) (.type "type") x = some (.get (.builtin "classmethod.__get__") (.ref p) .none (.ref C)) := by
  unfold getB at h
  split at h
  · rename_i gg pp ob c q
    obtain ⟨h1, h⟩ := He.ba h
    obtain ⟨h2, h⟩ := He.ba h
    obtain ⟨h3, h4⟩ := He.ba h
    rw [q, of_decide_eq_true h1, of_decide_eq_true h2, of_decide_eq_true h3, of_decide_eq_true h4]
  · cases h
def cmB (K : Fg) (C : Addr) (x : Str) (p gt : Addr) : List Bool := [getB K C x p, recB K p "classmethod" gt, PySem.W.fnIn K gt]
theorem cmB_ok {C p gt : Addr} {x : Str} (h : (cmB K C x p gt).all id = true) : CmF K C x p gt := ⟨getB_ok (all_at h 0), recB_ok (all_at h 1), all_at h 2⟩
def rdB (K : Fg) (C : Addr) : List Bool := [PySem.W.readsIn K C (.type "type"), eqV (PySem.W.specialIn K (.ref C) "__getattribute__") (some (some (.builtin "type.__getattribute__")))]
theorem rdB_ok {C : Addr} (h : (rdB K C).all id = true) : RdF K C := ⟨all_at h 0, eqV_ok (all_at h 1)⟩
/-- a class's constant that is an int, read off the class -/
def cvalI (K : Fg) (C : Addr) (x : Str) (i : Int) : Bool := match PySem.W.findCls K (.ref C) (.type "type") x with
  | some (.val (.int j _)) => decide (j = i)
  | _ => false
theorem cvalI_ok {C : Addr} {x : Str} {i : Int} (h : cvalI K C x i = true) : ∃ t, PySem.W.findCls K (.ref C) (.type "type") x = some (.val (.int i t)) := by
  unfold cvalI at h
  split at h
  · rename_i j t q
    rw [of_decide_eq_true h] at q
    exact ⟨t, q⟩
  · cases h
end
/-! ### the end -/
theorem walkGE {l : PySem.W.OpenLaw} {n k : Nat} {q : Program} {loose : List Str} {XP : (Str → Option Value) → Heap → Prop} {YP : World → Heap → Prop} {d : DefRec} {x : Str} (hn : l.most = some n) (hn2 : n ≤ sizeLine) (hdf : d.params.defaults = []) (hr : Room k callerA) (hi : importsNone q = true)
    (G : ∀ (w : World) (mg : Str → Option Value) (fa : Addr) (h : Heap), YP w h → h.Ns mainGlobals mg → mg d.name = some (.ref fa) → ∃ K : Fg, K.In h ∧ ∃ fd cs sp, LawG l w K k n x mg fa h fd cs sp) :
    PySem.W.WalkO q loose XP YP l.row.toRowW d [] (fun f vs => PySem.call f vs) := by
  refine Att.attach_callB hn hdf fun w s₀ s₁ mg mb fa o pm cd doc a vs ns T Y ho hd hcd hmg hobj hints hlen hbits hgen => ?_
  obtain ⟨K, KX, fd, cs, sp, L⟩ := G w mg fa _ Y T.T.g hmg
  exact endG ⟨KX, L.hT, L.nT, hobj, hints, Nat.le_trans hlen hn2⟩ T.T.g T.T.b T.T.builtins T.T.nolimit hgen L.C T.T.bmain hr (by obtain ⟨mm, ⟨o, es, ep, e, d, _⟩, _⟩ := (T.T.seer hi).mods; exact ⟨o, es, ep, e, d⟩) L.F L.bind (fun H h1 h2 => L.ask H a ns hlen h1 h2)
end HK

set_option Elab.async false
set_option linter.all false
set_option maxRecDepth 100000
set_option maxHeartbeats 0
namespace K33H
open PySem PySem.W PySem.Calls PyProof.Rows NX L2
def top (i : Nat) : Stmt := PySem.Challenge.pw_loopstow_k33_needed_in_loops.main.body.getD i (.Pass ⟨0, 0, 0, 0⟩)
/-- a def's default by keyword -/
def kwA (f : HK.Fg → Addr) (x : PySem.Str) : HK.Fg → Addr := fun K => match K.lookup (f K) with
  | some ⟨_, _, .func fd, _⟩ => (match fd.kwdefaults with
    | .ref D => (match PySem.W.nsIn K D x with
      | some (some (.ref a)) => a
      | _ => 0)
    | _ => 0)
  | _ => 0
/-- a def's default by place -/
def dfA (f : HK.Fg → Addr) (i : Nat) : HK.Fg → Addr := fun K => match K.lookup (f K) with
  | some ⟨_, _, .func fd, _⟩ => (match fd.defaults with
    | .ref T => (match K.lookup T with
      | some ⟨_, _, .seq its _, _⟩ => (match its.toList[i]? with
        | some (.ref a) => a
        | _ => 0)
      | _ => 0)
    | _ => 0)
  | _ => 0
/-- a tuple of texts -/
def tupS (K : HK.Fg) (a : Addr) (zs : List PySem.Str) : Bool := match K.lookup a with
  | some ⟨.type c, _, .seq its _, _⟩ => decide (c = "tuple") && (decide (its.size ≤ sizeLine) && He.relAll (zs.map V.str) its.toList)
  | _ => false
theorem tupS_ok {K : HK.Fg} {a : Addr} {zs : List PySem.Str} (h : tupS K a zs = true) (H : Hp) : SqT K H a (zs.map V.str) := by
  unfold tupS at h
  split at h
  · rename_i c od its n sl q
    obtain ⟨h1, h2⟩ := He.ba h
    obtain ⟨h3, h4⟩ := He.ba h2
    exact .inr ⟨_, its, n, q, congrArg Value.type (of_decide_eq_true h1), rfl, of_decide_eq_true h3, He.relAll_ok h4⟩
  · cases h
def a_CS : HK.Fg → Addr := HK.g "StowError"
def a_CD : HK.Fg → Addr := HK.g "Deed"
def a_pNm : HK.Fg → Addr := HK.m (HK.g "Use") "names"
def a_c0 : HK.Fg → Addr := HK.g "BadName"
def a_c1 : HK.Fg → Addr := HK.g "BadDeed"
def a_c10 : HK.Fg → Addr := HK.g "Twice"
def a_c11 : HK.Fg → Addr := HK.g "TooMany"
def a_dU : HK.Fg → Addr := HK.g "Use"
def a_dM : HK.Fg → Addr := HK.g "Make"
def a_dD : HK.Fg → Addr := HK.g "Do"
def a_cP : HK.Fg → Addr := HK.g "Program"
def a_i0 : HK.Fg → Addr := HK.m (HK.g "BadName") "__init__"
def a_i1 : HK.Fg → Addr := HK.m (HK.g "BadDeed") "__init__"
def a_i10 : HK.Fg → Addr := HK.m (HK.g "Twice") "__init__"
def a_i11 : HK.Fg → Addr := HK.m (HK.g "TooMany") "__init__"
def a_fU : HK.Fg → Addr := HK.m (HK.g "Use") "__init__"
def a_fM : HK.Fg → Addr := HK.m (HK.g "Make") "__init__"
def a_fD : HK.Fg → Addr := HK.m (HK.g "Do") "__init__"
def a_fNm : HK.Fg → Addr := HK.inner "property" (HK.m (HK.g "Use") "names")
def a_g1 : HK.Fg → Addr := HK.inner "property" (HK.m (HK.g "Program") "loop")
def a_g2 : HK.Fg → Addr := HK.inner "property" (HK.m (HK.g "Program") "between")
def a_g3 : HK.Fg → Addr := HK.inner "property" (HK.m (HK.g "Program") "second")
def a_g4 : HK.Fg → Addr := HK.inner "property" (HK.m (HK.g "Program") "behind")
def a_g5 : HK.Fg → Addr := HK.inner "property" (HK.m (HK.g "Program") "results")
def a_fDof : HK.Fg → Addr := HK.m (HK.g "Program") "deeds_of"
def a_fHp : HK.Fg → Addr := HK.m (HK.g "Program") "has_place"
def a_p1 : HK.Fg → Addr := HK.m (HK.g "Program") "loop"
def a_p2 : HK.Fg → Addr := HK.m (HK.g "Program") "between"
def a_p3 : HK.Fg → Addr := HK.m (HK.g "Program") "second"
def a_p4 : HK.Fg → Addr := HK.m (HK.g "Program") "behind"
def a_p5 : HK.Fg → Addr := HK.m (HK.g "Program") "results"
def a_fP : HK.Fg → Addr := HK.m (HK.g "Program") "__init__"
def a_fN : HK.Fg → Addr := HK.g "needed"
def a_tPA : HK.Fg → Addr := HK.g "PARTS"
def a_tLO : HK.Fg → Addr := HK.g "LOOPS"
def a_t0 : HK.Fg → Addr := dfA (HK.m (HK.g "Program") "__init__") 0
def a_t1 : HK.Fg → Addr := dfA (HK.m (HK.g "Program") "__init__") 2
def a_t2 : HK.Fg → Addr := dfA (HK.m (HK.g "Program") "__init__") 4
def a_t3 : HK.Fg → Addr := kwA (HK.m (HK.g "Program") "__init__") "given"
def a_t4 : HK.Fg → Addr := kwA (HK.m (HK.g "Program") "__init__") "results"
def a_fIs : HK.Fg → Addr := HK.g "is_name"
def a_fNum : HK.Fg → Addr := HK.g "is_number"
def a_fCnt : HK.Fg → Addr := HK.g "is_count"
def a_fPri : HK.Fg → Addr := HK.g "is_price"
def a_fCns : HK.Fg → Addr := HK.g "check_names"
def a_fCun : HK.Fg → Addr := HK.g "check_unlike"
def a_fAsc : HK.Fg → Addr := HK.g "ascending"
def a_fCus : HK.Fg → Addr := HK.g "check_used"
def a_fCp : HK.Fg → Addr := HK.g "check_parts"
def a_fCz : HK.Fg → Addr := HK.g "check_sizes"
def a_fCt : HK.Fg → Addr := HK.g "check_told_names"
def a_fAn : HK.Fg → Addr := HK.g "all_names"
def a_fCv : HK.Fg → Addr := HK.g "check_values"
def a_fCd : HK.Fg → Addr := HK.g "check_deed_partchecks"
def a_fAl : HK.Fg → Addr := HK.g "needed_along"
def a_fHd : HK.Fg → Addr := HK.g "needed_at_head"
def a_fEn : HK.Fg → Addr := HK.g "needed_at_end"
def a_fIp : HK.Fg → Addr := HK.g "needed_in_part"
def a_fPen : HK.Fg → Addr := HK.g "_law_pen"
def a_fDraw : HK.Fg → Addr := HK.g "_law_draw"
def a_fPick : HK.Fg → Addr := HK.g "_law_pick"
def a_fSome : HK.Fg → Addr := HK.g "_law_some"
def a_fNames : HK.Fg → Addr := HK.g "_law_names"
def a_fReal : HK.Fg → Addr := HK.g "_law_real_deed"
def a_fOr : HK.Fg → Addr := HK.g "_law_order"
def a_fDs : HK.Fg → Addr := HK.g "_law_deeds"
def a_fSi : HK.Fg → Addr := HK.g "_law_site"
def a_fRp : HK.Fg → Addr := HK.g "_law_real_part"
def a_fRl : HK.Fg → Addr := HK.g "_law_real"
def a_fIw : HK.Fg → Addr := HK.g "_law_is_wanted"
def a_fWo : HK.Fg → Addr := HK.g "_law_words_of"
def a_fWa : HK.Fg → Addr := HK.g "_law_wanted"
def a_fRe : HK.Fg → Addr := HK.g "_law_rest"
def a_fAr : HK.Fg → Addr := HK.g "_law_ahead_right"
def a_fLr : HK.Fg → Addr := HK.g "_law_loop_right"
def a_fLaw : HK.Fg → Addr := HK.g "law"
def fns : List HK.Df := [⟨a_fP, "__init__", "Program.__init__", L2.defArgs (L2.inClass (top 72) 0), L2.defBody (L2.inClass (top 72) 0), L2.defScope (L2.inClass (top 72) 0), [.adr a_t0, .non, .adr a_t1, .non, .adr a_t2], [("given", .adr a_t3), ("again", .non), ("results", .adr a_t4)]⟩,
  ⟨a_fN, "needed", "needed", L2.defArgs (top 29), L2.defBody (top 29), L2.defScope (top 29), [], [("first", .bl true), ("further", .bl true), ("second", .bl true)]⟩,
  HK.dOf a_i0 "__init__" "BadName.__init__" (L2.inClass (top 3) 0),
  HK.dOf a_i1 "__init__" "BadDeed.__init__" (L2.inClass (top 4) 0),
  HK.dOf a_i10 "__init__" "Twice.__init__" (L2.inClass (top 9) 0),
  HK.dOf a_i11 "__init__" "TooMany.__init__" (L2.inClass (top 10) 0),
  HK.dOf a_fU "__init__" "Use.__init__" (L2.inClass (top 36) 0),
  HK.dOf a_fM "__init__" "Make.__init__" (L2.inClass (top 37) 0),
  HK.dOf a_fD "__init__" "Do.__init__" (L2.inClass (top 38) 0),
  HK.dOf a_fNm "names" "Deed.names" (L2.inClass (top 35) 1),
  HK.dOf a_g1 "loop" "Program.loop" (L2.inClass (top 72) 2),
  HK.dOf a_g2 "between" "Program.between" (L2.inClass (top 72) 3),
  HK.dOf a_g3 "second" "Program.second" (L2.inClass (top 72) 4),
  HK.dOf a_g4 "behind" "Program.behind" (L2.inClass (top 72) 5),
  HK.dOf a_g5 "results" "Program.results" (L2.inClass (top 72) 8),
  HK.dOf a_fDof "deeds_of" "Program.deeds_of" (L2.inClass (top 72) 13),
  HK.dOf a_fHp "has_place" "Program.has_place" (L2.inClass (top 72) 14),
  HK.dOf a_fIs "is_name" "is_name" (top 21),
  HK.dOf a_fNum "is_number" "is_number" (top 22),
  HK.dOf a_fCnt "is_count" "is_count" (top 23),
  HK.dOf a_fPri "is_price" "is_price" (top 24),
  HK.dOf a_fCns "check_names" "check_names" (top 25),
  HK.dOf a_fCun "check_unlike" "check_unlike" (top 26),
  HK.dOf a_fAsc "ascending" "ascending" (top 27),
  HK.dOf a_fCus "check_used" "check_used" (top 39),
  HK.dOf a_fCp "check_parts" "check_parts" (top 59),
  HK.dOf a_fCz "check_sizes" "check_sizes" (top 60),
  HK.dOf a_fCt "check_told_names" "check_told_names" (top 61),
  HK.dOf a_fAn "all_names" "all_names" (top 62),
  HK.dOf a_fCv "check_values" "check_values" (top 63),
  HK.dOf a_fCd "check_deed" "check_deed" (top 64),
  HK.dOf a_fAl "needed_along" "needed_along" (top 33),
  HK.dOf a_fHd "needed_at_head" "needed_at_head" (top 32),
  HK.dOf a_fEn "needed_at_end" "needed_at_end" (top 31),
  HK.dOf a_fIp "needed_in_part" "needed_in_part" (top 30),
  HK.dOf a_fPen "_law_pen" "_law_pen" (top 77),
  HK.dOf a_fDraw "_law_draw" "_law_draw" (top 78),
  HK.dOf a_fPick "_law_pick" "_law_pick" (top 79),
  HK.dOf a_fSome "_law_some" "_law_some" (top 80),
  HK.dOf a_fNames "_law_names" "_law_names" (top 81),
  HK.dOf a_fReal "_law_real_deed" "_law_real_deed" (top 82),
  HK.dOf a_fOr "_law_order" "_law_order" (top 83),
  HK.dOf a_fDs "_law_deeds" "_law_deeds" (top 84),
  HK.dOf a_fSi "_law_site" "_law_site" (top 85),
  HK.dOf a_fRp "_law_real_part" "_law_real_part" (top 86),
  HK.dOf a_fRl "_law_real" "_law_real" (top 87),
  HK.dOf a_fIw "_law_is_wanted" "_law_is_wanted" (top 88),
  HK.dOf a_fWo "_law_words_of" "_law_words_of" (top 89),
  HK.dOf a_fWa "_law_wanted" "_law_wanted" (top 90),
  HK.dOf a_fRe "_law_rest" "_law_rest" (top 91),
  HK.dOf a_fAr "_law_ahead_right" "_law_ahead_right" (top 92),
  HK.dOf a_fLr "_law_loop_right" "_law_loop_right" (top 93),
  HK.dOf a_fLaw "law" "law" (top 94)]
def ex (K : HK.Fg) : List Bool := [HK.eqV (PySem.W.nsIn K mainGlobals "int") (some none),
  HK.eqV (PySem.W.nsIn K mainGlobals "len") (some none),
  HK.eqV (PySem.W.nsIn K mainGlobals "abs") (some none),
  HK.eqV (PySem.W.nsIn K mainGlobals "list") (some none),
  HK.eqV (PySem.W.nsIn K mainGlobals "str") (some none),
  HK.eqV (PySem.W.nsIn K mainGlobals "tuple") (some none),
  HK.eqV (PySem.W.nsIn K mainGlobals "isinstance") (some none),
  HK.eqV (PySem.W.nsIn K mainGlobals "repr") (some none),
  HK.eqV (PySem.W.nsIn K mainGlobals "range") (some none),
  HK.eqV (PySem.W.nsIn K mainGlobals "enumerate") (some none),
  HK.eqV (PySem.W.nsIn K mainGlobals "ValueError") (some none),
  HK.eqV (PySem.W.nsIn K mainGlobals "set") (some none),
  HK.eqV (PySem.W.nsIn K mainGlobals "sorted") (some none),
  HK.eqV (PySem.W.nsIn K mainGlobals "min") (some none),
  HK.eqV (PySem.W.nsIn K mainGlobals "bool") (some none),
  HK.eqV (PySem.W.nsIn K mainGlobals "dict") (some none),
  HK.eqV (PySem.W.nsIn K mainGlobals "reversed") (some none),
  HK.strB K "LETTERS" "abcdefghijklmnopqrstuvwxyz",
  HK.intB K "MOST_LETTERS" 6,
  HK.intB K "MOST_PRICE" 9,
  HK.intB K "MOST_AHEAD" 200,
  HK.intB K "MOST_IN_PART" 24,
  HK.intB K "MOST_NAMES" 6,
  HK.eqV (PySem.W.nsIn K mainGlobals "PARTS") (some (some (.ref (a_tPA K)))),
  HK.eqV (PySem.W.nsIn K mainGlobals "LOOPS") (some (some (.ref (a_tLO K)))),
  tupS K (a_tPA K) ["ahead", "loop", "between", "second", "behind"],
  tupS K (a_tLO K) ["loop", "second"],
  tupS K (a_t1 K) [],
  tupS K (a_t2 K) [],
  (HK.baseB K (a_CS K)).all id,
  (HK.errB K "BadName" "value" (a_c0 K) (a_i0 K) (a_CS K)).all id,
  (HK.errB K "BadDeed" "value" (a_c1 K) (a_i1 K) (a_CS K)).all id,
  (HK.errB K "Twice" "name" (a_c10 K) (a_i10 K) (a_CS K)).all id,
  (HK.errB K "TooMany" "most" (a_c11 K) (a_i11 K) (a_CS K)).all id,
  (HK.clsB K "Use" (a_dU K) (a_fU K)).all id,
  HK.eqV (PySem.W.findIn K (.ref (a_dU K)) "uses") (some none),
  HK.eqV (PySem.W.findIn K (.ref (a_dU K)) "makes") (some none),
  HK.eqV (PySem.W.findIn K (.ref (a_dU K)) "_names") (some none),
  HK.eqV (PySem.W.findIn K (.ref (a_dU K)) "names") (some (some (.ref (a_pNm K)))),
  (HK.clsB K "Make" (a_dM K) (a_fM K)).all id,
  HK.eqV (PySem.W.findIn K (.ref (a_dM K)) "uses") (some none),
  HK.eqV (PySem.W.findIn K (.ref (a_dM K)) "makes") (some none),
  HK.eqV (PySem.W.findIn K (.ref (a_dM K)) "_names") (some none),
  HK.eqV (PySem.W.findIn K (.ref (a_dM K)) "names") (some (some (.ref (a_pNm K)))),
  (HK.clsB K "Do" (a_dD K) (a_fD K)).all id,
  HK.eqV (PySem.W.findIn K (.ref (a_dD K)) "uses") (some none),
  HK.eqV (PySem.W.findIn K (.ref (a_dD K)) "makes") (some none),
  HK.eqV (PySem.W.findIn K (.ref (a_dD K)) "_names") (some none),
  HK.eqV (PySem.W.findIn K (.ref (a_dD K)) "names") (some (some (.ref (a_pNm K)))),
  (HK.clsB K "Program" (a_cP K) (a_fP K)).all id,
  HK.eqV (PySem.W.findIn K (.ref (a_cP K)) "_names") (some none),
  HK.eqV (PySem.W.findIn K (.ref (a_cP K)) "_parts") (some none),
  HK.eqV (PySem.W.findIn K (.ref (a_cP K)) "_given") (some none),
  HK.eqV (PySem.W.findIn K (.ref (a_cP K)) "_again") (some none),
  HK.eqV (PySem.W.findIn K (.ref (a_cP K)) "_results") (some none),
  HK.eqV (PySem.W.findIn K (.ref (a_cP K)) "loop") (some (some (.ref (a_p1 K)))),
  HK.eqV (PySem.W.findIn K (.ref (a_cP K)) "between") (some (some (.ref (a_p2 K)))),
  HK.eqV (PySem.W.findIn K (.ref (a_cP K)) "second") (some (some (.ref (a_p3 K)))),
  HK.eqV (PySem.W.findIn K (.ref (a_cP K)) "behind") (some (some (.ref (a_p4 K)))),
  HK.eqV (PySem.W.findIn K (.ref (a_cP K)) "results") (some (some (.ref (a_p5 K)))),
  HK.eqV (PySem.W.specialIn K (.ref (a_pNm K)) "__get__") (some (some (.builtin "property.__get__"))),
  HK.eqB (PySem.W.takesIn K (.ref (a_pNm K))) (some true),
  HK.recB K (a_pNm K) "property" (a_fNm K),
  HK.eqV (PySem.W.specialIn K (.ref (a_p1 K)) "__get__") (some (some (.builtin "property.__get__"))),
  HK.eqB (PySem.W.takesIn K (.ref (a_p1 K))) (some true),
  HK.recB K (a_p1 K) "property" (a_g1 K),
  HK.eqV (PySem.W.specialIn K (.ref (a_p2 K)) "__get__") (some (some (.builtin "property.__get__"))),
  HK.eqB (PySem.W.takesIn K (.ref (a_p2 K))) (some true),
  HK.recB K (a_p2 K) "property" (a_g2 K),
  HK.eqV (PySem.W.specialIn K (.ref (a_p3 K)) "__get__") (some (some (.builtin "property.__get__"))),
  HK.eqB (PySem.W.takesIn K (.ref (a_p3 K))) (some true),
  HK.recB K (a_p3 K) "property" (a_g3 K),
  HK.eqV (PySem.W.specialIn K (.ref (a_p4 K)) "__get__") (some (some (.builtin "property.__get__"))),
  HK.eqB (PySem.W.takesIn K (.ref (a_p4 K))) (some true),
  HK.recB K (a_p4 K) "property" (a_g4 K),
  HK.eqV (PySem.W.specialIn K (.ref (a_p5 K)) "__get__") (some (some (.builtin "property.__get__"))),
  HK.eqB (PySem.W.takesIn K (.ref (a_p5 K))) (some true),
  HK.recB K (a_p5 K) "property" (a_g5 K),
  HK.eqV (PySem.W.findIn K (.ref (a_cP K)) "deeds_of") (some (some (.ref (a_fDof K)))),
  (PySem.W.isFn K (.ref (a_fDof K))),
  HK.eqV (PySem.W.findIn K (.ref (a_cP K)) "has_place") (some (some (.ref (a_fHp K)))),
  (PySem.W.isFn K (.ref (a_fHp K))),
  HK.eqV (PySem.W.nsIn K mainGlobals "Deed") (some (some (.ref (a_CD K)))),
  (HK.rdB K (a_CD K)).all id,
  HK.cvalI K (a_CD K) "MOST" 3,
  HK.eqV (PySem.W.nsIn K mainGlobals "needed") (some (some (.ref (a_fN K)))),
  HK.eqV (PySem.W.nsIn K mainGlobals "is_name") (some (some (.ref (a_fIs K)))),
  HK.eqV (PySem.W.nsIn K mainGlobals "is_number") (some (some (.ref (a_fNum K)))),
  HK.eqV (PySem.W.nsIn K mainGlobals "is_count") (some (some (.ref (a_fCnt K)))),
  HK.eqV (PySem.W.nsIn K mainGlobals "is_price") (some (some (.ref (a_fPri K)))),
  HK.eqV (PySem.W.nsIn K mainGlobals "check_names") (some (some (.ref (a_fCns K)))),
  HK.eqV (PySem.W.nsIn K mainGlobals "check_unlike") (some (some (.ref (a_fCun K)))),
  HK.eqV (PySem.W.nsIn K mainGlobals "ascending") (some (some (.ref (a_fAsc K)))),
  HK.eqV (PySem.W.nsIn K mainGlobals "check_used") (some (some (.ref (a_fCus K)))),
  HK.eqV (PySem.W.nsIn K mainGlobals "check_parts") (some (some (.ref (a_fCp K)))),
  HK.eqV (PySem.W.nsIn K mainGlobals "check_sizes") (some (some (.ref (a_fCz K)))),
  HK.eqV (PySem.W.nsIn K mainGlobals "check_told_names") (some (some (.ref (a_fCt K)))),
  HK.eqV (PySem.W.nsIn K mainGlobals "all_names") (some (some (.ref (a_fAn K)))),
  HK.eqV (PySem.W.nsIn K mainGlobals "check_values") (some (some (.ref (a_fCv K)))),
  HK.eqV (PySem.W.nsIn K mainGlobals "check_deed_partchecks") (some (some (.ref (a_fCd K)))),
  HK.eqV (PySem.W.nsIn K mainGlobals "needed_along") (some (some (.ref (a_fAl K)))),
  HK.eqV (PySem.W.nsIn K mainGlobals "needed_at_head") (some (some (.ref (a_fHd K)))),
  HK.eqV (PySem.W.nsIn K mainGlobals "needed_at_end") (some (some (.ref (a_fEn K)))),
  HK.eqV (PySem.W.nsIn K mainGlobals "needed_in_part") (some (some (.ref (a_fIp K)))),
  HK.eqV (PySem.W.nsIn K mainGlobals "_law_pen") (some (some (.ref (a_fPen K)))),
  HK.eqV (PySem.W.nsIn K mainGlobals "_law_draw") (some (some (.ref (a_fDraw K)))),
  HK.eqV (PySem.W.nsIn K mainGlobals "_law_pick") (some (some (.ref (a_fPick K)))),
  HK.eqV (PySem.W.nsIn K mainGlobals "_law_some") (some (some (.ref (a_fSome K)))),
  HK.eqV (PySem.W.nsIn K mainGlobals "_law_names") (some (some (.ref (a_fNames K)))),
  HK.eqV (PySem.W.nsIn K mainGlobals "_law_real_deed") (some (some (.ref (a_fReal K)))),
  HK.eqV (PySem.W.nsIn K mainGlobals "_law_order") (some (some (.ref (a_fOr K)))),
  HK.eqV (PySem.W.nsIn K mainGlobals "_law_deeds") (some (some (.ref (a_fDs K)))),
  HK.eqV (PySem.W.nsIn K mainGlobals "_law_site") (some (some (.ref (a_fSi K)))),
  HK.eqV (PySem.W.nsIn K mainGlobals "_law_real_part") (some (some (.ref (a_fRp K)))),
  HK.eqV (PySem.W.nsIn K mainGlobals "_law_real") (some (some (.ref (a_fRl K)))),
  HK.eqV (PySem.W.nsIn K mainGlobals "_law_is_wanted") (some (some (.ref (a_fIw K)))),
  HK.eqV (PySem.W.nsIn K mainGlobals "_law_words_of") (some (some (.ref (a_fWo K)))),
  HK.eqV (PySem.W.nsIn K mainGlobals "_law_wanted") (some (some (.ref (a_fWa K)))),
  HK.eqV (PySem.W.nsIn K mainGlobals "_law_rest") (some (some (.ref (a_fRe K)))),
  HK.eqV (PySem.W.nsIn K mainGlobals "_law_ahead_right") (some (some (.ref (a_fAr K)))),
  HK.eqV (PySem.W.nsIn K mainGlobals "_law_loop_right") (some (some (.ref (a_fLr K)))),
  HK.eqV (PySem.W.nsIn K mainGlobals "law") (some (some (.ref (a_fLaw K))))]
def as_ : List Addr := [3, 2, 6, 4, 21, 38, 58, 77, 96, 115, 134, 153, 172, 191, 210, 229, 241, 253, 272, 281, 288, 295, 302, 309, 316, 323, 331, 338, 345, 352, 357, 407, 428, 447, 466, 475, 482, 483, 491, 498, 505, 512, 519, 526, 533, 591, 540, 547, 548, 549, 556, 563, 570, 577, 584, 598, 605, 610, 615, 813, 824, 831, 838, 845, 852, 859, 864, 871, 878, 885, 892, 897, 902, 907, 914, 919, 924, 931, 938, 945, 952, 0, 20, 37, 57, 76, 95, 114, 133, 152, 171, 190, 209, 228, 240, 252, 271, 280, 287, 294, 301, 308, 315, 322, 330, 324, 337, 344, 351, 356, 406, 427, 446, 465, 474, 481, 484, 485, 486, 490, 497, 504, 511, 518, 525, 532, 590, 539, 546, 555, 562, 569, 576, 583, 597, 604, 609, 614, 812, 823, 830, 837, 844, 851, 858, 863, 870, 877, 884, 891, 896, 901, 906, 913, 918, 923, 930, 937, 944, 951, 15, 16, 17, 18, 19, 35, 36, 39, 55, 56, 74, 75, 93, 94, 112, 113, 131, 132, 150, 151, 169, 170, 188, 189, 207, 208, 226, 227, 239, 251, 269, 270, 275, 276, 277, 278, 279, 282, 283, 284, 285, 286, 289, 290, 291, 292, 293, 296, 297, 298, 299, 300, 303, 304, 305, 306, 307, 310, 311, 312, 313, 314, 317, 318, 319, 320, 321, 325, 326, 327, 328, 329, 332, 333, 334, 335, 336, 339, 340, 341, 342, 343, 346, 347, 348, 349, 350, 353, 354, 355, 372, 380, 389, 397, 404, 405, 408, 409, 425, 426, 444, 445, 463, 464, 469, 470, 471, 472, 473, 476, 477, 478, 479, 480, 487, 488, 489, 492, 493, 494, 495, 496, 499, 500, 501, 502, 503, 506, 507, 508, 509, 510, 513, 514, 515, 516, 517, 520, 521, 522, 523, 524, 527, 528, 529, 530, 531, 585, 586, 587, 588, 589, 534, 535, 536, 537, 538, 541, 542, 543, 544, 545, 550, 551, 552, 553, 554, 557, 558, 559, 560, 561, 564, 565, 566, 567, 568, 571, 572, 573, 574, 575, 578, 579, 580, 581, 582, 592, 593, 594, 595, 596, 599, 600, 601, 602, 603, 606, 607, 608, 611, 612, 613, 636, 644, 652, 660, 668, 676, 684, 692, 700, 708, 714, 722, 729, 736, 743, 750, 758, 765, 772, 779, 786, 795, 803, 810, 811, 814, 815, 818, 819, 820, 821, 822, 825, 826, 827, 828, 829, 832, 833, 834, 835, 836, 839, 840, 841, 842, 843, 846, 847, 848, 849, 850, 853, 854, 855, 856, 857, 860, 861, 862, 865, 866, 867, 868, 869, 872, 873, 874, 875, 876, 879, 880, 881, 882, 883, 886, 887, 888, 889, 890, 893, 894, 895, 898, 899, 900, 903, 904, 905, 908, 909, 910, 911, 912, 915, 916, 917, 920, 921, 922, 925, 926, 927, 928, 929, 932, 933, 934, 935, 936, 939, 940, 941, 942, 943, 946, 947, 948, 949, 950, 34, 54, 73, 92, 111, 130, 149, 168, 187, 206, 225, 268, 371, 379, 387, 388, 396, 403, 424, 443, 462, 635, 628, 629, 643, 651, 659, 667, 675, 683, 691, 699, 707, 713, 721, 728, 735, 742, 749, 757, 751, 764, 771, 778, 785, 793, 794, 802, 809, 29, 30, 31, 32, 33, 49, 50, 51, 52, 53, 68, 69, 70, 71, 72, 87, 88, 89, 90, 91, 106, 107, 108, 109, 110, 125, 126, 127, 128, 129, 144, 145, 146, 147, 148, 163, 164, 165, 166, 167, 182, 183, 184, 185, 186, 201, 202, 203, 204, 205, 220, 221, 222, 223, 224, 263, 264, 265, 266, 267, 370, 378, 386, 390, 391, 392, 393, 394, 395, 398, 399, 400, 401, 402, 419, 420, 421, 422, 423, 438, 439, 440, 441, 442, 457, 458, 459, 460, 461, 630, 631, 632, 633, 634, 623, 624, 625, 626, 627, 642, 650, 658, 666, 674, 682, 690, 698, 706, 712, 720, 723, 724, 725, 726, 727, 730, 731, 732, 733, 734, 737, 738, 739, 740, 741, 744, 745, 746, 747, 748, 752, 753, 754, 755, 756, 759, 760, 761, 762, 763, 766, 767, 768, 769, 770, 773, 774, 775, 776, 777, 780, 781, 782, 783, 784, 792, 796, 797, 798, 799, 800, 801, 804, 805, 806, 807, 808, 365, 366, 367, 368, 369, 373, 374, 375, 376, 377, 381, 382, 383, 384, 385, 637, 638, 639, 640, 641, 645, 646, 647, 648, 649, 653, 654, 655, 656, 657, 661, 662, 663, 664, 665, 669, 670, 671, 672, 673, 677, 678, 679, 680, 681, 685, 686, 687, 688, 689, 693, 694, 695, 696, 697, 701, 702, 703, 704, 705, 709, 710, 711, 715, 716, 717, 718, 719, 787, 788, 789, 790, 791]
abbrev R : OpenRow := OpenLaw.row PySem.Challenge.rw_loopstow_k33_needed_in_loops
def loose : List PySem.Str := (["_wall", "StowError", "BadName", "BadDeed", "BadNumber", "BadPrice", "BadPlace", "BadPart", "Twice", "TooMany", "Unmade", "MadeAgain", "NoLoop", "TwoLoops", "BadText", "LETTERS", "DIGITS", "MOST_LETTERS", "MOST_PRICE", "is_name", "is_number", "is_count", "is_price", "check_names", "check_unlike", "ascending", "needed", "needed_in_part", "needed_at_end", "needed_at_head"] : List PySem.Str) ++ (["needed_along", "Deed", "Use", "Make", "Do", "check_used", "deed_of", "DEED_FORMS", "program_of_text", "begins", "read_names", "read_again", "read_parts", "read_loop", "read_deeds", "check_deed", "check_deed_parsing", "check_length", "PARTS", "LOOPS", "MOST_AHEAD", "MOST_IN_PART", "MOST_NAMES", "check_parts", "check_sizes", "check_told_names", "all_names", "check_values", "check_deed_partchecks", "show_program"] : List PySem.Str) ++ (["names_line", "again_lines", "deed_lines", "Program", "check_one_loop", "repeated", "with_parts", "_law_pen", "_law_draw", "_law_pick", "_law_some", "_law_names", "_law_real_deed", "_law_order", "_law_deeds", "_law_site", "_law_real_part", "_law_real", "_law_is_wanted", "_law_words_of", "_law_wanted", "_law_rest", "_law_ahead_right", "_law_loop_right"] : List PySem.Str)
abbrev hk : Hook := HK.hook as_ fns [] ex
def ob (s : SharedT) : HK.Al := HK.obs as_ fns [] ex (HandSHeadRun.getT s)
theorem runF (w : World) : HandSHeadRun.RunEq R (view R.prog [94]) hk ob 20000 loose (w.withFollow "special-get-raises" false) := by
  intro os
  kernel_rfl
theorem runT (w : World) : HandSHeadRun.RunEq R (view R.prog [94]) hk ob 20000 loose (w.withFollow "special-get-raises" true) := by
  intro os
  kernel_rfl
theorem run (w : World) : HandSHeadRun.RunEq R (view R.prog [94]) hk ob 20000 loose w := byRow2 "special-get-raises" (P := fun w => HandSHeadRun.RunEq R (view R.prog [94]) hk ob 20000 loose w) runF runT w
end K33H
set_option Elab.async false
set_option linter.all false
set_option maxRecDepth 100000
set_option maxHeartbeats 4000000
namespace K33
open PySem L2
def top (i : Nat) : Stmt := PySem.Challenge.pw_loopstow_k33_needed_in_loops.main.body.getD i (.Pass ⟨0, 0, 0, 0⟩)
abbrev sPen : Stmt := top 77
abbrev sDraw : Stmt := top 78
abbrev sPick : Stmt := top 79
/-- the pen at p: its cells at c, how many cells are read, what is left of a great cell -/
structure Pen (H : Hp) (p c : Addr) (ns : List Int) (at_ rest : Int) : Prop where
  hp : H p = some (.lst [.ref c, .int at_, .int rest])
  hc : H c = some (.lst (ns.map V.int))
  la : 0 ≤ at_
  lr : 0 ≤ rest
theorem Pen.ne {H : Hp} {p c : Addr} {ns : List Int} {at_ rest : Int} (P : Pen H p c ns at_ rest) : c ≠ p := fun e => by
  have h1 := P.hp
  rw [← e, P.hc] at h1
  have h2 : ns.map V.int = [.ref c, .int at_, .int rest] := by injection h1 with h; injection h
  cases ns with
  | nil => cases h2
  | cons a r => simp at h2
/-- all but what stands at p is as it was -/
def But (p : Addr) (H H' : Hp) : Prop := ∀ b o, H b = some o → b ≠ p → H' b = some o
/-- what a draw leaves -/
def Drawn (H : Hp) (p c : Addr) (ns : List Int) (m : Int) (H' : Hp) : Prop := ∃ at' rest', Pen H' p c ns at' rest' ∧ at' ≤ m ∧ But p H H'
def spDraw : Sp := fun vs H Q _ => ∃ (p c : Addr) (ns : List Int) (at_ rest many : Int), vs = [.ref p, .int many] ∧ Pen H p c ns at_ rest ∧ at_ ≤ 1000000 ∧ 1 ≤ many ∧ many < 1073741824 ∧
  ∀ d H', 0 ≤ d → d < many → Drawn H p c ns (at_ + 1) H' → Q (.int d) H'
theorem scDraw : FnScope ["_law_pen_here", "_law_many", "_law_digit", "_law_at", "_law_cell", "_law_great", "_law_mixed"] ["_law_pen_here", "_law_many"] (defScope sDraw) := ⟨rfl, rfl, rfl, by decide +kernel, rfl, by decide +kernel, by decide +kernel⟩
theorem dpInts {K : PySem.W.Frag} {H : Hp} : ∀ ns : List Int, DpAll K H (ns.map V.int) (ns.map PyData.int)
  | [] => .nil
  | n :: r => .cons (.int n) (dpInts r)
structure TxtB (mg : Str → Option Value) : Prop where
  bint : mg "int" = none
  blen : mg "len" = none
  babs : mg "abs" = none
  blist : mg "list" = none
  bstr : mg "str" = none
  btuple : mg "tuple" = none
  bisinstance : mg "isinstance" = none
  brepr : mg "repr" = none
  brange : mg "range" = none
  benumerate : mg "enumerate" = none
  bVE : mg "ValueError" = none
section
variable {P : Program} {w : World} {K : PySem.W.Frag} {mg : Str → Option Value} {base : Heap}
theorem ok_draw {f : Addr} {fd : FuncData} (F : Fun K "_law_draw" "_law_draw" sDraw f fd) (T : TxtB mg) : FnOk P w K mg base CX0 1 f fd ["_law_pen_here", "_law_many"] spDraw := by
  refine F.ok scDraw (fun vs H Q E h => ?_) (fun cdv A outer s H vs Q E hr h => ?_)
  · obtain ⟨p, c, ns, a, r, m, rfl, _⟩ := h
    rfl
  · obtain ⟨p, c, ns, at_, rest, many, rfl, Pn, ha, hm1, hm2, k⟩ := h
    have hu := hu_of hr
    refine ⟨_, (pss_cons (ps_if (pt_cmpR op_gt (pe_ix ix_list (pv 0) pe_int (fun _ _ => rfl)) pe_int (nomark _)) (pss_cons (ps_set (i := 2) scDraw.nd rfl (Or.inl rfl) (pe_op op_mod (pe_callTy call_int1 (by rfl) T.bint (by decide +kernel) (pa_cons (pe_ix ix_list (pv 0) pe_int (fun _ _ => rfl)) pa_nil)) (pv 1)))
      (pss_cons (ps_asg (pe_op op_fdiv (pe_callTy call_int1 (by rfl) T.bint (by decide +kernel) (pa_cons (pe_ix ix_list (pv 0) pe_int (fun _ _ => rfl)) pa_nil)) (pv 1)) (pg_sub (pv 0) pe_int set_list))
      (pss_one (ps_ret (pv 2))))) pss_nil)
      (pss_cons (ps_set (i := 3) scDraw.nd rfl (Or.inl rfl) (pe_ix ix_list (pv 0) pe_int (fun _ _ => rfl)))
      (pss_cons (ps_asg (pe_op op_add (pv 3) pe_int) (pg_sub (pv 0) pe_int set_list))
      (pss_cons (ps_set (i := 4) scDraw.nd rfl (Or.inl rfl) (pe_op op_add (pe_op op_mul pe_int (pv 3)) pe_int))
      (C8.pss_cut (ps_if (pt_cmpR (op_neD hr.units) (pe_ix ix_list (pv 0) pe_int (fun _ _ => rfl)) (pe_lst pa_nil) (nomark _)) (pss_one (ps_set (i := 4) scDraw.nd rfl (Or.inl rfl) (pe_ix ix_list (pe_ix ix_list (pv 0) pe_int (fun _ _ => rfl)) (pe_op op_mod (pe_callTy call_int1 (by rfl) T.bint (by decide +kernel) (pa_cons (pv 3) pa_nil)) (pe_callB call_len_seq (by rfl) T.blen (by decide +kernel) (pa_cons (pe_ix ix_list (pv 0) pe_int (fun _ _ => rfl)) pa_nil))) (fun _ _ => rfl)))) pss_nil)
      (C8.pss_cut (ps_if (PW.pt (pw_and (pt_cmpR op_lt (pv 3) (pe_callB call_len_seq (by rfl) T.blen (by decide +kernel) (pa_cons (pe_ix ix_list (pv 0) pe_int (fun _ _ => rfl)) pa_nil)) (nomark _)) (pw_and1 (pt_cmpR op_ge (pe_callB call_abs (by rfl) T.babs (by decide +kernel) (pa_cons (pv 4) pa_nil)) (pe_op op_pow pe_int pe_int) (nomark _))))) (pss_cons (ps_set (i := 5) scDraw.nd rfl (Or.inl rfl) (pe_op op_add (pe_op op_mul pe_int (pe_op op_sub (pe_callB call_abs (by rfl) T.babs (by decide +kernel) (pa_cons (pv 4) pa_nil)) (pe_op op_pow pe_int pe_int))) (pe_callTy call_int1 (by rfl) T.bint (by decide +kernel) (pa_cons (pe_cmpR op_lt (pv 4) pe_int (nomark _)) pa_nil))))
      (pss_cons (ps_asg (pe_op op_fdiv (pe_callTy call_int1 (by rfl) T.bint (by decide +kernel) (pa_cons (pv 5) pa_nil)) (pv 1)) (pg_sub (pv 0) pe_int set_list))
      (pss_one (ps_ret (pe_op op_mod (pe_callTy call_int1 (by rfl) T.bint (by decide +kernel) (pa_cons (pv 5) pa_nil)) (pv 1)))))) pss_nil)
      (pss_cons (ps_set (i := 6) scDraw.nd rfl (Or.inl rfl) (pe_op op_mod (pe_callTy call_int1 (by rfl) T.bint (by decide +kernel) (pa_cons (pe_op op_pow (pe_op op_add (pe_op op_add (pe_op op_mod (pe_callTy call_int1 (by rfl) T.bint (by decide +kernel) (pa_cons (pv 4) pa_nil)) pe_int) (pe_op op_mul pe_int (pv 3))) pe_int) pe_int) pa_nil)) pe_int))
      (pss_cons (ps_set (i := 6) scDraw.nd rfl (Or.inl rfl) (pe_op op_mod (pe_callTy call_int1 (by rfl) T.bint (by decide +kernel) (pa_cons (pe_op op_pow (pe_op op_add (pe_op op_add (pe_op op_mul (pv 6) (pe_op op_add (pe_op op_mul pe_int (pv 3)) pe_int)) (pe_op op_mul (pe_op op_mul pe_int (pv 3)) (pv 3))) pe_int) pe_int) pa_nil)) pe_int))
      (pss_one (ps_ret (pe_op op_mod (pe_callTy call_int1 (by rfl) T.bint (by decide +kernel) (pa_cons (pe_op op_fdiv (pv 6) pe_int) pa_nil)) (pv 1)))))))))))), ?_⟩
    -- pen[2] > 0
    refine ⟨_, rfl, p, _, _, _, rfl, rfl, SqL.of Pn.hp, rfl, rest, 0, rfl, rfl, _, rfl, ite2 (fun h0 => ?_) (fun h0 => ?_)⟩
    · have hr0 : 0 < rest := of_decide_eq_true h0
      refine ⟨_, rfl, p, _, _, _, rfl, rfl, SqL.of Pn.hp, rfl, .inl ⟨rest, rfl, _, rfl, rest, many, rfl, rfl, (by show 0 < many; omega), ?_⟩⟩
      refine ⟨_, rfl, p, _, _, _, rfl, rfl, SqL.of Pn.hp, rfl, .inl ⟨rest, rfl, _, rfl, rest, many, rfl, rfl, ⟨by omega, by omega⟩, ?_⟩⟩
      refine ⟨_, rfl, p, _, _, _, rfl, rfl, Pn.hp, rfl, _, rfl, ?_⟩
      refine k _ _ (Int.emod_nonneg _ (by omega)) (Int.emod_lt_of_pos _ (by omega)) ⟨at_, rest / many, ⟨upd_same, by rw [upd_ne Pn.ne]; exact Pn.hc, Pn.la, Int.ediv_nonneg Pn.lr (by omega)⟩, by omega, fun b o hb hn => by rw [upd_ne hn]; exact hb⟩
    · -- at = pen[1]; pen[1] = at + 1
      refine ⟨_, rfl, p, _, _, _, rfl, rfl, SqL.of Pn.hp, rfl, ?_⟩
      refine ⟨_, rfl, at_, 1, rfl, rfl, _, rfl, p, _, _, _, rfl, rfl, Pn.hp, rfl, ?_⟩
      have P1 : Pen (upd H p (.lst [.ref c, .int (at_ + 1), .int rest])) p c ns (at_ + 1) rest := ⟨upd_same, by rw [upd_ne Pn.ne]; exact Pn.hc, by have := Pn.la; omega, Pn.lr⟩
      have B1 : But p H (upd H p (.lst [.ref c, .int (at_ + 1), .int rest])) := fun b o hb hn => by rw [upd_ne hn]; exact hb
      -- cell = ..
      refine ⟨_, rfl, _, at_, rfl, rfl, .inl ⟨by decide, by decide⟩, _, _, rfl, rfl, ?_⟩
      refine ⟨fun σ H' => ∃ (cell : Int) (v2 v5 v6 : Option V), σ = [some (.ref p), some (.int many), v2, some (.int at_), some (.int cell), v5, v6] ∧ Pen H' p c ns (at_ + 1) rest ∧ But p H H', ?_, ?_⟩
      · -- if pen[0] != []
        refine ⟨_, rfl, p, _, _, _, rfl, rfl, SqL.of P1.hp, rfl, by decide, fun l hl => ?_⟩
        have npl : p ≠ l := ne_of_none P1.hp hl
        have ncl : c ≠ l := ne_of_none P1.hc hl
        have P2 : Pen (upd (upd H p (.lst [.ref c, .int (at_ + 1), .int rest])) l (.lst [])) p c ns (at_ + 1) rest := ⟨by rw [upd_ne npl]; exact P1.hp, by rw [upd_ne ncl]; exact P1.hc, P1.la, P1.lr⟩
        have B2 : But p H (upd (upd H p (.lst [.ref c, .int (at_ + 1), .int rest])) l (.lst [])) := fun b o hb hn => by
          rw [upd_ne (ne_of_none (B1 b o hb hn) hl)]
          exact B1 b o hb hn
        refine ⟨_, _, .lst (SqL.of P2.hc) (dpInts ns), .lst (SqL.of upd_same) .nil, PySem.W.ke_shaped_ints ns, by decide +kernel, _, rfl, ?_⟩
        cases ns with
        | nil => exact iteF ⟨_, none, none, none, rfl, P2, B2⟩
        | cons n0 nr =>
          refine iteT ?_
          refine ⟨_, rfl, p, _, _, _, rfl, rfl, SqL.of P2.hp, rfl, _, rfl, .inl ⟨at_, rfl, _, rfl, p, _, _, _, rfl, rfl, SqL.of P2.hp, rfl, c, _, rfl, .inl (SqL.of P2.hc), at_, _, rfl, rfl, (by simp), ?_⟩⟩
          have hpos : (0 : Int) < (((n0 :: nr).map V.int).length : Int) := by simp
          have h1 := Int.emod_nonneg at_ (Int.ne_of_gt hpos)
          have h2 := Int.emod_lt_of_pos at_ hpos
          obtain ⟨j, hj⟩ := Int.eq_ofNat_of_zero_le h1
          have hjl : j < (n0 :: nr).length := by rw [hj] at h2; simp at h2 ⊢; omega
          refine ⟨c, _, _, .int ((n0 :: nr)[j]'hjl), rfl, rfl, SqL.of P2.hc, ?_, ?_⟩
          · rw [hj]
            exact atI_nat (by rw [List.getElem?_map, List.getElem?_eq_getElem hjl]; rfl)
          · exact ⟨_, none, none, none, rfl, P2, B2⟩
      · rintro σ' H' ⟨cell, v2, v5, v6, rfl, P2, B2⟩
        have hla := Pn.la
        have fin : ∀ (H2 : Hp) (x : Int), Drawn H p c ns (at_ + 1) H2 → Q (.int (x % many)) H2 := fun H2 x hd => k _ _ (Int.emod_nonneg _ (by omega)) (Int.emod_lt_of_pos _ (by omega)) hd
        have D2 : Drawn H p c ns (at_ + 1) H' := ⟨_, _, P2, by omega, B2⟩
        have m1 := Int.emod_nonneg cell (show (2147483587 : Int) ≠ 0 by decide)
        have m2 := Int.emod_lt_of_pos cell (show (0 : Int) < 2147483587 by decide)
        refine ⟨fun σ H2 => σ = [some (.ref p), some (.int many), v2, some (.int at_), some (.int cell), v5, v6] ∧ H2 = H', ?_, ?_⟩
        · -- at < len(pen[0]) and abs(cell) >= 10 ** 18
          refine ⟨_, rfl, _, rfl, p, _, _, _, rfl, rfl, SqL.of P2.hp, rfl, c, _, rfl, .inl (SqL.of P2.hc), at_, _, rfl, rfl, _, rfl, ?_⟩
          refine ite2 (fun hlt => ?_) (fun hlt => iteF ⟨rfl, rfl⟩)
          refine ⟨_, rfl, cell, rfl, 10, 18, rfl, rfl, ⟨by decide, by decide, by decide⟩, _, _, rfl, rfl, _, rfl, ?_⟩
          refine ite2 (fun hge => ?_) (fun hge => ⟨rfl, rfl⟩)
          have hge := of_decide_eq_true hge
          have h3 : (1000000000000000000 : Int) ≤ if cell < 0 then -cell else cell := hge
          refine ⟨_, rfl, cell, rfl, 10, 18, rfl, rfl, ⟨by decide, by decide, by decide⟩, _, _, rfl, rfl, 2, _, rfl, rfl, .inl ⟨by decide, by decide⟩, _, rfl, cell, 0, rfl, rfl, .inr ⟨_, rfl, _, _, rfl, rfl, ?_⟩⟩
          refine ⟨_, rfl, .inl ⟨_, rfl, _, rfl, _, many, rfl, rfl, ⟨by omega, by omega⟩, _, rfl, p, _, _, _, rfl, rfl, P2.hp, rfl, ?_⟩⟩
          refine ⟨_, rfl, .inl ⟨_, rfl, _, rfl, _, many, rfl, rfl, (by show 0 < many; omega), ?_⟩⟩
          refine fin _ _ ⟨at_ + 1, _, ⟨upd_same, by rw [upd_ne Pn.ne]; exact P2.hc, P2.la, Int.ediv_nonneg ?_ (by omega)⟩, by omega, fun b o hb hn => by rw [upd_ne hn]; exact B2 b o hb hn⟩
          have h4 : (0 : Int) ≤ if decide (cell < 0) = true then 1 else 0 := by split <;> omega
          show (0 : Int) ≤ 2 * ((if cell < 0 then -cell else cell) - 1000000000000000000) + (if decide (cell < 0) = true then 1 else 0)
          omega
        · rintro σ2 H2 ⟨rfl, rfl⟩
          -- mixed, twice
          refine ⟨_, rfl, .inl ⟨cell, rfl, cell, _, rfl, rfl, (by show (0 : Int) < 2147483587; decide), _, rfl, _, at_, rfl, rfl, .inl ⟨by decide, by decide⟩, _, _, rfl, rfl, _, _, rfl, rfl, _, 3, rfl, rfl, ⟨by decide, by decide, ?_⟩, .inl ⟨_, rfl, _, _, rfl, rfl, (by show (0 : Int) < 2147483647; decide), ?_⟩⟩⟩
          · show (cell % 2147483587 + 50123 * at_ + 151).natAbs < 2 ^ 64
            omega
          obtain ⟨M, hM⟩ : ∃ M : Int, M = (cell % 2147483587 + 50123 * at_ + 151) ^ (3 : Int).toNat % 2147483647 := ⟨_, rfl⟩
          have m3 : 0 ≤ M := by rw [hM]; exact Int.emod_nonneg _ (by decide)
          have m4 : M < 2147483647 := by rw [hM]; exact Int.emod_lt_of_pos _ (by decide)
          have m5 : 0 ≤ M * (2 * at_ + 157) := Int.mul_nonneg m3 (by omega)
          have m6 : M * (2 * at_ + 157) ≤ 2147483647 * 2000157 := Int.mul_le_mul (by omega) (by omega) (by omega) (by decide)
          have m7 : 0 ≤ 61211 * at_ * at_ := Int.mul_nonneg (by omega) (by omega)
          have m8 : 61211 * at_ * at_ ≤ 61211 * 1000000 * 1000000 := Int.mul_le_mul (by omega) (by omega) (by omega) (by decide)
          refine ⟨V.int M, by rw [hM]; rfl, _, rfl, 2, at_, rfl, rfl, .inl ⟨by decide, by decide⟩, _, _, rfl, rfl, M, _, rfl, rfl, .inl ⟨by omega, by omega⟩, ?_⟩
          refine ⟨_, rfl, 61211, at_, rfl, rfl, .inl ⟨by decide, by decide⟩, _, rfl, _, at_, rfl, rfl, .inr ⟨by omega, by omega⟩, _, _, rfl, rfl, _, _, rfl, rfl, _, 5, rfl, rfl, ⟨by decide, by decide, ?_⟩, ?_⟩
          · show (M * (2 * at_ + 157) + 61211 * at_ * at_ + 59).natAbs < 2 ^ 64
            omega
          refine .inl ⟨_, rfl, _, _, rfl, rfl, (by show (0 : Int) < 2147483563; decide), ?_⟩
          exact ⟨_, rfl, _, 16, rfl, rfl, ⟨by decide, by decide⟩, .inl ⟨_, rfl, _, rfl, _, many, rfl, rfl, (by show 0 < many; omega), fin _ _ D2⟩⟩
end
end K33

set_option Elab.async false
set_option linter.all false
set_option maxRecDepth 100000
set_option maxHeartbeats 4000000
namespace K33
open PySem L2
theorem But.seq {K : PySem.W.Frag} {H H' : Hp} {p a : Addr} {xs : List V} (B : But p H H') (n : a ≠ p) (h : SqL K H a xs) : SqL K H' a xs := by
  rcases h with (h | ⟨o, h⟩) | h
  · exact .inl (.inl (B _ _ h n))
  · exact .inl (.inr ⟨o, B _ _ h n⟩)
  · exact .inr h
theorem But.trans {p : Addr} {H H1 H2 : Hp} (a : But p H H1) (b : But p H1 H2) : But p H H2 := fun c o h n => b c o (a c o h n) n
theorem But.refl {p : Addr} {H : Hp} : But p H H := fun _ _ h _ => h
theorem But.new {p a : Addr} {H : Hp} {o : HO} (h : H a = none) : But p H (upd H a o) := fun b u e _ => by rw [upd_ne (ne_of_none e h)]; exact e
theorem But.same {p : Addr} {H H1 : Hp} (s : Same H H1) : But p H H1 := fun b o h _ => s b o h
theorem Same.new {a : Addr} {H : Hp} {o : HO} (h : H a = none) : Same H (upd H a o) := fun b u e => by rw [upd_ne (ne_of_none e h)]; exact e
theorem Pen.same {H H' : Hp} {p c : Addr} {ns : List Int} {at_ rest : Int} (P : Pen H p c ns at_ rest) (s : Same H H') : Pen H' p c ns at_ rest := ⟨s _ _ P.hp, s _ _ P.hc, P.la, P.lr⟩
def spPen (K : PySem.W.Frag) : Sp := fun vs H Q _ => ∃ (a : Addr) (ns : List Int), vs = [.ref a] ∧ SqL K H a (ns.map V.int) ∧ ∀ (p c : Addr) (ms : List Int) (H' : Hp), H p = none → Pen H' p c ms 0 0 → Same H H' → Q (.ref p) H'
theorem scPen : FnScope ["_law_script"] ["_law_script"] (defScope sPen) := ⟨rfl, rfl, rfl, by decide +kernel, rfl, by decide +kernel, by decide +kernel⟩
def spPick (K : PySem.W.Frag) : Sp := fun vs H Q _ => ∃ (p c : Addr) (ns : List Int) (at_ rest : Int) (x : V), vs = [.ref p, x] ∧ Pen H p c ns at_ rest ∧ at_ ≤ 1000000 ∧
  ((∃ (a : Addr) (xs : List V), x = .ref a ∧ SqL K H a xs ∧ a ≠ p ∧ 0 < xs.length ∧ xs.length < 1000 ∧ ∀ v H', v ∈ xs → Drawn H p c ns (at_ + 1) H' → Q v H') ∨
   (∃ (z : Str), x = .str z ∧ 0 < z.length ∧ z.length < 1000 ∧ ∀ (ch : Nat) H', ch ∈ z.cps.toList → Drawn H p c ns (at_ + 1) H' → Q (.str ⟨#[ch]⟩) H'))
theorem scPick : FnScope ["_law_pen_here", "_law_some_here"] ["_law_pen_here", "_law_some_here"] (defScope sPick) := ⟨rfl, rfl, rfl, by decide +kernel, rfl, by decide +kernel, by decide +kernel⟩
def cutM (ns : List Int) : List Int := (ns.drop (HT.sIx ns.length 0 none)).take (HT.sIx ns.length ns.length (some 63) - HT.sIx ns.length 0 none)
section
variable {P : Program} {w : World} {K : PySem.W.Frag} {mg : Str → Option Value} {base : Heap}
theorem ok_pen {f : Addr} {fd : FuncData} (F : Fun K "_law_pen" "_law_pen" sPen f fd) (T : TxtB mg) : FnOk P w K mg base CX0 1 f fd ["_law_script"] (spPen K) := by
  refine F.ok scPen (fun vs H Q E h => ?_) (fun cdv A outer s H vs Q E hr h => ?_)
  · obtain ⟨a, ns, rfl, _⟩ := h
    rfl
  · obtain ⟨a, ns, rfl, hS, k⟩ := h
    refine ⟨_, (pss_one (ps_ret (pe_lst (pa_cons (pe_callTy call_list_of (by rfl) T.blist (by decide +kernel) (pa_cons (pe_slice sl_list (pv 0) po_none (po_some pe_int)) pa_nil)) (pa_cons pe_int (pa_cons pe_int pa_nil)))))), ?_⟩
    refine ⟨_, rfl, _, rfl, a, _, rfl, hS, fun d hd => ?_⟩
    refine ⟨d, _, rfl, .inl (SqL.of upd_same), fun c hc => ⟨by show 3 ≤ sizeLine; decide, fun p hp => ?_⟩⟩
    have n1 : d ≠ c := ne_of_none upd_same hc
    have n2 : c ≠ p := ne_of_none upd_same hp
    have s1 : Same H (upd H d (.lst (cutV (ns.map V.int) none (some 63)))) := Same.new hd
    have s2 : Same (upd H d (.lst (cutV (ns.map V.int) none (some 63)))) (upd (upd H d (.lst (cutV (ns.map V.int) none (some 63)))) c (.lst (cutV (ns.map V.int) none (some 63)))) := Same.new hc
    have e : cutV (ns.map V.int) none (some 63) = (cutM ns).map V.int := by
      unfold cutV cutM
      rw [← List.map_drop, ← List.map_take, List.length_map]
    refine k p c (cutM ns) _ ((s1.trans s2).free hp) ⟨upd_same, ?_, Int.le_refl _, Int.le_refl _⟩ ((s1.trans s2).trans (Same.new hp))
    rw [upd_ne n2, upd_same, e]
theorem ok_pick {f : Addr} {fd : FuncData} (F : Fun K "_law_pick" "_law_pick" sPick f fd) (T : TxtB mg) (cDraw : C8.Cal P w K mg base 1 "_law_draw" spDraw []) : FnOk P w K mg base CX0 2 f fd ["_law_pen_here", "_law_some_here"] (spPick K) := by
  refine F.ok scPick (fun vs H Q E h => ?_) (fun cdv A outer s H vs Q E hr h => ?_)
  · obtain ⟨p, c, ns, at_, rest, x, rfl, _⟩ := h
    rfl
  · obtain ⟨p, c, ns, at_, rest, x, rfl, Pn, ha, h⟩ := h
    refine ⟨_, (pss_one (ps_ret (pe_ix ix_seq (pv 1) (C8.pe_c cDraw hr (by decide) rfl (pa_cons (pv 0) (pa_cons (pe_callB (CallR.or call_len_seq call_len_str) (by rfl) T.blen (by decide +kernel) (pa_cons (pv 1) pa_nil)) pa_nil))) (fun _ _ => rfl)))), ?_⟩
    rcases h with ⟨a, xs, rfl, hS, hne, h0, h1, k⟩ | ⟨z, rfl, h0, h1, k⟩
    · refine ⟨_, rfl, _, rfl, _, rfl, .inl ⟨a, xs, rfl, .inl hS, ?_⟩⟩
      refine ⟨p, c, ns, at_, rest, _, rfl, Pn, ha, by omega, by omega, fun d H' d0 d1 hD => ?_⟩
      obtain ⟨at', rest', _, _, hB⟩ := id hD
      obtain ⟨j, rfl⟩ := Int.eq_ofNat_of_zero_le d0
      have hj : j < xs.length := by omega
      refine .inl ⟨a, xs, _, xs[j], rfl, rfl, hB.seq hne hS, atI_nat (List.getElem?_eq_getElem hj), k _ _ (List.getElem_mem hj) hD⟩
    · refine ⟨_, rfl, _, rfl, _, rfl, .inr ⟨z, rfl, Nat.le_of_lt (small1000 (by omega)), ?_⟩⟩
      refine ⟨p, c, ns, at_, rest, _, rfl, Pn, ha, by omega, by omega, fun d H' d0 d1 hD => ?_⟩
      obtain ⟨j, rfl⟩ := Int.eq_ofNat_of_zero_le d0
      have hj : j < z.cps.toList.length := by show j < z.cps.toList.length; rw [Array.length_toList]; exact Int.ofNat_lt.mp d1
      refine .inr (.inr ⟨z, _, z.cps.toList[j], rfl, rfl, Nat.le_of_lt (small1000 (by omega)), atI_nat (List.getElem?_eq_getElem hj), k _ _ (List.getElem_mem hj) hD⟩)
end
end K33

set_option linter.all false
namespace NX
open PySem PySem.Builtin PySem.Builtin.Str
theorem tw_all {p : Nat → Bool} : ∀ {l : List Nat}, l.all p = true → l.takeWhile p = l
  | [], _ => rfl
  | c :: r, h => by
    rw [List.all_cons, Bool.and_eq_true] at h
    rw [List.takeWhile_cons, if_pos h.1, tw_all h.2]
theorem tw_lt {p : Nat → Bool} {l : List Nat} (h : l.all p = false) : (l.takeWhile p).length < l.length := by
  induction l with
  | nil => simp at h
  | cons c r ih =>
    rw [List.all_cons] at h
    rw [List.takeWhile_cons]
    by_cases hc : p c = true
    · rw [if_pos hc, List.length_cons, List.length_cons]
      rw [hc, Bool.true_and] at h
      have := ih h
      omega
    · rw [if_neg hc]
      simp
theorem drop_all {p : Nat → Bool} {l : List Nat} (h : l.all p = false) : (l.drop (l.takeWhile p).length).all p = false := by
  induction l with
  | nil => simp at h
  | cons c r ih =>
    rw [List.all_cons] at h
    rw [List.takeWhile_cons]
    by_cases hc : p c = true
    · rw [if_pos hc, List.length_cons, List.drop_succ_cons]
      rw [hc, Bool.true_and] at h
      exact ih h
    · rw [if_neg hc]
      simp [hc]
theorem strip_empty (x y : Str) : (Txt.stripChars x y = ("" : Str)) ↔ x.cps.toList.all y.cps.contains = true := by
  have len : x.length = x.cps.toList.length := by show x.cps.size = _; simp
  have empty : ∀ {z : Str}, z = ("" : Str) ↔ z.cps.toList = [] := fun {z} => by
    constructor
    · intro e
      rw [e]
      decide +kernel
    · intro e
      obtain ⟨⟨l⟩⟩ := z
      have e' : l = [] := e
      subst e'
      decide +kernel
  unfold Txt.stripChars Txt.stripBy stripSame stripped stripLo stripHi
  simp only [if_true]
  cases ha : x.cps.toList.all y.cps.contains with
  | true =>
    rw [tw_all ha]
    refine ⟨fun _ => rfl, fun _ => ?_⟩
    split
    · rename_i q
      rw [Bool.and_eq_true, beq_iff_eq] at q
      exact empty.mpr (List.length_eq_zero_iff.mp q.1)
    · refine empty.mpr ?_
      simp [strSub, len]
  | false =>
    refine ⟨fun e => ?_, fun e => by cases e⟩
    exfalso
    have h1 := tw_lt ha
    have h2 : (((x.cps.toList.drop (x.cps.toList.takeWhile y.cps.contains).length).reverse).takeWhile y.cps.contains).length < (x.cps.toList.drop (x.cps.toList.takeWhile y.cps.contains).length).length := by
      have := tw_lt (p := y.cps.contains) (l := (x.cps.toList.drop (x.cps.toList.takeWhile y.cps.contains).length).reverse) (by rw [List.all_reverse]; exact drop_all ha)
      rwa [List.length_reverse] at this
    rw [List.length_drop] at h2
    split at e
    · rw [empty] at e
      rw [e] at ha
      cases ha
    · rw [empty] at e
      have q := congrArg List.length e
      simp [strSub] at q
      rw [len] at q
      simp at q h1 h2
      omega
/-- a small letter -/
def lett (c : Nat) : Bool := decide (97 ≤ c) && decide (c ≤ 122)
theorem letters_list : ("abcdefghijklmnopqrstuvwxyz" : Str).cps.toList = List.range' 97 26 := by decide +kernel
theorem letters_mem (c : Nat) : c ∈ ("abcdefghijklmnopqrstuvwxyz" : Str).cps.toList ↔ lett c = true := by
  rw [letters_list, List.mem_range'_1]
  unfold lett
  rw [Bool.and_eq_true, decide_eq_true_eq, decide_eq_true_eq]
  omega
theorem letters_has (c : Nat) : ("abcdefghijklmnopqrstuvwxyz" : Str).cps.contains c = lett c := by
  rw [Bool.eq_iff_iff, Array.contains_iff_mem, ← Array.mem_toList_iff]
  exact letters_mem c
/-- is it a name -/
def nm (z : Str) : Bool := decide (1 ≤ z.length) && (decide (z.length ≤ 6) && z.cps.toList.all lett)
theorem strip_nm (z : Str) : decide (Txt.stripChars z ("abcdefghijklmnopqrstuvwxyz" : Str) = ("" : Str)) = z.cps.toList.all lett := by
  rw [Bool.eq_iff_iff, decide_eq_true_eq, strip_empty]
  have e : ("abcdefghijklmnopqrstuvwxyz" : Str).cps.contains = lett := funext letters_has
  rw [e]
end NX

set_option Elab.async false
set_option linter.all false
set_option maxRecDepth 100000
set_option maxHeartbeats 4000000
/-! A rule of my own: «a, *b = xs», xs a list. -/
namespace NX
open PySem PySem.Spec PyProof.Rows L2
def gStar (K : PySem.W.Frag) (t : TGs) : TG := fun v σ H Q => ∃ (a : Addr) (x : V) (rest : List V), v = .ref a ∧ SqL K H a (x :: rest) ∧ rest.length < 16384 ∧ ∀ D, H D = none → t [x, .ref D] σ (upd H D (.lst rest)) Q
section
variable {X : Cx} {e1 e2 : Expr} {k : Nat} {pos sp : Pos} {t : TGs}
theorem pg_star (hc : X.calm = true) (h : PGs X [e1, e2] t) (hm : (assignEach [e1, .Starred e2 sp] X.env).map (·.2) = (assignEach [e1, e2] X.env).map (·.2) := by rfl) (hl : (assignEach [e1, .Starred e2 sp] X.env).length = 2 := by rfl)
    (hi : (assignEach [e1, .Starred e2 sp] X.env).findIdx? (·.1) = some 1 := by rfl) : PG X (.Tuple [e1, .Starred e2 sp] k pos) (gStar X.K t) := by
  refine ⟨fun pins s σ H v u Q I r hw => ?_⟩
  obtain ⟨a, x, rest, rfl, hq, hz, hw⟩ := hw
  cases r
  obtain ⟨its, rv, pl, _⟩ := I.list hq
  cases rv with
  | @cons _ u1 _ us ra rr =>
    have hlen : rest.length = us.length := Paired.length rr
    have ll := pl.isList
    have hlt : a ≠ s.heap.objs.size := by
      obtain ⟨o, ho, _⟩ := id ll
      exact Nat.ne_of_lt (Heap.lt_size ho)
    rw [PyProof.Rows.assign_Tuple]
    refine wpAny_bind (wpAny_standAt ?_)
    unfold unpack
    rw [hl, hi, hm]
    -- one is drawn, the others are collected, a new list is made of them
    have items : ∀ {R : List Value → Shared → Prop}, (∀ (h2 : Heap) tk, (∀ b o, s.heap.get? b = some o → h2.get? b = some o) → R [u1, .ref h2.objs.size] { s with heap := h2.push { cls := .type "list", data := .seq us.toArray }, toks := tk }) →
        wpAny (model X.prog X.w) X.A (unpackItems (.ref a) 2 (some 1)) R X.xe s := fun {R} hR => by
      unfold unpackItems
      refine wpAny_bind ?_
      unfold notIterableAtAll
      refine wpAny_bind (wpAny_specialOf ll.typeIs slot_list_iter.lookup (wpAny_pure ?_))
      simp only [Bool.false_eq_true, if_false]
      refine wpAny_bind (wpAny_holding (wpAny_pyIter_list ll ?_))
      refine wpAny_bind (wpAny_holding (PySem.W.kun_draw hlt 1 0 _ _ ⟨_, Heap.get?_push_size _ rfl, rfl, rfl⟩ (ll.push _) (by simp) fun h1 it1 sb1 => ?_))
      have l1 : h1.IsList a (u1 :: us).toArray := (ll.push _).extBut sb1.extBut hlt
      obtain ⟨oi, hoi, _⟩ := id it1
      obtain ⟨ol, hol, _⟩ := id l1
      have k1 : ∀ b o, s.heap.get? b = some o → h1.get? b = some o := fun b o e => sb1.extBut b o (Nat.ne_of_lt (Heap.lt_size e)) (Heap.get?_push_of_some _ e)
      show wpAny _ _ (if [u1].length < 1 then _ else _) _ _ _
      rw [if_neg (by simp)]
      refine wpAny_bind (wpAny_holding (PySem.W.kun_collect (s := { s with heap := h1 }) (T := "list_iterator") (.inr (.inr (.inl rfl))) (Walks.list (A := X.A.in1) (I.ok.hd hc) s.heap.objs.size a hlt (u1 :: us).toArray) (fun j u st => st.1.typeIs) (k := 1) (by simp) ⟨it1, l1⟩ (Heap.lt_size hoi) (Heap.lt_size hol) (fun h2 tk k2 => ?_) (by rw [sizeLine_eq]; simp; omega)))
      have e0 : (u1 :: us).toArray.toList.drop 1 = us := by simp
      rw [e0]
      show wpAny _ _ (if us.length < 2 - 1 - 1 then _ else _) _ _ _
      rw [if_neg (by omega)]
      have e1 : us.take (us.length - (2 - 1 - 1)) = us := by simp
      have e2 : us.drop (us.length - (2 - 1 - 1)) = [] := by simp
      have K2 : ∀ b o, s.heap.get? b = some o → h2.get? b = some o := fun b o e => k2 b o (Nat.ne_of_lt (Heap.lt_size e)) (k1 b o e)
      refine wpAny_bind (wpAny_newList (s := { s with heap := h2, toks := tk }) (wpAny_pure ?_) (by rw [e1, sizeLine_eq]; omega))
      have q := hR h2 tk K2
      rw [e1, e2]
      exact q
    refine wpAny_bind (wpAny_holding (items fun h2 tk kp => ?_))
    have I2 : Inv X pins σ H { s with heap := h2, toks := tk } := I.kept kp
    have hn : H h2.objs.size = none := I2.hok.fresh (Nat.le_refl _)
    have J : Inv X pins σ (upd H h2.objs.size (.lst rest)) { s with heap := h2.push { cls := .type "list", data := .seq us.toArray }, toks := tk } :=
      I2.laid (t' := tk) (h' := h2.push { cls := .type "list", data := .seq us.toArray }) (fun b o e => Heap.get?_push_of_some _ e) (Nat.le_refl _) ⟨by rw [sizeLine_eq]; omega, us, 0, rr, Heap.get?_push_size _ rfl⟩
    exact h.run pins _ σ _ [x, .ref h2.objs.size] [u1, .ref h2.objs.size] Q J (.cons ra (.cons rfl .nil)) (hw _ hn)
end
end NX

set_option Elab.async false
set_option linter.all false
set_option maxRecDepth 100000
set_option maxHeartbeats 4000000
namespace K33
open PySem L2 NX
abbrev sIs : Stmt := top 21
theorem scIs : FnScope ["value"] ["value"] (defScope sIs) := ⟨rfl, rfl, rfl, by decide +kernel, rfl, by decide +kernel, by decide +kernel⟩
/-- no text -/
def NoStr (K : PySem.W.Frag) (H : Hp) (x : V) : Prop := ∃ t, TyX K H x t ∧ PySem.W.kitOne K t (.type "str") = some false
def spIs (K : PySem.W.Frag) : Sp := fun vs H Q _ => ∃ x, vs = [x] ∧ ((∃ z, x = .str z ∧ z.length ≤ 1000 ∧ Q (.bl (nm z)) H) ∨ (NoStr K H x ∧ Q (.bl false) H))
structure TxtN (mg : Str → Option Value) : Prop where
  gLet : ∃ t, mg "LETTERS" = some (.str "abcdefghijklmnopqrstuvwxyz" t)
  gMost : ∃ t, mg "MOST_LETTERS" = some (.int 6 t)
section
variable {P : Program} {w : World} {K : PySem.W.Frag} {mg : Str → Option Value} {base : Heap}
theorem ok_is {f : Addr} {fd : FuncData} (F : Fun K "is_name" "is_name" sIs f fd) (T : TxtB mg) (N : TxtN mg) : FnOk P w K mg base CX0 1 f fd ["value"] (spIs K) := by
  refine F.ok scIs (fun vs H Q E h => ?_) (fun cdv A outer s H vs Q E hr h => ?_)
  · obtain ⟨x, rfl, _⟩ := h
    rfl
  · obtain ⟨x, rfl, h⟩ := h
    obtain ⟨t1, gL⟩ := N.gLet
    obtain ⟨t2, gM⟩ := N.gMost
    refine ⟨_, (pss_one (ps_ret (pe_and (pe_callB call_isi (by rfl) T.bisinstance (by decide +kernel) (pa_cons (pv 0) (pa_cons (pe_bltn (v := .ty "str") (by rfl) T.bstr (by decide +kernel) rfl) pa_nil))) (pe_and (pe_chain op_le op_le pe_int (pe_callB call_len_str (by rfl) T.blen (by decide +kernel) (pa_cons (pv 0) pa_nil)) (pe_glob (v := .int 6) rfl gM ⟨_, rfl⟩)) (pe_one (pe_cmpR op_eq (pe_bm PySem.F.plainAttrs_str PySem.F.slot_str_strip PySem.F.type_str_strip mt_stripChars (pv 0) (pa_cons (pe_glob (v := .str "abcdefghijklmnopqrstuvwxyz") rfl gL ⟨_, rfl⟩) pa_nil)) pe_str (nomark _))))))), ?_⟩
    rcases h with ⟨z, rfl, hz, q⟩ | ⟨⟨t, ty, k⟩, q⟩
    · refine ⟨_, rfl, _, _, _, _, true, rfl, .ty "str", .base (.str z), kit_ty (by decide +kernel), true, rfl, iteT ?_⟩
      refine ⟨_, rfl, z, rfl, Nat.le_of_lt (small1000 hz), 1, _, rfl, rfl, _, rfl, ite2 (fun h1 => ?_) (fun h1 => ?_)⟩
      · refine ⟨_, 6, rfl, rfl, _, rfl, ite2 (fun h2 => ?_) (fun h2 => ?_)⟩
        · have e : ∀ b : Bool, b = nm z → Q (.bl b) H := fun b e => by rw [e]; exact q
          refine ⟨_, rfl, rfl, z, _, rfl, rfl, Nat.le_trans hz (by decide), by rfl, e _ ?_⟩
          have e1 := of_decide_eq_true h1
          have e2 := of_decide_eq_true h2
          have g : decide (V.str (Txt.stripChars z (Str.ofString "abcdefghijklmnopqrstuvwxyz")) = V.str (Str.ofString "")) = decide (Txt.stripChars z ("abcdefghijklmnopqrstuvwxyz" : Str) = ("" : Str)) := by
            rw [Bool.eq_iff_iff, decide_eq_true_eq, decide_eq_true_eq]
            exact ⟨fun h => by injection h, fun h => by rw [← h]⟩
          rw [g, strip_nm]
          unfold nm
          rw [decide_eq_true (by omega : 1 ≤ z.length), decide_eq_true (by omega : z.length ≤ 6)]
          rfl
        · have e1 : ¬ (z.length ≤ 6) := fun h => h2 (decide_eq_true (by omega))
          have e : nm z = false := by unfold nm; rw [decide_eq_false e1]; simp
          rw [e] at q
          exact q
      · have e1 : ¬ (1 ≤ z.length) := fun h => h1 (decide_eq_true (by omega))
        have e : nm z = false := by unfold nm; rw [decide_eq_false e1]; simp
        rw [e] at q
        exact ⟨false, rfl, iteF q⟩
    · exact ⟨_, rfl, _, _, _, _, false, rfl, .ty "str", ty, k, false, rfl, iteF q⟩
end
end K33

set_option Elab.async false
set_option linter.all false
set_option maxRecDepth 100000
set_option maxHeartbeats 4000000
/-! Sets of texts: made of a list or a tuple, their length, sorted. -/
namespace NU
open PySem PySem.Spec PyProof.Rows L2
/-- the text of a row of a set's table -/
def txOf (e : Int × Value) : Str := match e.2 with | .str x _ => x | _ => Str.empty
def Tx (wo : World) (e : Int × Value) : Prop := ∃ x u, e.2 = Value.str x u ∧ e.1 = hashStr wo x
/-- the rows of a set of the texts mem, cnt of them -/
structure Rws (wo : World) (mem : Str → Bool) (cnt : Nat) (es : Array (Int × Value)) (t : SetTable) : Prop where
  tx : ∀ e ∈ es.toList, Tx wo e
  nd : (es.toList.map txOf).Nodup
  mm : ∀ x, mem x = true ↔ x ∈ es.toList.map txOf
  few : es.size < scanBound
  fit : t.fits es.size = true
  num : es.size = cnt
  ris : Ris t.place.toList
  led : wo.params.followText "set-order" = true ∨ t.led = true
def SetT (wo : World) (h : Heap) (a : Addr) (mem : Str → Bool) (cnt : Nat) : Prop :=
  ∃ o es ep t, h.get? a = some o ∧ o.ExactSet ∧ o.data = .set es ep t ∧ Rws wo mem cnt es t
section
variable {Pg : Program} {wo : World} {h h2 : Heap} {a : Addr} {mem : Str → Bool} {cnt : Nat}
theorem SetT.mv (R : SetT wo h a mem cnt) (k : ∀ o, h.get? a = some o → h2.get? a = some o) : SetT wo h2 a mem cnt :=
  have ⟨o, es, ep, t, g, r⟩ := R
  ⟨o, es, ep, t, k o g, r⟩
theorem SetT.eqv {mem2 : Str → Bool} (R : SetT wo h a mem cnt) (e : ∀ x, mem2 x = mem x) : SetT wo h a mem2 cnt := (funext e : mem2 = mem) ▸ R
theorem tx_elems {l : List (Int × Value)} (g : ∀ e ∈ l, Tx wo e) : ElemsOf (PySem.strKind Pg wo) l := fun e he =>
  have ⟨x, u, e1, e2⟩ := g e he
  ⟨⟨x, by rw [e1]; exact PySem.strKind_is Pg wo x u, e2⟩, by rw [e1]; rfl⟩
theorem tx_is {e : Int × Value} (g : Tx wo e) (x : Str) : (PySem.strKind Pg wo).is x e.2 = true ↔ txOf e = x := by
  have ⟨y, u, e1, _⟩ := g
  unfold txOf
  rw [e1]
  constructor
  · intro z
    have ⟨u2, e2⟩ := Value.isStrOf_shape (x := x) (v := .str y u) z
    injection e2
  · intro z
    have z : y = x := z
    subst z
    exact PySem.strKind_is Pg wo y u
theorem tx_mem {l : List (Int × Value)} (g : ∀ e ∈ l, Tx wo e) (x : Str) : x ∈ l.map txOf ↔ ∃ e ∈ l, (PySem.strKind Pg wo).is x e.2 = true := by
  rw [List.mem_map]
  exact ⟨fun ⟨e, he, z⟩ => ⟨e, he, (tx_is (g e he) x).2 z⟩, fun ⟨e, he, z⟩ => ⟨e, he, (tx_is (g e he) x).1 z⟩⟩
end
section
variable {Pg : Program} {wo : World} {Ar : Around} {Er : Value → Shared → Prop} {st : Shared} {a : Addr} {mem : Str → Bool} {cnt : Nat}
/-- the rest of a set's add: the new rows are kept, or kept and laid anew -/
theorem rest_add {tell : Bool → Sem Unit} (quiet : ∀ (b : Bool) (s1 : Shared) (Q1 : Unit → Shared → Prop), Q1 () s1 → wpAny (model Pg wo) Ar (tell b) Q1 Er s1)
    {o : Obj} {es es1 : Array (Int × Value)} {ep : Nat} {t t1 : SetTable} (g : st.heap.get? a = some o) (x : o.ExactSet) (d : o.data = .set es ep t) {mem2 : Str → Bool} {c : Nat} (W : Rws wo mem2 c es1 t1)
    {was : Bool} {R : Option Bool → Shared → Prop} (out : ∀ h2, Heap.SameBut a st.heap h2 → SetT wo h2 a mem2 c → R (some true) { st with heap := h2 }) :
    wpAny (model Pg wo) Ar (storeSet a es1 t1 >>= fun _ =>
        if (!was && t1.tooFull) = true then (do tell (relayAll t1 es1 (SetTable.grown es1.size)).2.2; storeSet a (relayAll t1 es1 (SetTable.grown es1.size)).1 (relayAll t1 es1 (SetTable.grown es1.size)).2.1; pure (some true)) else pure (some true)) R Er st := by
  refine wpAny_bind (wpAny_storeSet_of g d ?_ (fits_of_scanBound W.few))
  have g1 := L2.store_at (es' := es1) (t' := t1) g d
  have b1 := Heap.SameBut.update st.heap a (Obj.putSet es1 t1)
  by_cases full : (!was && t1.tooFull) = true
  · rw [if_pos full]
    have p := relayAll_perm t1 es1 (SetTable.grown es1.size)
    have f2 := relayAll_fits t1 es1 (SetTable.grown es1.size)
    have r2 := L2.relayAll_ris t1 es1 (SetTable.grown es1.size)
    have l2 := L2.relayAll_led t1 es1 (SetTable.grown es1.size)
    revert p f2 r2 l2
    generalize relayAll t1 es1 (SetTable.grown es1.size) = Z
    obtain ⟨es2, t2, gave⟩ := Z
    intro p f2 r2 l2
    have same : es2.size = es1.size := by simpa using p.length_eq
    have few2 : es2.size < scanBound := by rw [same]; exact W.few
    refine wpAny_bind (quiet _ _ _ (wpAny_bind (wpAny_storeSet_of g1 rfl (wpAny_pure (out _ (b1.trans (Heap.SameBut.update _ a _)) ?_)) (fits_of_scanBound few2))))
    exact ⟨_, es2, _, t2, L2.store_at (es' := es2) (t' := t2) g1 rfl, x, rfl, fun e he => W.tx e (p.mem_iff.mp he), (p.map txOf).nodup_iff.mpr W.nd, fun y => (W.mm y).trans (p.map txOf).mem_iff.symm, few2, f2,
      same.trans W.num, r2, W.led.imp id fun z => l2.trans z⟩
  · rw [if_neg full]
    exact wpAny_pure (out _ b1 ⟨_, es1, _, t1, g1, x, rfl, W⟩)
theorem add_tx {x : Str} {u : Tok} {Q : Bool → Shared → Prop} (R : SetT wo st.heap a mem cnt) (room : cnt + 1 < scanBound)
    (out : ∀ h2, Heap.SameBut a st.heap h2 → SetT wo h2 a (fun y => mem y || decide (y = x)) (if mem x = true then cnt else cnt + 1) → Q (!mem x) { st with heap := h2 }) :
    wpAny (model Pg wo) Ar (setAddHashed a (.str x u) ((PySem.strKind Pg wo).hash x)) Q Er st := by
  obtain ⟨o, es, ep, t, g, ex, d, W⟩ := R
  have key : (PySem.strKind Pg wo).is x (.str x u) = true := PySem.strKind_is Pg wo x u
  have elems : ElemsOf (PySem.strKind Pg wo) es.toList := tx_elems W.tx
  have plain : (Value.str x u).scannable = true := rfl
  unfold setAddHashed setAddHashedIn
  refine wpAny_holding (wpAny_bind (wpAny_setState_of g d W.fit ?_))
  dsimp only
  rw [byScan_of plain W.few elems, if_pos rfl]
  unfold setAddByScan
  refine wpAny_bind (wpAny_bind (wpAny_rule (wpAny_bind (wpAny_setScan_of key g d W.fit elems ?_))))
  cases at_ : List.findIdx? (fun e => (PySem.strKind Pg wo).is x e.2) es.toList with
  | some j =>
    dsimp only
    obtain ⟨lt, yes, _⟩ := List.findIdx?_eq_some_iff_getElem.mp at_
    have has : mem x = true := (W.mm x).2 ((tx_mem (Pg := Pg) W.tx x).2 ⟨es.toList[j], List.getElem_mem lt, yes⟩)
    have z := out st.heap (Heap.SameBut.refl a st.heap) ⟨o, es, ep, t, g, ex, d, { W with
      mm := fun y => by
        rw [Bool.or_eq_true, decide_eq_true_eq]
        exact ⟨fun q => (W.mm y).1 (q.elim id fun e => by rw [e]; exact has), fun q => .inl ((W.mm y).2 q)⟩
      num := by rw [if_pos has]; exact W.num }⟩
    rw [has] at z
    exact wpAny_pure (wpAny_pure z)
  | none =>
    dsimp only
    have no : x ∉ es.toList.map txOf := fun z => by
      obtain ⟨e, he, q⟩ := (tx_mem (Pg := Pg) W.tx x).1 z
      rw [List.findIdx?_eq_none_iff.mp at_ e he] at q
      cases q
    have not : mem x = false := Bool.eq_false_iff.mpr fun z => no ((W.mm x).1 z)
    have hush : ∀ (b : Bool) {s1 : Shared} {Q1 : Unit → Shared → Prop}, Q1 () s1 → wpAny (model Pg wo) Ar (match b with | true => rule "set.scan.the-table-gave-way" | false => pure ()) Q1 Er s1
      | true, _, _, q => wpAny_rule q
      | false, _, _, q => wpAny_pure q
    have p := layNew_perm t es ((PySem.strKind Pg wo).hash x) (.str x u)
    have f1 := layNew_fits t es ((PySem.strKind Pg wo).hash x) (.str x u)
    have r1 := L2.layNew_ris t es ((PySem.strKind Pg wo).hash x) (.str x u) W.ris
    have l1 := L2.layNew_led t es ((PySem.strKind Pg wo).hash x) (.str x u)
    revert p f1 r1 l1
    generalize layNew t es ((PySem.strKind Pg wo).hash x) (.str x u) = Z
    obtain ⟨es1, t1, was, gave⟩ := Z
    intro p f1 r1 l1
    dsimp only at p f1 r1 l1 ⊢
    rw [Array.toList_push] at p
    have p : es1.toList.Perm (((PySem.strKind Pg wo).hash x, Value.str x u) :: es.toList) := p.trans (List.perm_append_singleton _ _)
    have pt : (es1.toList.map txOf).Perm (x :: es.toList.map txOf) := p.map txOf
    have size1 : es1.size = cnt + 1 := by rw [← W.num]; simpa using p.length_eq
    have V : ∀ t2 : SetTable, t2.fits es1.size = true → Ris t2.place.toList → (wo.params.followText "set-order" = true ∨ t2.led = true) → Rws wo (fun y => mem y || decide (y = x)) (cnt + 1) es1 t2 := fun t2 f r l =>
      { tx := fun e he => (List.mem_cons.mp (p.mem_iff.mp he)).elim (fun z => by rw [z]; exact ⟨x, u, rfl, rfl⟩) (W.tx e)
        nd := pt.nodup_iff.mpr (List.nodup_cons.mpr ⟨no, W.nd⟩)
        mm := fun y => by rw [Bool.or_eq_true, decide_eq_true_eq, W.mm y, pt.mem_iff, List.mem_cons]; exact Or.comm
        few := by rw [size1]; exact room
        fit := f
        num := size1
        ris := r
        led := l }
    have led1 : wo.params.followText "set-order" = true ∨ t1.led = true := W.led.imp id fun z => l1.trans z
    have fin : ∀ h2, Heap.SameBut a st.heap h2 → SetT wo h2 a (fun y => mem y || decide (y = x)) (cnt + 1) → Q true { st with heap := h2 } := fun h2 b r => by
      have z := out h2 b
      rw [not] at z
      exact z r
    refine wpAny_bind (hush _ ?_)
    split
    · refine wpAny_bind ?_
      rw [hashByValue_scannable 8 plain]
      refine wpAny_pure (rest_add (fun b s1 Q1 q => ?_) g ex d (V _ ?_ ?_ ?_) fun h2 b r => wpAny_pure (fin h2 b r))
      · cases b <;> first | exact wpAny_pure q | exact wpAny_rule q
      · first | (split <;> first | exact f1 | exact SetTable.fits_plain_off f1) | exact f1
      · first | (split <;> exact r1) | exact r1
      · first | (split <;> exact led1) | exact led1
    · refine wpAny_bind (wpAny_pure ?_)
      rw [if_pos rfl]
      refine rest_add (fun b s1 Q1 q => ?_) g ex d (V t1 f1 r1 led1) fun h2 b r => wpAny_pure (fin h2 b r)
      cases b <;> first | exact wpAny_pure q | exact wpAny_rule q
end

section
variable {Pg : Program} {wo : World} {Ar : Around} {Er : Value → Shared → Prop} {st : Shared}
abbrev bare (wo : World) : Obj := { cls := .type "set", dict := none, data := .set #[] 0 (.fresh 0 0 (!wo.params.followText "set-order")) }
theorem led0 (wo : World) : wo.params.followText "set-order" = true ∨ (SetTable.fresh 0 0 (!wo.params.followText "set-order")).led = true := by
  show _ ∨ (!wo.params.followText "set-order") = true
  cases wo.params.followText "set-order"
  · exact .inr rfl
  · exact .inl rfl
theorem setT_bare {h : Heap} {a : Addr} (g : h.get? a = some (bare wo)) : SetT wo h a (fun _ => false) 0 :=
  ⟨_, #[], 0, _, g, ⟨rfl, rfl, rfl⟩, rfl, { tx := nofun, nd := List.nodup_nil, mm := fun x => ⟨nofun, nofun⟩, few := by decide, fit := rfl, num := rfl, ris := List.Pairwise.nil, led := led0 wo }⟩
/-- the texts of xs that are new, from the last on: as many as the set of xs has members -/
def many : List Str → Nat
  | [] => 0
  | x :: l => if x ∈ l then many l else many l + 1
theorem many_le : ∀ l : List Str, many l ≤ l.length
  | [] => Nat.le_refl 0
  | x :: l => by
    have q := many_le l
    unfold many
    rw [List.length_cons]
    split <;> omega
theorem many_snoc (x : Str) : ∀ l : List Str, many (l ++ [x]) = if x ∈ l then many l else many l + 1
  | [] => rfl
  | y :: l => by
    have q := many_snoc x l
    show many (y :: (l ++ [x])) = _
    unfold many
    rw [q]
    by_cases e : x = y
    · subst e
      by_cases m : x ∈ l <;> simp [m]
    · have e2 : ¬ y = x := fun z => e z.symm
      by_cases m : x ∈ l <;> by_cases n : y ∈ l <;> simp [m, n, e, e2]
theorem upd_tx {I : Addr} {fp wr : List Addr} {G : Array GenState → Array GenState → Prop} {n : Nat} {Pv : Nat → Value → Prop} {St : Nat → Shared → Prop} {R : Result → Shared → Prop} (W : WalksS Pg wo Ar.in1 I fp wr G n Pv St) (D : Addr) (far : D ∉ fp)
    (xs : List Str) (len : n = xs.length) (room : xs.length + 1 < scanBound) (val : ∀ i v, Pv i v → ∃ x u, xs[i]? = some x ∧ v = .str x u) :
    ∀ (left i : Nat) (t : Shared), n - i = left → i ≤ n → St i t → SetT wo t.heap D (fun y => decide (y ∈ xs.take i)) (many (xs.take i)) →
      (∀ t2, Moved (D :: wr) G t t2 → SetT wo t2.heap D (fun y => decide (y ∈ xs)) (many xs) → R (.ok (.ret .none)) t2) → codeAny (model Pg wo) Ar (.builtin "set.update.loop" ⟨[.ref D, .ref I], []⟩) R t := by
  have off : D ∉ wr := fun z => far (W.sub _ z)
  have sub : ∀ b ∈ wr, b ∈ D :: wr := fun b z => List.mem_cons_of_mem _ z
  intro left
  induction left with
  | zero =>
    intro i t e le here S out
    obtain rfl : i = n := by omega
    refine codeAny_builtin F.entry_set_update_loop ?_
    rw [Around.under_plainId F.plain_set_update_loop _]
    refine wpAny_bind (m := pyNext (.ref I)) (W.done t _ _ here fun t2 mv => wpAny_pure (out t2 (mv.mono sub) ?_))
    have all : xs.take i = xs := List.take_of_length_le (by omega)
    rw [all] at S
    exact S.mv fun o z => mv.heap D o off z
  | succ left ih =>
    intro i t e le here S out
    have lt : i < n := by omega
    refine codeAny_builtin F.entry_set_update_loop ?_
    rw [Around.under_plainId F.plain_set_update_loop _]
    refine wpAny_bind (m := pyNext (.ref I)) (W.item i t _ _ lt here fun v t2 pv next mv => ?_)
    obtain ⟨x, u, at_, rfl⟩ := val i v pv
    have S2 : SetT wo t2.heap D (fun y => decide (y ∈ xs.take i)) (many (xs.take i)) := S.mv fun o z => mv.heap D o off z
    refine wpAny_bind (m := holding [Value.str x u] (setAdd D (.str x u))) (wpAny_holding ?_)
    unfold setAdd
    have low : many (xs.take i) ≤ i := Nat.le_trans (many_le _) (by rw [List.length_take]; omega)
    refine wpAny_holding (wpAny_bind ((PySem.strKind Pg wo).pyHash (k := x) (PySem.strKind_is _ _ _ _) (add_tx (st := { t2 with toks := t2.toks + 1 }) S2 (by omega) fun h3 but S3 => ?_)))
    have more : xs.take (i + 1) = xs.take i ++ [x] := by rw [List.take_add_one, at_]; rfl
    have S4 : SetT wo h3 D (fun y => decide (y ∈ xs.take (i + 1))) (many (xs.take (i + 1))) := by
      rw [more, many_snoc]
      have z : (fun y => decide (y ∈ xs.take i ++ [x])) = fun y => decide (y ∈ xs.take i) || decide (y = x) := funext fun y => by simp [List.mem_append]
      rw [z]
      by_cases m : x ∈ xs.take i
      · rw [if_pos m]
        rw [if_pos (decide_eq_true m)] at S3
        exact S3
      · rw [if_neg m]
        rw [if_neg (by simpa using m)] at S3
        exact S3
    have keep : ∀ b o, b ≠ D → t2.heap.get? b = some o → h3.get? b = some o := fun b o ne z => by rw [but.2 b ne]; exact z
    refine wpAny_pure ⟨plainId_quiet F.plain_set_update_loop _, ih (i + 1) _ (by omega) lt (W.frame _ t2 _ _ next (Nat.le_succ _) fun b z o q => keep b o (fun e2 => far (e2 ▸ z)) q) S4 fun t4 mv2 S5 => out t4 ?_ S5⟩
    exact Moved.trans W.gtrans ((mv.mono sub).then_heap (Nat.le_succ _) fun b o z q => keep b o (fun e2 => z (e2 ▸ List.mem_cons_self)) q) mv2
/-- set(xs), xs a list or a tuple of texts -/
theorem call_set {l : Addr} {its : Array Value} (xs : List Str) {Q : Value → Shared → Prop} (cold : Ar.handled = none) (hl : st.heap.IsList l its ∨ st.heap.IsTuple l its) (each : StrsAre its.toList xs) (room : xs.length + 1 < scanBound)
    (out : ∀ h2 tk, SetT wo h2 st.heap.objs.size (fun y => decide (y ∈ xs)) (many xs) → (∀ b o, st.heap.get? b = some o → h2.get? b = some o) → Q (.ref st.heap.objs.size) { st with heap := h2, toks := tk }) :
    wpAny (model Pg wo) Ar (call (.type "set") [.ref l]) Q Er st := by
  have len : its.size = xs.length := by simpa using each.length
  have val : ∀ (i : Nat) (v : Value), its[i]? = some v → ∃ x u, xs[i]? = some x ∧ v = .str x u := fun i v z => by
    have lt : i < xs.length := by rw [← len]; exact (Array.getElem?_eq_some_iff.mp z).1
    obtain ⟨u, e⟩ := SS.strs_at each i v (by rw [Array.getElem?_toList]; exact z)
    exact ⟨xs[i], u, List.getElem?_eq_getElem lt, by rw [e, List.getD_eq_getElem?_getD, List.getElem?_eq_getElem lt]; rfl⟩
  have lo : l < st.heap.objs.size := by
    rcases hl with ⟨o, g, _⟩ | ⟨o, g, _⟩ <;> exact Heap.lt_size g
  obtain ⟨c, tl, hmro⟩ := PySem.F.called_set.mro
  have hmade := PySem.F.called_set.made
  have hsub := PySem.F.called_set.sub
  refine wpAny_call (codeAny_of_tree ?_)
  show wpAny _ _ (callAny (.type "set") _) _ _ _
  refine wpAny_pure ⟨Code.quiet_builtin _ (by decide +kernel), codeAny_builtin PySem.F.entry_type_call ?_⟩
  rw [Around.under_plain (weight_type_call_type "set" [.ref l] []) rfl]
  have h1 := PySem.F.called_set.notType
  have h2 := PySem.F.called_set.canCreate
  have hct := PySem.F.typeCall_set_1 (.ref l)
  repeat (any_goals (first | assumption | wp_step))
  refine codeAny_mono (L2.code_set_led1 (.ref l) (E := Er) (Q₁ := fun v t => v = .ref st.heap.objs.size ∧ t = { st with heap := st.heap.push (bare wo) }) ⟨rfl, rfl⟩) fun r t z => ?_
  rcases r with e | fl
  · exact z
  cases fl with
  | ret v =>
    obtain ⟨rfl, rfl⟩ := z
    have gD : (st.heap.push (bare wo)).get? st.heap.objs.size = some (bare wo) := Heap.get?_push_size _ rfl
    have isD : Shared.TypeIs { st with heap := st.heap.push (bare wo) } (.ref st.heap.objs.size) "set" := ⟨_, gD, rfl⟩
    have sz : (st.heap.push (bare wo)).objs.size = st.heap.objs.size + 1 := Heap.size_push ..
    have hli := PySem.F.called_set.init.lookup
    have hbi := PySem.F.called_set.init.bind (.ref st.heap.objs.size)
    repeat (any_goals (first | assumption | wp_step))
    refine codeAny_mono (codeAny_call_builtin (R := wants (fun r t => r = .none ∧ ∃ h2 tk, t = { st with heap := h2, toks := tk } ∧ SetT wo h2 st.heap.objs.size (fun y => decide (y ∈ xs)) (many xs) ∧ (∀ b o, st.heap.get? b = some o → h2.get? b = some o)) Er)
      PySem.F.called_set.init.plain PySem.F.entry_set_init (check_set_init_1 isD ?_)) fun r2 t2 z2 => ?_
    · have cold3 : Ar.in1.in1.in1.handled = none := by simp [cold]
      have start : ∀ {h : Heap}, h.get? st.heap.objs.size = some (bare wo) → SetT wo h st.heap.objs.size (fun y => decide (y ∈ xs.take 0)) (many (xs.take 0)) := fun g => (setT_bare g).eqv fun y => by simp
      have neI : l ≠ (st.heap.push (bare wo)).objs.size := Nat.ne_of_lt (by rw [sz]; exact Nat.lt_succ_of_lt lo)
      have far : st.heap.objs.size ∉ [(st.heap.push (bare wo)).objs.size, l] := by
        simp only [List.mem_cons, List.not_mem_nil, or_false, not_or]
        exact ⟨Nat.ne_of_lt (by rw [sz]; exact Nat.lt_succ_self _), Nat.ne_of_gt lo⟩
      have old : ∀ b o, st.heap.get? b = some o → b ∉ [st.heap.objs.size, (st.heap.push (bare wo)).objs.size] := fun b o g => by
        have lb := Heap.lt_size g
        simp only [List.mem_cons, List.not_mem_nil, or_false, not_or]
        exact ⟨Nat.ne_of_lt lb, Nat.ne_of_lt (by rw [sz]; exact Nat.lt_succ_of_lt lb)⟩
      have ne : (Value.type "tuple" == Value.type "dict") = false := by decide
      have ne2 : (Value.type "list" == Value.type "dict") = false := by decide
      rcases hl with hl | hl
      · obtain ⟨⟨ocls, odict, odata, oslots⟩, g, hc, nl, hd⟩ := hl
        simp only at hc hd
        subst hc; subst hd
        have g2 : (st.heap.push (bare wo)).get? l = some { cls := .type "list", dict := odict, data := .seq its nl, slots := oslots } := Heap.get?_push_of_some _ g
        have s1 := PySem.F.sub_list_set
        have s2 := PySem.F.sub_list_frozenset
        have hl2 : (st.heap.push (bare wo)).IsList l its := ⟨_, g2, rfl, nl, rfl⟩
        unfold Builtin.«set.__init__» noKeywords Builtin.Frozenset.updateFrom
        generalize hPI : pyIter = PI
        wp_walk
        subst hPI
        refine wpAny_pyIter_list hl2 (wpAny_bind (wpAny_runValue ?_))
        refine upd_tx (Walks.list cold3 _ l neI its).toS st.heap.objs.size far xs len room val (its.size - 0) 0 _ rfl (Nat.zero_le _) ⟨⟨_, Heap.get?_push_size _ rfl, rfl, rfl⟩, hl2.push _⟩
          (start (Heap.get?_push_of_some _ gD)) fun t4 mv S => ?_
        obtain ⟨h4, g4, d4, k4, o4⟩ := t4
        have eg : g4 = st.gens := mv.gens
        have ed : d4 = st.drawn := mv.drawn
        have eo : o4 = st.os := mv.os
        subst eg ed eo
        refine wpAny_pure (wpAny_pure ⟨rfl, h4, k4, rfl, S, fun b o q => mv.heap b o (old b o q) (Heap.get?_push_of_some _ (Heap.get?_push_of_some _ q))⟩)
      · obtain ⟨⟨ocls, odict, odata, oslots⟩, g, hc, nl, hd⟩ := hl
        simp only at hc hd
        subst hc; subst hd
        have g2 : (st.heap.push (bare wo)).get? l = some { cls := .type "tuple", dict := odict, data := .seq its nl, slots := oslots } := Heap.get?_push_of_some _ g
        have s1 := PySem.F.sub_tuple_set
        have s2 := PySem.F.sub_tuple_frozenset
        have hl2 : (st.heap.push (bare wo)).IsTuple l its := ⟨_, g2, rfl, nl, rfl⟩
        unfold Builtin.«set.__init__» noKeywords Builtin.Frozenset.updateFrom
        generalize hPI : pyIter = PI
        wp_walk
        subst hPI
        refine wpAny_pyIter_tuple hl2 (wpAny_bind (wpAny_runValue ?_))
        refine upd_tx (Walks.tuple cold3 _ l neI its).toS st.heap.objs.size far xs len room val (its.size - 0) 0 _ rfl (Nat.zero_le _) ⟨⟨_, Heap.get?_push_size _ rfl, rfl, rfl⟩, hl2.push _⟩
          (start (Heap.get?_push_of_some _ gD)) fun t4 mv S => ?_
        obtain ⟨h4, g4, d4, k4, o4⟩ := t4
        have eg : g4 = st.gens := mv.gens
        have ed : d4 = st.drawn := mv.drawn
        have eo : o4 = st.os := mv.os
        subst eg ed eo
        refine wpAny_pure (wpAny_pure ⟨rfl, h4, k4, rfl, S, fun b o q => mv.heap b o (old b o q) (Heap.get?_push_of_some _ (Heap.get?_push_of_some _ q))⟩)
    · rcases r2 with e | fl
      · exact z2
      cases fl with
      | ret r =>
        obtain ⟨rfl, h4, tk, rfl, S, k⟩ := z2
        repeat (any_goals (first | assumption | wp_step))
        exact out _ _ S k
      | _ => exact z2.elim
  | _ => exact z.elim
end
end NU

set_option Elab.async false
set_option linter.all false
set_option maxRecDepth 100000
set_option maxHeartbeats 4000000
/-! Sets of texts under the invariant: set(xs), len(set), sorted(set). -/
namespace NU
open PySem PySem.Spec PyProof.Rows L2
section
variable {Pg : Program} {wo : World} {Ar : Around} {Er : Value → Shared → Prop} {st : Shared} {a : Addr}
/-- texts in the order of their first row are listed once: how many -/
theorem many_of : ∀ l : List Str, l.Nodup → many l = l.length
  | [], _ => rfl
  | x :: l, d => by
    have ⟨d1, d2⟩ := List.nodup_cons.mp d
    show (if x ∈ l then many l else many l + 1) = l.length + 1
    rw [if_neg d1, many_of l d2]
theorem texts_of : ∀ l : List Value, (∀ v ∈ l, ∃ x u, v = Value.str x u) → ∃ xs, StrsAre l xs ∧ xs = l.map fun v => txOf (0, v)
  | [], _ => ⟨[], .nil, rfl⟩
  | v :: l, h => by
    obtain ⟨x, u, rfl⟩ := h v List.mem_cons_self
    obtain ⟨xs, s, e⟩ := texts_of l fun z hz => h z (List.mem_cons_of_mem _ hz)
    exact ⟨x :: xs, .cons x u s, by rw [e]; rfl⟩
theorem sorted_tx {mem : Str → Bool} {cnt : Nat} {Q : Value → Shared → Prop} (R : SetT wo st.heap a mem cnt) (cold : Ar.handled = none) (small : cnt < 64)
    (out : ∀ t p (arr : Array Value) (c : Nat) (ys : List Str), (∀ b o, st.heap.get? b = some o → t.heap.get? b = some o) → t.gens = st.gens → t.os = st.os → st.heap.objs.size ≤ p →
      t.heap.get? p = some (seqObj "list" arr c) → StrsAre arr.toList ys → sortedS ys = true → ys.Nodup → (∀ y, y ∈ ys ↔ mem y = true) → ys.length = cnt → Q (.ref p) t) :
    wpAny (model Pg wo) Ar (call (.builtin "sorted") [.ref a]) Q Er st := by
  obtain ⟨o, es, ep, t, g, ex, d, W⟩ := R
  refine Calls.call_function_entry kind_sorted plain_sorted entry_sorted (args_sorted1 _) ?_
  unfold Builtin.«sorted»
  refine wpAny_bind (m := checkCount "sorted" 1 1 _) (wpAny_pure (wpAny_bind (L2.collect_set (A := Ar.in1) cold ⟨o, g, ex.1, d⟩ W.fit W.few W.ris W.led fun t1 vs k1 z1 g1 o1 pm => ?_)))
  have lv : vs.length = cnt := by rw [pm.length_eq, List.length_map, Array.length_toList]; exact W.num
  obtain ⟨xs, are, exs⟩ := texts_of vs fun v hv => by
    obtain ⟨e, he, q⟩ := List.mem_map.mp (pm.mem_iff.mp hv)
    obtain ⟨x, u, e1, _⟩ := W.tx e he
    exact ⟨x, u, q ▸ e1⟩
  have px : xs.Perm (es.toList.map txOf) := by
    have q := pm.map fun v => txOf (0, v)
    rw [List.map_map, ← exs] at q
    exact q
  refine wpAny_bind (wpAny_newList ?_ (by rw [lv, sizeLine_eq]; omega))
  have oL : (t1.heap.push (seqObj "list" vs.toArray 0)).get? t1.heap.objs.size = some (seqObj "list" vs.toArray 0) := Heap.get?_push_size _ rfl
  refine wpAny_bind (wpAny_holding (wpAny_call_entry slot_list_sort ⟨_, oL, rfl⟩ entry_list_sort (list_sort_treeK strKind_oneLt (s := { t1 with heap := t1.heap.push (seqObj "list" vs.toArray 0) }) oL are.keysOf (fun v1 v2 rest e => keyKind_strs (by rw [← e]; exact are)) (by rw [lv]; exact small)
    fun st' hp hs => ⟨_, rfl, ?_⟩) (args_list_sort _)))
  obtain ⟨ys, q1, q2, q3⟩ := sorted_out_str are hp hs
  obtain ⟨c, hc⟩ := sortedHeap_at (vs := vs) (out := (arrOf st').map (·.2)) oL
  have py := q2.trans px
  refine wpAny_pure ⟨_, rfl, out _ t1.heap.objs.size _ c ys (fun b u e => ?_) g1 o1 z1 hc q1 q3 (py.nodup_iff.mpr W.nd) (fun y => py.mem_iff.trans (W.mm y).symm) (by rw [py.length_eq, List.length_map, Array.length_toList]; exact W.num)⟩
  have q := k1 b u e
  have lb := Heap.lt_size q
  show (sortedHeap (t1.heap.push (seqObj "list" vs.toArray 0)) t1.heap.objs.size vs _).get? b = some u
  rw [sortedHeap_old (Nat.ne_of_lt lb) (by rw [size_push']; exact Nat.lt_succ_of_lt lb)]
  exact Heap.get?_push_of_some _ q
end
section
variable {X : Cx}
/-- the set of the texts xs at a -/
def SetX (wo : World) (a : Addr) (xs : List Str) : HO := .ext fun h => SetT wo h a (fun y => decide (y ∈ xs)) (many xs)
theorem setX_get {pins : List (Addr × Obj)} {σ : L2.St} {H : Hp} {s : Shared} {a : Addr} {xs : List Str} (I : Inv X pins σ H s) (g : H a = some (SetX X.w a xs)) : SetT X.w s.heap a (fun y => decide (y ∈ xs)) (many xs) := (I.hok a _ g).1
/-- set(xs), xs a list or a tuple of texts -/
def rSetX (K : PySem.W.Frag) (wo : World) : List V → Hp → VK → Prop := fun vs H Q => ∃ (l : Addr) (xs : List Str), vs = [.ref l] ∧ (SqL K H l (xs.map V.str) ∨ SqT K H l (xs.map V.str)) ∧ xs.length ≤ 1000 ∧ ∀ p, H p = none → Q (.ref p) (upd H p (SetX wo p xs))
theorem cr_setX (hc : X.calm = true) : CallR X (.type "set") (rSetX X.K X.w) := by
  intro pins s σ H vs us Q I r h
  obtain ⟨l, xs, rfl, at_, few, q⟩ := h
  rw [Vals.ref1 r]
  have room : xs.length + 1 < scanBound := Nat.lt_of_le_of_lt (Nat.succ_le_succ few) (by decide)
  have look : ∃ its : Array Value, Vals (xs.map V.str) its.toList ∧ (s.heap.IsList l its ∨ s.heap.IsTuple l its) := by
    rcases at_ with z | z
    · obtain ⟨its, rv, pl, _⟩ := I.list z
      exact ⟨its.toArray, rv, .inl pl.isList⟩
    · obtain ⟨its, rv, pl, _⟩ := I.tuple z
      exact ⟨its.toArray, rv, .inr pl⟩
  obtain ⟨its, rv, pl⟩ := look
  refine call_set xs (I.ok.hd hc) pl rv.strs room fun h2 tk R k => ?_
  refine ⟨.ref _, upd H s.heap.objs.size (SetX X.w s.heap.objs.size xs), I.laid (t' := tk) k (Nat.le_refl _) ⟨R, ?_, fun h3 h4 p k2 => SetT.mv p k2⟩, rfl, q _ (I.hok.fresh (Nat.le_refl _))⟩
  have ⟨o, _, _, _, g, _⟩ := R
  exact ⟨o, g⟩
/-- len of a set of texts -/
def rLenX (wo : World) : List V → Hp → VK → Prop := fun vs H Q => ∃ (a : Addr) (xs : List Str), vs = [.ref a] ∧ H a = some (SetX wo a xs) ∧ Q (.int ((many xs : Nat) : Int)) H
theorem cr_lenX : CallR X (.builtin "len") (rLenX X.w) := by
  intro pins s σ H vs us Q I r h
  obtain ⟨a, xs, rfl, g, q⟩ := h
  obtain ⟨o, es, ep, t, go, ex, d, W⟩ := setX_get I g
  rw [Vals.ref1 r]
  have low : es.size < 2 ^ 24 := Nat.lt_of_lt_of_le W.few (by decide)
  refine call_len_set go ex d W.fit (by omega) ?_
  rw [W.num]
  exact ⟨.int ((many xs : Nat) : Int), H, I.tok _, ⟨_, rfl⟩, q⟩
/-- sorted of a set of fewer than 64 texts -/
def rSrtX (wo : World) : List V → Hp → VK → Prop := fun vs H Q => ∃ (a : Addr) (xs : List Str), vs = [.ref a] ∧ H a = some (SetX wo a xs) ∧ xs.length < 64 ∧
  ∀ (ys : List Str) (p : Addr), sortedS ys = true → ys.Nodup → (∀ y, y ∈ ys ↔ y ∈ xs) → H p = none → Q (.ref p) (upd H p (.lst (ys.map V.str)))
theorem cr_srtX (hc : X.calm = true) : CallR X (.builtin "sorted") (rSrtX X.w) := by
  intro pins s σ H vs us Q I r h
  obtain ⟨a, xs, rfl, ga, few, q⟩ := h
  rw [Vals.ref1 r]
  have low := many_le xs
  refine sorted_tx (setX_get I ga) (I.ok.hd hc) (by omega) fun t p arr c ys k g o lp gp are srt nd mm len => ?_
  have fits : (ys.map V.str).length ≤ sizeLine := by rw [List.length_map, len, sizeLine_eq]; omega
  have new : H p = none := I.hok.fresh lp
  have J : Inv X pins σ (upd H p (.lst (ys.map V.str))) { s with heap := t.heap, gens := t.gens, drawn := t.drawn, toks := t.toks } :=
    I.call (ch := []) (Un.laid k lp new) (I.hok.laid k lp ⟨fits, arr.toList, c, vals_of_strs are, gp⟩) (by rw [g]; exact I.bare) nofun
  have same : t = { s with heap := t.heap, gens := t.gens, drawn := t.drawn, toks := t.toks } := by
    obtain ⟨_, _, _, _, _⟩ := t
    subst o
    rfl
  rw [same]
  exact ⟨.ref p, _, J, rfl, q ys p srt nd (fun y => (mm y).trans decide_eq_true_iff) new⟩
end
end NU

set_option Elab.async false
set_option linter.all false
set_option maxRecDepth 100000
set_option maxHeartbeats 4000000
/-! Defs that raise where nothing is handled, said with the context None: what they ask; the weaker promise. -/
namespace NN
open PySem PySem.Spec PyProof.Rows L2
section
variable {P : Program} {w : World} {K : PySem.W.Frag} {mg : Str → Option Value} {base : Heap} {k : Nat} {f : Addr} {fd : FuncData} {ps : List Str} {sp : Sp}
theorem cx_less {outer : List Env} {H : Hp} {s s' : Shared} {E : XK} {u : Value} (h : L2N.CX P w outer H s E u s') : L2.CX P w outer H s E u s' :=
  have ⟨a, B, H2, cls, d, e, fl, r⟩ := h
  ⟨a, B, H2, cls, d, e, L2H.flyingZ_imp (fun _ z => z.zc) fl, r⟩
theorem cr_less {outer : List Env} {H : Hp} {s s' : Shared} {Q : VK} {E : XK} {r : Result} (h : CR (L2N.CX P w) outer P w H s Q E r s') : CR (L2.CX P w) outer P w H s Q E r s' := by
  cases r with
  | error e => exact cx_less h
  | ok fl => cases fl <;> exact h
theorem fnOk_less (F : FnOk P w K mg base (L2N.CX P w) k f fd ps sp) : FnOk P w K mg base (L2.CX P w) k f fd ps sp :=
  ⟨F.len, fun A outer s H args us vs Q E hr e0 hb r h => codeAny_mono (F.run A outer s H args us vs Q E hr e0 hb r h) fun _ _ q => cr_less q⟩
theorem fnR_less (F : FnR P w K mg base (L2N.CX P w) k f sp) : FnR P w K mg base (L2.CX P w) k f sp :=
  fun A outer s H us vs Q E hr e0 r h => codeAny_mono (F A outer s H us vs Q E hr e0 r h) fun _ _ q => cr_less q
theorem upN : StX.CXUp (L2N.CX P w) := by
  intro outer s H s2 H2 E e s' un kp ho h
  obtain ⟨a, B, H3, cls, d, ea, fl, hok, ub, na, os, ag, he⟩ := h
  refine ⟨a, B, H3, cls, d, ea, fl, hok, { keep := fun b o q n hb => ?_, slot := fun b o q hb => ub.slot b o (kp b o q) hb, free := fun b o q n => ?_, there := fun b o q hb => ub.there b o (kp b o q) hb, tups := fun b xs q => ub.tups b xs (un.tups b xs q), frzs := fun b o xs q => ub.frzs b o xs (un.frzs b o xs q), tbls := fun b ts q => ?_ }, na, os.trans ho, ag, he⟩
  · exact ub.keep b o (kp b o q) (un.free b o q n (by simp)) hb
  · exact ub.free b o (kp b o q) (un.free b o q n (by simp))
  · obtain ⟨m1, e1⟩ := un.tbls b ts q
    obtain ⟨m2, e2⟩ := ub.tbls b _ e1
    exact ⟨m1 ++ m2, e2.trans (by rw [Array.append_assoc])⟩
/-- a def of the text that may raise, its exceptions with the context None -/
theorem okN {x qual : Str} {st : Stmt} {N : List Str} (F : Fun K x qual st f fd) (S : FnScope N ps (defScope st)) (len : ∀ vs H Q E, sp vs H Q E → vs.length = ps.length)
    (run : ∀ (cdv : Value) (A : Around) (outer : List Env) (s : Shared) (H : Hp) (vs : List V) (Q : VK) (E : XK), Room k (A.deeper (envOfC qual (defScope st) s.heap.objs.size f cdv)) → sp vs H Q E →
      ∃ t, PSs (cxOf (L2N.CX P w) P w K mg base N qual (defScope st) f cdv A outer s H E) (defBody st) t ∧ t { nx := fun _ H2 => Q .non H2, rt := Q } (start N vs) H) : FnOk P w K mg base (L2N.CX P w) (k + 1) f fd ps sp := by
  obtain ⟨oc, od, kV, doc, pm, an, cdv, ct, osl, e, lk, cd⟩ := F.ex
  subst e
  exact fn_of lk cd S len fun A outer s H vs Q E hr h => run cdv A outer s H vs Q E hr h
end
theorem passN {X : Cx} {E : XK} (tk : L2N.Takes X (fun cls d _ H => E cls d H)) : Passes (L2N.CX X.prog X.w) X E := fun pins σ H s e s' I h => L2N.passAt tk σ pins H s e s' I h
section
variable {X : Cx} {CX : CXT} {x : Str} {e : Expr} {es : List Expr} {ta : TA} {p pos : Pos} {C fI : Addr} {k : Nat} {fd : FuncData} {ps : List Str} {sp : Sp}
/-- C(e, ..), an exception class of ours with an __init__, where nothing is handled: made with the context None -/
theorem pmkN (T : OexC X.K C) (iC : PySem.W.findIn X.K (.ref C) "__init__" = some (some (.ref fI))) (tI : PySem.W.typeIn X.K (.ref fI) = some (.type "function"))
    (F1 : FnOk X.prog X.w X.K X.mg X.base CX k fI fd ps sp) (hr : Room (k + 1) X.A) (hb : Binds X.K fd ps []) (hx : Passes CX X (fun _ _ _ => False)) (hg : Gl X x) (hm : X.mg x = some (.ref C)) (ha : PA X (e :: es) ta)
    (hdb : (x == ("__debug__" : Str)) = false := by decide) (he : starEach (e :: es) X.env = (false, eval e X.env) :: starEach es X.env := by rfl) (hpl : (backTo pos (starEach es X.env)).any (·.1) = false := by rfl) :
    L2N.PMk X (.Call (.Name x p) (e :: es) [] pos) (tMkO C sp [] ta) := by
  intro pins s σ H Q I h
  have tc := T.cls
  obtain ⟨nm, q, N, bs, bm, sn, sub, ab, col, dd, k0, k1, k2, k3, k5, hC, hbm⟩ := tc
  refine wpAny_Call_Name_kw (ld_glob I hg hm ?_ hdb)
  refine PySem.W.callWith_K (h₀ := X.base) I.ok.mod.kin T.kC (thn (ha.run pos pins s σ H _ I h) fun us s1 ⟨vs, H1, I1, r1, few, q1⟩ => ⟨I1.kIn, ?_⟩) he hpl
  show wpAny _ _ (call (.ref C) us) _ _ _
  obtain ⟨hp, g, dr, tk, os⟩ := s1
  have up : hp.objs.size ≤ hp.objs.size + 1 := Nat.le_succ _
  have new : H1 (hp.objs.size + 1) = none := I1.hok.fresh up
  have ask := q1 (hp.objs.size + 1) new
  rw [List.append_nil] at ask
  let hp2 : Heap := (hp.push (PySem.W.kdv_tup us)).push (PySem.HandSPX.excO C hp.objs.size)
  have keeps : ∀ b o, hp.get? b = some o → hp2.get? b = some o := fun b o z => Heap.get?_push_of_some _ (Heap.get?_push_of_some _ z)
  have at_ : hp2.get? (hp.objs.size + 1) = some (PySem.HandSPX.excO C hp.objs.size) := by
    show ((hp.push (PySem.W.kdv_tup us)).push (PySem.HandSPX.excO C hp.objs.size)).get? (hp.objs.size + 1) = _
    heap_get
  have I2 : Inv X pins σ (upd H1 (hp.objs.size + 1) (exo (hp.objs.size + 1) C none)) ⟨hp2, g, dr, tk, os⟩ := I1.laid (t' := tk) (a := hp.objs.size + 1) (o := exo (hp.objs.size + 1) C none) (h' := hp2) keeps up (exo_ok at_)
  have r2 : Vals (V.ref (hp.objs.size + 1) :: vs) (Value.ref (hp.objs.size + 1) :: us) := .cons rfl r1
  have len : (Value.ref (hp.objs.size + 1) :: us ++ []).length = ps.length := by
    rw [List.append_nil]
    exact r2.length.symm.trans (F1.len _ _ _ _ ask)
  have low : us.length ≤ sizeLine := by
    rw [← Paired.length r1, sizeLine_eq]
    omega
  have bd := hb _ (Value.ref (hp.objs.size + 1) :: us) I2.kIn len
  rw [List.append_nil] at bd
  refine wpAny_call (PySem.HandSPX.call_own F.excBase_ValueError (fun Y => PySem.HandSPX.refsVE_contains Y bm hbm) (I1.kIn _ _ hC) (PySem.W.looks_findIn I1.kIn iC) (fun self => PySem.W.bind_fn I1.kIn self tI) low
    (codeAny_mono (F1.run _ X.stack _ _ ⟨Value.ref (hp.objs.size + 1) :: us, []⟩ _ _ _ (fun _ _ _ => False) (hr.make C us []) (I2.env0.make C us []) bd r2 ask) fun r s2 z => ?_))
  cases r with
  | error er => exact hx pins σ _ _ er s2 I2 z
  | ok fl =>
    cases fl with
    | ret u =>
      obtain ⟨v, H2, os2, bare2, un2, hok2, rv, ev, d, fs, ea, ed, hd1, q2⟩ := z
      subst ev
      obtain ⟨h2, g2, d2, t2, os3⟩ := s2
      obtain ⟨t0, G, J, kG, ge, hoe, na⟩ := mk_end0 (d2 := d2) (t2 := t2) I1 up keeps un2 hok2 os2 bare2 ea ed hd1
      refine ⟨rv, hp.objs.size + 1, _, _, ⟨G, g2, d2, t2, os3⟩, _, .ref C, some d, rfl, J, kG, ge, hoe, ⟨rfl, rfl, fun ws hv => ?_⟩, rfl, rfl, na, rfl, bare2, raises_own T.exC T.tyC, q2⟩
      cases hv
      rfl
    | next => exact z.elim
    | brk => exact z.elim
    | cont => exact z.elim
end
end NN

set_option Elab.async false
set_option linter.all false
set_option maxRecDepth 100000
set_option maxHeartbeats 4000000
namespace K33
open PySem L2 NX NU
abbrev sErrN : Stmt := inClass (top 3) 0
abbrev sErrD : Stmt := inClass (top 4) 0
abbrev sErrT : Stmt := inClass (top 9) 0
abbrev sErrM : Stmt := inClass (top 10) 0
abbrev sCns : Stmt := top 25
abbrev sCun : Stmt := top 26
abbrev sAsc : Stmt := top 27
abbrev sCus : Stmt := top 39
/-- what stood stands, and an error's dict at d is new, with its one field -/
def Told (H : Hp) (d : Addr) (x : Str) (v : V) (H' : Hp) : Prop := Same H H' ∧ H d = none ∧ H' d = some (.xd [(x, v)])
theorem sameNone {H H' : Hp} {d : Addr} (s : Same H H') (h : H' d = none) : H d = none := by
  cases e : H d with
  | none => rfl
  | some o =>
    rw [s d o e] at h
    cases h
theorem Told.old {H0 H H' : Hp} {d : Addr} {x : Str} {v : V} (s : Same H0 H) (t : Told H d x v H') : Told H0 d x v H' := ⟨s.trans t.1, sameNone s t.2.1, t.2.2⟩
def spErr (K : PySem.W.Frag) (x : Str) : Sp := fun vs H Q _ => ∃ (a C : Addr) (v : V), vs = [.ref a, v] ∧ OexC K C ∧ PySem.W.findIn K (.ref C) x = some none ∧ H a = some (exo a C none) ∧
  ∀ dx, H dx = none → dx ≠ a → Q .non (upd (upd H dx (exd dx [(x, v)])) a (exo a C (some dx)))
theorem scErrN : FnScope ["self", "value"] ["self", "value"] (defScope sErrN) := ⟨rfl, rfl, rfl, by decide +kernel, rfl, by decide +kernel, by decide +kernel⟩
theorem scErrD : FnScope ["self", "value"] ["self", "value"] (defScope sErrD) := ⟨rfl, rfl, rfl, by decide +kernel, rfl, by decide +kernel, by decide +kernel⟩
theorem scErrT : FnScope ["self", "name"] ["self", "name"] (defScope sErrT) := ⟨rfl, rfl, rfl, by decide +kernel, rfl, by decide +kernel, by decide +kernel⟩
theorem scErrM : FnScope ["self", "most"] ["self", "most"] (defScope sErrM) := ⟨rfl, rfl, rfl, by decide +kernel, rfl, by decide +kernel, by decide +kernel⟩
theorem scCns : FnScope ["values", "value"] ["values"] (defScope sCns) := ⟨rfl, rfl, rfl, by decide +kernel, rfl, by decide +kernel, by decide +kernel⟩
theorem scCun : FnScope ["names", "seen", "name"] ["names"] (defScope sCun) := ⟨rfl, rfl, rfl, by decide +kernel, rfl, by decide +kernel, by decide +kernel⟩
theorem scAsc : FnScope ["names"] ["names"] (defScope sAsc) := ⟨rfl, rfl, rfl, by decide +kernel, rfl, by decide +kernel, by decide +kernel⟩
theorem scCus : FnScope ["names"] ["names"] (defScope sCus) := ⟨rfl, rfl, rfl, by decide +kernel, rfl, by decide +kernel, by decide +kernel⟩
/-- a name, or something that is none -/
def IsNm (v : V) (z : Str) : Prop := v = .str z ∧ z.length ≤ 1000 ∧ nm z = true
def NoNm (K : PySem.W.Frag) (H : Hp) (v : V) : Prop := (∃ z, v = .str z ∧ z.length ≤ 1000 ∧ nm z = false) ∨ NoStr K H v
/-- the texts ws are names -/
def Nms (ws : List Str) : Prop := ∀ z ∈ ws, z.length ≤ 1000 ∧ nm z = true
/-- the first of some values that is no name, behind the names ws -/
def Bad (K : PySem.W.Frag) (H : Hp) (xs : List V) (ws : List Str) (v : V) : Prop := ∃ l, xs = ws.map V.str ++ v :: l ∧ Nms ws ∧ NoNm K H v
section
variable {P : Program} {w : World} {K : PySem.W.Frag} {mg : Str → Option Value} {base : Heap}
theorem ok_errN {f : Addr} {fd : FuncData} (F : Fun K "__init__" "BadName.__init__" sErrN f fd) : FnOk P w K mg base CX0 1 f fd ["self", "value"] (spErr K "value") := by
  refine F.ok scErrN (fun vs H Q E h => ?_) (fun cdv A outer s H vs Q E hr h => ?_)
  · obtain ⟨a, C, v, rfl, _⟩ := h
    rfl
  · obtain ⟨a, C, v, rfl, T, hf, ha, k⟩ := h
    exact ⟨_, (pss_one (ps_ost (pv 0) (pv 1))), _, rfl, _, rfl, a, C, rfl, T, hf, .inl ⟨ha, fun dx h1 h2 => k dx h1 h2⟩⟩
theorem ok_errD {f : Addr} {fd : FuncData} (F : Fun K "__init__" "BadDeed.__init__" sErrD f fd) : FnOk P w K mg base CX0 1 f fd ["self", "value"] (spErr K "value") := by
  refine F.ok scErrD (fun vs H Q E h => ?_) (fun cdv A outer s H vs Q E hr h => ?_)
  · obtain ⟨a, C, v, rfl, _⟩ := h
    rfl
  · obtain ⟨a, C, v, rfl, T, hf, ha, k⟩ := h
    exact ⟨_, (pss_one (ps_ost (pv 0) (pv 1))), _, rfl, _, rfl, a, C, rfl, T, hf, .inl ⟨ha, fun dx h1 h2 => k dx h1 h2⟩⟩
theorem ok_errT {f : Addr} {fd : FuncData} (F : Fun K "__init__" "Twice.__init__" sErrT f fd) : FnOk P w K mg base CX0 1 f fd ["self", "name"] (spErr K "name") := by
  refine F.ok scErrT (fun vs H Q E h => ?_) (fun cdv A outer s H vs Q E hr h => ?_)
  · obtain ⟨a, C, v, rfl, _⟩ := h
    rfl
  · obtain ⟨a, C, v, rfl, T, hf, ha, k⟩ := h
    exact ⟨_, (pss_one (ps_ost (pv 0) (pv 1))), _, rfl, _, rfl, a, C, rfl, T, hf, .inl ⟨ha, fun dx h1 h2 => k dx h1 h2⟩⟩
theorem ok_errM {f : Addr} {fd : FuncData} (F : Fun K "__init__" "TooMany.__init__" sErrM f fd) : FnOk P w K mg base CX0 1 f fd ["self", "most"] (spErr K "most") := by
  refine F.ok scErrM (fun vs H Q E h => ?_) (fun cdv A outer s H vs Q E hr h => ?_)
  · obtain ⟨a, C, v, rfl, _⟩ := h
    rfl
  · obtain ⟨a, C, v, rfl, T, hf, ha, k⟩ := h
    exact ⟨_, (pss_one (ps_ost (pv 0) (pv 1))), _, rfl, _, rfl, a, C, rfl, T, hf, .inl ⟨ha, fun dx h1 h2 => k dx h1 h2⟩⟩
/-- an error class x of ours with its __init__, which keeps the field y -/
structure ErrC (P : Program) (w : World) (K : PySem.W.Frag) (mg : Str → Option Value) (base : Heap) (x y : Str) (C fI : Addr) : Prop where
  O : OexC K C
  i : PySem.W.findIn K (.ref C) "__init__" = some (some (.ref fI))
  t : PySem.W.typeIn K (.ref fI) = some (.type "function")
  ok : ∃ fd, FnOk P w K mg base CX0 1 fI fd ["self", y] (spErr K y) ∧ Binds K fd ["self", y] []
  g : mg x = some (.ref C)
  v : PySem.W.findIn K (.ref C) y = some none
/-- what making an error of ours asks -/
theorem mkO_of {H : Hp} {C : Addr} {y : Str} {v : V} {Q : XK} (O : OexC K C) (hv : PySem.W.findIn K (.ref C) y = some none) (k : ∀ d H', Told H d y v H' → Q (.ref C) (some d) H') :
    [v].length ≤ 1000 ∧ ∀ a : Addr, H a = none → spErr K y (.ref a :: ([v] ++ [])) (upd H a (exo a C none)) (fun x H2 => x = .non ∧ ∃ (d : Addr) (fs : List (Str × V)), H2 a = some (exo a C (some d)) ∧ H2 d = some (exd d fs) ∧ H d = none ∧ Q (.ref C) (some d) (upd (L2.del H2 a) d (.xd fs))) (fun _ _ _ => False) := by
  refine ⟨by show 1 ≤ 1000; decide, fun a ha => ⟨a, C, v, rfl, O, hv, upd_same, fun d hd hne => ?_⟩⟩
  have hd' : H d = none := by rw [upd_ne hne] at hd; exact hd
  refine ⟨rfl, d, [(y, v)], upd_same, by rw [upd_ne hne]; exact upd_same, hd', k d _ ⟨fun b o hb => ?_, hd', upd_same⟩⟩
  have n1 : b ≠ d := fun e => by rw [e, hd'] at hb; cases hb
  have n2 : b ≠ a := fun e => by rw [e, ha] at hb; cases hb
  rw [upd_ne n1]
  unfold L2.del
  rw [if_neg n2, upd_ne n2, upd_ne n1, upd_ne n2]
  exact hb
/-- check_names(values) -/
def spCns (K : PySem.W.Frag) (CN : Addr) : Sp := fun vs H Q E => ∃ (p : Addr) (xs : List V), vs = [.ref p] ∧ SqT K H p xs ∧
  ((∃ ws, xs = ws.map V.str ∧ Nms ws ∧ Q .non H) ∨ ∃ ws v, Bad K H xs ws v ∧ ∀ d H', Told H d "value" v H' → E (.ref CN) (some d) H')
theorem ok_cns {CN fI f : Addr} {fd : FuncData} (F : Fun K "check_names" "check_names" sCns f fd) (cIs : C8.Cal P w K mg base 1 "is_name" (spIs K) []) (B : ErrC P w K mg base "BadName" "value" CN fI) :
    FnOk P w K mg base (L2N.CX P w) 3 f fd ["values"] (spCns K CN) := by
  obtain ⟨fde, Fe, hbe⟩ := B.ok
  refine NN.okN F scCns (fun vs H Q E h => ?_) (fun cdv A outer s H vs Q E hr h => ?_)
  · obtain ⟨p, xs, rfl, _⟩ := h
    rfl
  · obtain ⟨p, xs, rfl, hS, h⟩ := h
    refine ⟨_, (pss_one (ps_for (passes_of rfl) rfl (pi_tup (pv 0)) (pg_name (i := 1) scCns.nd rfl (Or.inl rfl)) (pss_one (ps_if (pt_not (pt_val (C8.pe_c cIs hr (by decide) rfl (pa_cons (pv 1) pa_nil))))
      (pss_one (L2N.ps_raise rfl (L2N.takes_of rfl rfl rfl rfl) (NN.pmkN B.O B.i B.t Fe hr hbe pass0 rfl B.g (pa_cons (pv 1) pa_nil)))) pss_nil)))), ?_⟩
    refine ⟨_, rfl, p, rfl, ⟨xs, hS⟩, ?_⟩
    rcases h with ⟨ws, rfl, hn, q⟩ | ⟨ws, v, ⟨l, rfl, hn, bad⟩, q⟩
    · refine for_tup (xs := ws.map V.str) (fun i σ H' => H' = H ∧ ∃ y, σ = [some (.ref p), y]) ⟨rfl, _, rfl⟩ (fun i σ H' _ ⟨e, _⟩ => by rw [e]; exact hS) (fun i x σ H' hx ⟨e, y, eσ⟩ => ?_) (fun σ H' ⟨e, _⟩ => by rw [e]; exact q)
      subst e eσ
      rw [List.getElem?_map] at hx
      obtain ⟨z, hz, rfl⟩ : ∃ z, ws[i]? = some z ∧ V.str z = x := by
        cases e : ws[i]? with
        | none => rw [e] at hx; cases hx
        | some z => rw [e] at hx; exact ⟨z, rfl, Option.some.inj hx⟩
      obtain ⟨h1, h2⟩ := hn z (List.mem_of_getElem? hz)
      refine ⟨_, rfl, _, rfl, .inl ⟨z, rfl, h1, ?_⟩⟩
      rw [h2]
      exact ⟨_, rfl, iteF ⟨rfl, _, rfl⟩⟩
    · refine for_tup (xs := ws.map V.str ++ v :: l) (fun i σ H' => i ≤ ws.length ∧ H' = H ∧ ∃ y, σ = [some (.ref p), y]) ⟨Nat.zero_le _, rfl, _, rfl⟩ (fun i σ H' _ ⟨_, e, _⟩ => by rw [e]; exact hS) (fun i x σ H' hx ⟨hi, e, y, eσ⟩ => ?_) (fun σ H' ⟨hi, _⟩ => ?_)
      · subst e eσ
        by_cases lt : i < ws.length
        · rw [List.getElem?_append_left (by rw [List.length_map]; exact lt), List.getElem?_map, List.getElem?_eq_getElem lt] at hx
          obtain rfl := Option.some.inj hx
          obtain ⟨h1, h2⟩ := hn ws[i] (List.getElem_mem lt)
          refine ⟨_, rfl, _, rfl, .inl ⟨ws[i], rfl, h1, ?_⟩⟩
          rw [h2]
          exact ⟨_, rfl, iteF ⟨lt, rfl, _, rfl⟩⟩
        · obtain rfl : i = ws.length := by omega
          rw [List.getElem?_append_right (by rw [List.length_map]; exact Nat.le_refl _), List.length_map, Nat.sub_self] at hx
          obtain rfl : v = x := Option.some.inj hx
          refine ⟨_, rfl, _, rfl, ?_⟩
          rcases bad with ⟨z, rfl, hz, hb⟩ | bad
          · refine .inl ⟨z, rfl, hz, ?_⟩
            rw [hb]
            exact ⟨_, rfl, iteT ⟨_, rfl, mkO_of B.O B.v q⟩⟩
          · exact .inr ⟨bad, _, rfl, iteT ⟨_, rfl, mkO_of B.O B.v q⟩⟩
      · rw [List.length_append, List.length_map, List.length_cons] at hi
        omega
end
end K33

set_option Elab.async false
set_option linter.all false
set_option maxRecDepth 100000
set_option maxHeartbeats 4000000
namespace K33
open PySem L2 NX NU
open PyProof.Rows (sortedS)
theorem sqT_same {K : PySem.W.Frag} {H H' : Hp} {a : Addr} {xs : List V} (s : Same H H') (h : SqT K H a xs) : SqT K H' a xs := by
  rcases h with (h | ⟨o, h⟩) | h
  · exact .inl (.inl (s _ _ h))
  · exact .inl (.inr ⟨o, s _ _ h⟩)
  · exact .inr h
/-- a def of ours that may raise, called by its name -/
structure CalL (P : Program) (w : World) (K : PySem.W.Frag) (mg : Str → Option Value) (base : Heap) (k : Nat) (x : Str) (sp : Sp) : Prop where
  ex : ∃ (f : Addr) (fd : FuncData) (ps : List Str), FnOk P w K mg base (L2N.CX P w) k f fd ps sp ∧ mg x = some (.ref f) ∧ PySem.W.keepIn K (.ref f) = true ∧ Binds K fd ps []
theorem pe_cL {X : Cx} {k j : Nat} {x : Str} {sp : Sp} {E : XK} {e : Expr} {es : List Expr} {t : TA} {p pos : Pos} (c : CalL X.prog X.w X.K X.mg X.base k x sp) (hr : Room j X.A) (hk : k ≤ j) (hg : Gl X x) (hx : Passes (L2N.CX X.prog X.w) X E) (ha : PA X (e :: es) t)
    (hdb : (x == ("__debug__" : Str)) = false := by decide) (he : starEach (e :: es) X.env = (false, eval e X.env) :: starEach es X.env := by rfl) (hpl : (backTo pos (starEach es X.env)).any (·.1) = false := by rfl) :
    PE X (.Call (.Name x p) (e :: es) [] pos) (tCall sp [] E t) := by
  obtain ⟨f, fd, ps, F, hm, kp, b⟩ := c.ex
  exact pe_call F (hr.mono hk) hg hm kp b .nil hx ha hdb he hpl
/-- no text stands twice; the first that does, at place i -/
def NoRep (ws : List Str) : Prop := ∀ i z, ws[i]? = some z → z ∉ ws.take i
def Rep (ws : List Str) (i : Nat) (z : Str) : Prop := ws[i]? = some z ∧ z ∈ ws.take i ∧ ∀ j, j < i → ∀ y, ws[j]? = some y → y ∉ ws.take j
theorem rep_or (ws : List Str) : NoRep ws ∨ ∃ i z, Rep ws i z := by
  suffices h : ∀ n, n ≤ ws.length → (∀ j, j < n → ∀ y, ws[j]? = some y → y ∉ ws.take j) ∨ ∃ i z, Rep ws i z by
    rcases h ws.length (Nat.le_refl _) with h | h
    · exact .inl fun i z e => h i (List.getElem?_eq_some_iff.mp e).1 z e
    · exact .inr h
  intro n
  induction n with
  | zero => exact fun _ => .inl nofun
  | succ n ih =>
    intro hn
    rcases ih (by omega) with h | h
    · have at_ : ws[n]? = some ws[n] := List.getElem?_eq_getElem (by omega)
      by_cases m : ws[n] ∈ ws.take n
      · exact .inr ⟨n, _, at_, m, h⟩
      · refine .inl fun j hj y e => ?_
        by_cases e2 : j = n
        · subst e2
          rw [at_] at e
          exact Option.some.inj e ▸ m
        · exact h j (by omega) y e
    · exact .inr h
/-- check_unlike(names), the names texts -/
def spCun (K : PySem.W.Frag) (CT : Addr) : Sp := fun vs H Q E => ∃ (p : Addr) (ws : List Str), vs = [.ref p] ∧ SqT K H p (ws.map V.str) ∧ ws.length ≤ 1000 ∧
  ((NoRep ws ∧ ∀ H', Same H H' → Q .non H') ∨ ∃ i z, Rep ws i z ∧ ∀ d H', Told H d "name" (.str z) H' → E (.ref CT) (some d) H')
/-- ascending(names) -/
structure TxtA (mg : Str → Option Value) : Prop where
  bset : mg "set" = none
  bsorted : mg "sorted" = none
  btuple : mg "tuple" = none
def spAsc (K : PySem.W.Frag) : Sp := fun vs H Q _ => ∃ (p : Addr) (ws : List Str), vs = [.ref p] ∧ (SqL K H p (ws.map V.str) ∨ SqT K H p (ws.map V.str)) ∧ ws.length < 64 ∧
  ∀ (ys : List Str) q H', sortedS ys = true → ys.Nodup → (∀ y, y ∈ ys ↔ y ∈ ws) → Same H H' → H q = none → H' q = some (.tup (ys.map V.str)) → Q (.ref q) H'
section
variable {P : Program} {w : World} {K : PySem.W.Frag} {mg : Str → Option Value} {base : Heap}
theorem ok_cun {CT fI f : Addr} {fd : FuncData} (F : Fun K "check_unlike" "check_unlike" sCun f fd) (B : ErrC P w K mg base "Twice" "name" CT fI) :
    FnOk P w K mg base (L2N.CX P w) 3 f fd ["names"] (spCun K CT) := by
  obtain ⟨fde, Fe, hbe⟩ := B.ok
  refine NN.okN F scCun (fun vs H Q E h => ?_) (fun cdv A outer s H vs Q E hr h => ?_)
  · obtain ⟨p, ws, rfl, _⟩ := h
    rfl
  · obtain ⟨p, ws, rfl, hS, few, h⟩ := h
    have hu := hu_of hr
    refine ⟨_, (pss_cons (ps_set (i := 1) scCun.nd rfl (Or.inl rfl) pe_dnewK) (pss_one (ps_for (passes_of rfl) rfl (pi_tup (pv 0)) (pg_name (i := 2) scCun.nd rfl (Or.inl rfl))
      (pss_cons (ps_if (pt_cmp (pc_din hu (pv 2) (pv 1))) (pss_one (L2N.ps_raise rfl (L2N.takes_of rfl rfl rfl rfl) (NN.pmkN B.O B.i B.t Fe hr hbe pass0 rfl B.g (pa_cons (pv 2) pa_nil)))) pss_nil)
        (pss_one (ps_dput hu (pv 1) (pv 2) pe_bl rfl)))))), ?_⟩
    intro d hd
    refine ⟨_, rfl, p, rfl, ⟨_, sqT_same (Same.new hd) hS⟩, ?_⟩
    have step : ∀ (i : Nat) (z : Str) (H' : Hp) (kvs : List (Key × V)), ws[i]? = some z → (∀ b o, H b = some o → H' b = some o) → H' d = some (.dK kvs) → kvs.length ≤ i → (∀ y : Str, (valV kvs (.inr y)).isSome = decide (y ∈ ws.take i)) →
        z ∉ ws.take i → (∀ b o, H b = some o → upd H' d (.dK (putK kvs (.inr z) (.bl true))) b = some o) ∧ (putK kvs (.inr z) (.bl true)).length ≤ i + 1 ∧ ∀ y : Str, (valV (putK kvs (.inr z) (.bl true)) (.inr y)).isSome = decide (y ∈ ws.take (i + 1)) := fun i z H' kvs hz s g l k no => by
      refine ⟨fun b o hb => ?_, Nat.le_trans (length_putK kvs _ _) (by omega), fun y => ?_⟩
      · have ne : b ≠ d := fun e => by rw [e, hd] at hb; cases hb
        rw [upd_ne ne]
        exact s b o hb
      · rw [valV_put, List.take_add_one, hz]
        by_cases e : y = z
        · subst e
          rw [if_pos rfl]
          simp
        · rw [if_neg (fun q => e (Sum.inr.inj q)), k y]
          simp [e]
    let Iv : Nat → L2.St → Hp → Prop := fun i σ H' => (∀ b o, H b = some o → H' b = some o) ∧ (∃ kvs, H' d = some (.dK kvs) ∧ kvs.length ≤ i ∧ ∀ y : Str, (valV kvs (.inr y)).isSome = decide (y ∈ ws.take i)) ∧ ∃ y, σ = [some (.ref p), some (.ref d), y]
    have base0 : Iv 0 [some (.ref p), some (.ref d), none] (upd H d (.dK [])) := ⟨Same.new hd, ⟨[], upd_same, Nat.le_refl _, fun y => by simp [valV]⟩, _, rfl⟩
    rcases h with ⟨nr, q⟩ | ⟨n, zn, ⟨hn, hin, hfirst⟩, q⟩
    · refine for_tup (xs := ws.map V.str) Iv base0 (fun i σ H' _ ⟨s, _⟩ => sqT_same s hS) (fun i x σ H' hx ⟨s, ⟨kvs, g, l, k⟩, y, eσ⟩ => ?_) (fun σ H' ⟨s, _⟩ => q _ s)
      subst eσ
      rw [List.getElem?_map] at hx
      obtain ⟨z, hz, rfl⟩ : ∃ z, ws[i]? = some z ∧ V.str z = x := by
        cases e : ws[i]? with
        | none => rw [e] at hx; cases hx
        | some z => rw [e] at hx; exact ⟨z, rfl, Option.some.inj hx⟩
      have no := nr i z hz
      obtain ⟨a1, a2, a3⟩ := step i z H' kvs hz s g l k no
      refine ⟨_, rfl, _, rfl, _, _, rfl, DGet.k (k := .inr z) g, ?_⟩
      rw [k z, decide_eq_false no]
      exact ⟨_, rfl, iteF ⟨_, rfl, _, rfl, _, _, rfl, DPut.k (k := .inr z) g (by have := (List.getElem?_eq_some_iff.mp hz).1; rw [sizeLine_eq]; omega), a1, ⟨_, upd_same, a2, a3⟩, _, rfl⟩⟩
    · have ltn : n < ws.length := (List.getElem?_eq_some_iff.mp hn).1
      refine for_tup (xs := ws.map V.str) (fun i σ H' => i ≤ n ∧ Iv i σ H') ⟨Nat.zero_le _, base0⟩ (fun i σ H' _ ⟨_, s, _⟩ => sqT_same s hS) (fun i x σ H' hx ⟨hi, s, ⟨kvs, g, l, k⟩, y, eσ⟩ => ?_) (fun σ H' ⟨hi, _⟩ => ?_)
      · subst eσ
        rw [List.getElem?_map] at hx
        obtain ⟨z, hz, rfl⟩ : ∃ z, ws[i]? = some z ∧ V.str z = x := by
          cases e : ws[i]? with
          | none => rw [e] at hx; cases hx
          | some z => rw [e] at hx; exact ⟨z, rfl, Option.some.inj hx⟩
        refine ⟨_, rfl, _, rfl, _, _, rfl, DGet.k (k := .inr z) g, ?_⟩
        rw [k z]
        by_cases e : i = n
        · subst e
          rw [hn] at hz
          obtain rfl := Option.some.inj hz
          rw [decide_eq_true hin]
          exact ⟨_, rfl, iteT ⟨_, rfl, mkO_of B.O B.v fun d2 H2 t => q d2 H2 (t.old s)⟩⟩
        · have no := hfirst i (by omega) z hz
          obtain ⟨a1, a2, a3⟩ := step i z H' kvs hz s g l k no
          rw [decide_eq_false no]
          exact ⟨_, rfl, iteF ⟨_, rfl, _, rfl, _, _, rfl, DPut.k (k := .inr z) g (by rw [sizeLine_eq]; omega), (by omega), a1, ⟨_, upd_same, a2, a3⟩, _, rfl⟩⟩
      · rw [List.length_map] at hi
        omega
theorem ok_asc {f : Addr} {fd : FuncData} (F : Fun K "ascending" "ascending" sAsc f fd) (T : TxtA mg) : FnOk P w K mg base CX0 1 f fd ["names"] (spAsc K) := by
  refine F.ok scAsc (fun vs H Q E h => ?_) (fun cdv A outer s H vs Q E hr h => ?_)
  · obtain ⟨p, ws, rfl, _⟩ := h
    rfl
  · obtain ⟨p, ws, rfl, hS, few, q⟩ := h
    refine ⟨_, (pss_one (ps_ret (pe_callTy call_tuple_of (by rfl) T.btuple (by decide +kernel) (pa_cons (pe_callB (cr_srtX rfl) (by rfl) T.bsorted (by decide +kernel) (pa_cons (pe_callTy (cr_setX rfl) (by rfl) T.bset (by decide +kernel) (pa_cons (pv 0) pa_nil)) pa_nil)) pa_nil)))), ?_⟩
    refine ⟨_, rfl, p, ws, rfl, hS, by omega, fun a ha => ⟨a, ws, rfl, upd_same, few, fun ys b srt nd mm hb => ?_⟩⟩
    refine ⟨b, _, rfl, .inl ⟨SqL.of upd_same, fun l hl => ?_⟩⟩
    have s1 : Same H (upd H a (SetX w a ws)) := Same.new ha
    have s2 := s1.trans (Same.new (o := .lst (ys.map V.str)) hb)
    exact q ys l _ srt nd mm (s2.trans (Same.new hl)) (sameNone s2 hl) upd_same
end
end K33

set_option Elab.async false
set_option linter.all false
set_option maxRecDepth 100000
set_option maxHeartbeats 4000000
namespace K33
open PySem L2 NX NU
open PyProof.Rows (sortedS)
/-- what is refused: a value that is no name, a text that stands twice, too many, none -/
inductive Fa
  | nm (v : V)
  | tw (z : Str)
  | mn
  | em
/-- the four error classes -/
structure C4 where
  n : Addr
  t : Addr
  m : Addr
  d : Addr
def Fa.cls (c : C4) : Fa → Addr
  | .nm _ => c.n
  | .tw _ => c.t
  | .mn => c.m
  | .em => c.d
def Fa.fld : Fa → Str
  | .nm _ => "value"
  | .tw _ => "name"
  | .mn => "most"
  | .em => "value"
def Fa.val : Fa → V
  | .nm v => v
  | .tw z => .str z
  | .mn => .int 3
  | .em => .non
/-- what used names are refused with -/
inductive UsedF (ws : List Str) : Option Fa → Prop
  | tw {i : Nat} {z : Str} : Rep ws i z → UsedF ws (some (.tw z))
  | mn : NoRep ws → 3 < ws.length → UsedF ws (some .mn)
  | em : ws = [] → UsedF ws (some .em)
  | ok : NoRep ws → 0 < ws.length → ws.length ≤ 3 → UsedF ws none
/-- what values are refused with, those from place k on being used -/
inductive DueF (K : PySem.W.Frag) (H : Hp) (xs : List V) (k : Nat) : Option Fa → Prop
  | nm {ws : List Str} {v : V} : Bad K H xs ws v → DueF K H xs k (some (.nm v))
  | rest {ws : List Str} {r : Option Fa} : xs = ws.map V.str → Nms ws → UsedF (ws.drop k) r → DueF K H xs k r
/-- it is so, or the error comes -/
def Ends (c : C4) (H : Hp) (E : XK) (ok : Prop) : Option Fa → Prop
  | none => ok
  | some f => ∀ d H', Told H d f.fld f.val H' → E (.ref (f.cls c)) (some d) H'
theorem usedF_any (ws : List Str) : ∃ r, UsedF ws r := by
  rcases rep_or ws with h | ⟨i, z, h⟩
  · by_cases l0 : ws.length = 0
    · exact ⟨_, .em (List.length_eq_zero_iff.mp l0)⟩
    · by_cases l3 : ws.length ≤ 3
      · exact ⟨_, .ok h (by omega) l3⟩
      · exact ⟨_, .mn h (by omega)⟩
  · exact ⟨_, .tw h⟩
structure DeedC (K : PySem.W.Frag) (mg : Str → Option Value) (CD : Addr) : Prop where
  g : mg "Deed" = some (.ref CD)
  rd : ∃ mc u, ClX.CRead K CD mc ∧ ClX.CVal K CD mc "MOST" (.int 3) u
def spCus (K : PySem.W.Frag) (c : C4) : Sp := fun vs H Q E => ∃ (p : Addr) (ws : List Str) (r : Option Fa), vs = [.ref p] ∧ SqT K H p (ws.map V.str) ∧ ws.length ≤ 1000 ∧ UsedF ws r ∧ Ends c H E (∀ H', Same H H' → Q .non H') r
section
variable {P : Program} {w : World} {K : PySem.W.Frag} {mg : Str → Option Value} {base : Heap}
theorem ok_cus {c : C4} {CD fT fM fD f : Addr} {fd : FuncData} (F : Fun K "check_used" "check_used" sCus f fd) (T : TxtB mg) (cUn : CalL P w K mg base 3 "check_unlike" (spCun K c.t)) (D : DeedC K mg CD) (BM : ErrC P w K mg base "TooMany" "most" c.m fM) (BD : ErrC P w K mg base "BadDeed" "value" c.d fD) :
    FnOk P w K mg base (L2N.CX P w) 4 f fd ["names"] (spCus K c) := by
  obtain ⟨fdm, Fm, hbm⟩ := BM.ok
  obtain ⟨fdd, Fd, hbd⟩ := BD.ok
  obtain ⟨mc, u, rd, cv⟩ := D.rd
  refine NN.okN F scCus (fun vs H Q E h => ?_) (fun cdv A outer s H vs Q E hr h => ?_)
  · obtain ⟨p, ws, r, rfl, _⟩ := h
    rfl
  · obtain ⟨p, ws, r, rfl, hS, few, hU, h⟩ := h
    refine ⟨_, (pss_cons (ps_expr (pe_cL cUn hr (by decide) rfl (NN.passN (L2N.takes_of rfl rfl rfl rfl)) (pa_cons (pv 0) pa_nil)))
      (pss_cons (ps_if (pt_cmpR op_gt (pe_callB call_len_seq (by rfl) T.blen (by decide +kernel) (pa_cons (pv 0) pa_nil)) (ClX.pe_cval (C8.pe_gc (v := .ref CD) rfl ⟨_, D.g, rfl⟩)) (nomark _)) (pss_one (L2N.ps_raise rfl (L2N.takes_of rfl rfl rfl rfl) (NN.pmkN BM.O BM.i BM.t Fm (hr.mono (by decide)) hbm pass0 rfl BM.g (pa_cons (ClX.pe_cval (C8.pe_gc (v := .ref CD) rfl ⟨_, D.g, rfl⟩)) pa_nil)))) pss_nil)
      (pss_one (ps_if (pt_not (pt_truth (pv 0) (fun _ => rfl))) (pss_one (L2N.ps_raise rfl (L2N.takes_of rfl rfl rfl rfl) (NN.pmkN BD.O BD.i BD.t Fd (hr.mono (by decide)) hbd pass0 rfl BD.g (pa_cons pe_non pa_nil)))) pss_nil)))), ?_⟩
    refine ⟨_, rfl, p, ws, rfl, hS, few, ?_⟩
    have split : (∃ i z, Rep ws i z ∧ ∀ d H', Told H d "name" (.str z) H' → E (.ref c.t) (some d) H') ∨ (NoRep ws ∧ (∀ d H', Told H d "most" (.int 3) H' → 3 < ws.length → E (.ref c.m) (some d) H') ∧ (∀ d H', Told H d "value" .non H' → ws = [] → E (.ref c.d) (some d) H') ∧ ∀ H', Same H H' → 0 < ws.length → ws.length ≤ 3 → Q .non H') := by
      cases hU with
      | tw rp => exact .inl ⟨_, _, rp, h⟩
      | mn nr l => exact .inr ⟨nr, fun d H' t _ => h d H' t, fun d H' t e => (by rw [e] at l; cases l), fun H' s _ l3 => by omega⟩
      | em e => exact .inr ⟨(by rw [e]; exact fun i z q => by simp at q), fun d H' t l => (by rw [e] at l; cases l), fun d H' t _ => h d H' t, fun H' s l0 _ => by rw [e] at l0; cases l0⟩
      | ok nr l0 l3 => exact .inr ⟨nr, fun d H' t l => (by omega), fun d H' t e => (by rw [e] at l0; cases l0), fun H' s _ _ => h H' s⟩
    rcases split with ⟨i, z, rp, q⟩ | ⟨nr, q1, q2, q3⟩
    · exact .inr ⟨i, z, rp, q⟩
    refine .inl ⟨nr, fun H' s => ?_⟩
    refine ⟨_, rfl, p, _, rfl, .inr (sqT_same s hS), CD, mc, _, u, rfl, rd, cv, _, _, rfl, rfl, _, rfl, ite2 (fun h1 => ?_) (fun h1 => ?_)⟩
    · have h1 := of_decide_eq_true h1
      rw [List.length_map] at h1
      exact ⟨CD, mc, _, u, rfl, rd, cv, mkO_of BM.O BM.v fun d H2 t => q1 d H2 (t.old s) (by omega)⟩
    · have h1 : ¬ ((ws.map V.str).length : Int) > 3 := fun z => h1 (decide_eq_true z)
      rw [List.length_map] at h1
      refine ⟨_, rfl, !(ws.map V.str).isEmpty, .inr (.inl ⟨_, sqT_same s hS, rfl⟩), ?_⟩
      cases ws with
      | nil => exact iteT (mkO_of BD.O BD.v fun d H2 t => q2 d H2 (t.old s) rfl)
      | cons z l => exact iteF (q3 H' s (Nat.succ_pos _) (by omega))
end
end K33

set_option Elab.async false
set_option linter.all false
set_option maxRecDepth 100000
set_option maxHeartbeats 4000000
namespace K33
open PySem L2 NX NU
open PyProof.Rows (sortedS)
theorem tyOf_same {K : PySem.W.Frag} {H H' : Hp} {v : V} {t : Value} (s : Same H H') (h : TyOf K H v t) : TyOf K H' v t := by
  cases h with
  | non => exact .non
  | bl x => exact .bl x
  | int x => exact .int x
  | str x => exact .str x
  | flt x => exact .flt x
  | lst h => exact .lst (s _ _ h)
  | frz h => exact .frz (s _ _ h)
  | tup h => exact .tup (s _ _ h)
  | dK h => exact .dK (s _ _ h)
  | dT h => exact .dT (s _ _ h)
  | ins h a b c d e => exact .ins (s _ _ h) a b c d e
theorem tyX_same {K : PySem.W.Frag} {H H' : Hp} {v : V} {t : Value} (s : Same H H') (h : TyX K H v t) : TyX K H' v t := by
  cases h with
  | base h => exact .base (tyOf_same s h)
  | byt b => exact .byt b
  | set h => exact .set (s _ _ h)
  | kList a b => exact .kList a b
  | kTuple a b => exact .kTuple a b
  | kDict a b => exact .kDict a b
  | fTuple h => exact .fTuple (s _ _ h)
  | fDict h => exact .fDict (s _ _ h)
theorem NoStr.same {K : PySem.W.Frag} {H H' : Hp} {v : V} (s : Same H H') (h : NoStr K H v) : NoStr K H' v := by
  obtain ⟨t, a, b⟩ := h
  exact ⟨t, tyX_same s a, b⟩
theorem NoNm.same {K : PySem.W.Frag} {H H' : Hp} {v : V} (s : Same H H') (h : NoNm K H v) : NoNm K H' v := by
  rcases h with h | h
  · exact .inl h
  · exact .inr (NoStr.same s h)

theorem Bad.same {K : PySem.W.Frag} {H H' : Hp} {xs : List V} {ws : List Str} {v : V} (s : Same H H') (h : Bad K H xs ws v) : Bad K H' xs ws v := by
  obtain ⟨l, a, b, c⟩ := h
  exact ⟨l, a, b, c.same s⟩
theorem DueF.same {K : PySem.W.Frag} {H H' : Hp} {xs : List V} {k : Nat} {r : Option Fa} (s : Same H H') (h : DueF K H xs k r) : DueF K H' xs k r := by
  cases h with
  | nm b => exact .nm (b.same s)
  | rest a b c => exact .rest a b c
theorem Ends.old {c : C4} {H H' : Hp} {E : XK} {ok ok2 : Prop} {r : Option Fa} (s : Same H H') (h : Ends c H E ok r) (k : ok → ok2) : Ends c H' E ok2 r := by
  cases r with
  | none => exact k h
  | some f => exact fun d H2 t => h d H2 (t.old s)
abbrev sUse : Stmt := inClass (top 36) 0
abbrev sMake : Stmt := inClass (top 37) 0
abbrev sDo : Stmt := inClass (top 38) 0
theorem scUse : FnScope ["self", "names"] ["self", "names"] (defScope sUse) := ⟨rfl, rfl, rfl, by decide +kernel, rfl, by decide +kernel, by decide +kernel⟩
theorem scMake : FnScope ["self", "name"] ["self", "name"] (defScope sMake) := ⟨rfl, rfl, rfl, by decide +kernel, rfl, by decide +kernel, by decide +kernel⟩
theorem scDo : FnScope ["self", "name", "names"] ["self", "name", "names"] (defScope sDo) := ⟨rfl, rfl, rfl, by decide +kernel, rfl, by decide +kernel, by decide +kernel⟩
/-- ys: the texts of ws, ascending, each once -/
def Asc (ys ws : List Str) : Prop := sortedS ys = true ∧ ys.Nodup ∧ ∀ y, y ∈ ys ↔ y ∈ ws
/-- a deed at x, of the class at C -/
def Dd (H : Hp) (x C : Addr) (us : List Str) (mk : V) (ys : List Str) : Prop := ∃ dx p q, H x = some (.ins C dx [("uses", .ref p), ("makes", mk), ("_names", .ref q)]) ∧ H p = some (.tup (us.map V.str)) ∧ H q = some (.tup (ys.map V.str))
structure DCls (K : PySem.W.Frag) (C : Addr) : Prop where
  cl : Cls K C
  nu : NoAttr K C "uses"
  nk : NoAttr K C "makes"
  nn : NoAttr K C "_names"
/-- a Use is made of what stands in the tuple at p -/
def spUse0 (K : PySem.W.Frag) (c : C4) : Sp := fun vs H Q E => ∃ (x C dx p : Addr) (xs : List V) (r : Option Fa), vs = [.ref x, .ref p] ∧ DCls K C ∧ H x = some (.ins C dx []) ∧ H p = some (.tup xs) ∧ xs.length < 60 ∧ DueF K H xs 0 r ∧
  Ends c H E (∀ ws ys H', xs = ws.map V.str → Asc ys ws → But x H H' → Dd H' x C ws .non ys → Q .non H') r
def spMake (K : PySem.W.Frag) (c : C4) : Sp := fun vs H Q E => ∃ (x C dx : Addr) (v : V), vs = [.ref x, v] ∧ DCls K C ∧ H x = some (.ins C dx []) ∧
  ((∃ z, IsNm v z ∧ ∀ H', But x H H' → Dd H' x C [] (.str z) [z] → Q .non H') ∨ (NoNm K H v ∧ ∀ d H', Told H d "value" v H' → E (.ref c.n) (some d) H'))
def spDo0 (K : PySem.W.Frag) (c : C4) : Sp := fun vs H Q E => ∃ (x C dx p : Addr) (v : V) (xs : List V) (r : Option Fa), vs = [.ref x, v, .ref p] ∧ DCls K C ∧ H x = some (.ins C dx []) ∧ H p = some (.tup xs) ∧ xs.length < 60 ∧ DueF K H (v :: xs) 1 r ∧
  Ends c H E (∀ m ws ys H', v = .str m → xs = ws.map V.str → Asc ys (m :: ws) → But x H H' → Dd H' x C ws (.str m) ys → Q .non H') r
section
variable {P : Program} {w : World} {K : PySem.W.Frag} {mg : Str → Option Value} {base : Heap}
/-- the calls that the three inits make -/
structure Cks (P : Program) (w : World) (K : PySem.W.Frag) (mg : Str → Option Value) (base : Heap) (c : C4) : Prop where
  ns : CalL P w K mg base 3 "check_names" (spCns K c.n)
  us : CalL P w K mg base 4 "check_used" (spCus K c)
  as : C8.Cal P w K mg base 1 "ascending" (spAsc K) []
theorem body_use {c : C4} (k : Cks P w K mg base c) {f : Addr} {cdv : Value} {A : Around} {outer : List Env} {s : Shared} {H : Hp} {vs : List V} {Q : VK} {E : XK} (hr : Room 4 (A.deeper (PyProof.Rows.envOfC "Use.__init__" (defScope sUse) s.heap.objs.size f cdv))) (h : spUse0 K c vs H Q E) :
    ∃ t, PSs (cxOf (L2N.CX P w) P w K mg base ["self", "names"] "Use.__init__" (defScope sUse) f cdv A outer s H E) (defBody sUse) t ∧ t { nx := fun _ H' => Q .non H', rt := Q } (start ["self", "names"] vs) H := by
  obtain ⟨x, C, dx, p, xs, r, rfl, hC, hx, hp, few, hD, h⟩ := h
  have px : p ≠ x := fun e => by rw [e, hx] at hp; cases hp
  refine ⟨_, (pss_cons (ps_expr (pe_cL k.ns hr (by decide) rfl (NN.passN (L2N.takes_of rfl rfl rfl rfl)) (pa_cons (pv 1) pa_nil)))
    (pss_cons (ps_expr (pe_cL k.us hr (by decide) rfl (NN.passN (L2N.takes_of rfl rfl rfl rfl)) (pa_cons (pv 1) pa_nil)))
    (pss_cons (ps_fld (pv 0) (pv 1) rfl) (pss_cons (ps_fld (pv 0) pe_non rfl) (pss_one (ps_fld (pv 0) (C8.pe_c k.as hr (by decide) rfl (pa_cons (pv 1) pa_nil)) rfl)))))), ?_⟩
  cases hD with
  | nm b => exact ⟨_, rfl, p, xs, rfl, SqT.of hp, .inr ⟨_, _, b, h⟩⟩
  | rest e hn hU =>
    rename_i ws
    subst e
    rw [List.drop_zero] at hU
    rw [List.length_map] at few
    refine ⟨_, rfl, p, _, rfl, SqT.of hp, .inl ⟨ws, rfl, hn, ?_⟩⟩
    refine ⟨_, rfl, p, ws, r, rfl, SqT.of hp, by omega, hU, Ends.old (fun _ _ z => z) h fun h H1 s1 => ?_⟩
    refine ⟨_, rfl, _, rfl, x, C, dx, _, rfl, s1 _ _ hx, hC.cl, hC.nu, by decide, ?_⟩
    refine ⟨_, rfl, x, C, dx, _, rfl, upd_same, hC.cl, hC.nk, by show 1 < 1000; decide, ?_⟩
    refine ⟨_, rfl, p, ws, rfl, .inr (SqT.of (by rw [upd_ne px, upd_ne px]; exact s1 _ _ hp)), by omega, fun ys q H2 srt nd mm s2 hq gq => ?_⟩
    refine ⟨_, rfl, x, C, dx, _, rfl, s2 _ _ upd_same, hC.cl, hC.nn, by show 2 < 1000; decide, ?_⟩
    have qx : q ≠ x := fun e => by rw [e] at hq; rw [upd_same] at hq; cases hq
    refine h ws ys _ rfl ⟨srt, nd, mm⟩ (fun b o hb ne => ?_) ⟨dx, p, q, upd_same, ?_, ?_⟩
    · rw [upd_ne ne]
      exact s2 _ _ (by rw [upd_ne ne, upd_ne ne]; exact s1 _ _ hb)
    · rw [upd_ne px]
      exact s2 _ _ (by rw [upd_ne px, upd_ne px]; exact s1 _ _ hp)
    · rw [upd_ne qx]
      exact gq
theorem ok_make {c : C4} (k : Cks P w K mg base c) {f : Addr} {fd : FuncData} (F : Fun K "__init__" "Make.__init__" sMake f fd) : FnOk P w K mg base (L2N.CX P w) 4 f fd ["self", "name"] (spMake K c) := by
  refine NN.okN F scMake (fun vs H Q E h => ?_) (fun cdv A outer s H vs Q E hr h => ?_)
  · obtain ⟨x, C, dx, v, rfl, _⟩ := h
    rfl
  · obtain ⟨x, C, dx, v, rfl, hC, hx, h⟩ := h
    refine ⟨_, (pss_cons (ps_expr (pe_cL k.ns hr (by decide) rfl (NN.passN (L2N.takes_of rfl rfl rfl rfl)) (pa_cons (pe_tup (pa_cons (pv 1) pa_nil)) pa_nil)))
      (pss_cons (ps_fld (pv 0) (pe_tup pa_nil) rfl) (pss_cons (ps_fld (pv 0) (pv 1) rfl) (pss_one (ps_fld (pv 0) (pe_tup (pa_cons (pv 1) pa_nil)) rfl))))), ?_⟩
    refine ⟨_, rfl, by show 1 ≤ sizeLine; decide, fun t ht => ?_⟩
    have s1 : Same H (upd H t (.tup [v])) := Same.new ht
    refine ⟨t, [v], rfl, SqT.of upd_same, ?_⟩
    rcases h with ⟨z, ⟨rfl, hz, hn⟩, q⟩ | ⟨bad, q⟩
    · refine .inl ⟨[z], rfl, fun y hy => by rw [List.mem_singleton.mp hy]; exact ⟨hz, hn⟩, ?_⟩
      refine ⟨by show 0 ≤ sizeLine; decide, fun p hp => ?_⟩
      have s2 := s1.trans (Same.new (o := .tup []) hp)
      have px : p ≠ x := fun e => by rw [e, s1 _ _ hx] at hp; cases hp
      refine ⟨_, rfl, x, C, dx, _, rfl, s2 _ _ hx, hC.cl, hC.nu, by decide, ?_⟩
      refine ⟨_, rfl, _, rfl, x, C, dx, _, rfl, upd_same, hC.cl, hC.nk, by show 1 < 1000; decide, ?_⟩
      refine ⟨_, rfl, by show 1 ≤ sizeLine; decide, fun r hr => ?_⟩
      have rx : r ≠ x := fun e => by rw [e, upd_same] at hr; cases hr
      have hr0 := hr
      rw [upd_ne rx, upd_ne rx] at hr0
      have rp : p ≠ r := fun e => by rw [← e, upd_same] at hr0; cases hr0
      refine ⟨_, rfl, x, C, dx, _, rfl, (by rw [upd_ne (Ne.symm rx)]; exact upd_same), hC.cl, hC.nn, by show 2 < 1000; decide, ?_⟩
      refine q _ (fun b o hb ne => ?_) ⟨dx, p, r, upd_same, ?_, ?_⟩
      · have br : b ≠ r := fun e => by rw [← e, s2 _ _ hb] at hr0; cases hr0
        rw [upd_ne ne, upd_ne br, upd_ne ne, upd_ne ne]
        exact s2 _ _ hb
      · rw [upd_ne px, upd_ne rp, upd_ne px, upd_ne px]
        exact upd_same
      · rw [upd_ne rx]
        exact upd_same
    · exact .inr ⟨[], v, ⟨[], rfl, nofun, bad.same s1⟩, fun d H' t => q d H' (t.old s1)⟩
theorem body_do {c : C4} (k : Cks P w K mg base c) {f : Addr} {cdv : Value} {A : Around} {outer : List Env} {s : Shared} {H : Hp} {vs : List V} {Q : VK} {E : XK} (hr : Room 4 (A.deeper (PyProof.Rows.envOfC "Do.__init__" (defScope sDo) s.heap.objs.size f cdv))) (h : spDo0 K c vs H Q E) :
    ∃ t, PSs (cxOf (L2N.CX P w) P w K mg base ["self", "name", "names"] "Do.__init__" (defScope sDo) f cdv A outer s H E) (defBody sDo) t ∧ t { nx := fun _ H' => Q .non H', rt := Q } (start ["self", "name", "names"] vs) H := by
  obtain ⟨x, C, dx, p, v, xs, r, rfl, hC, hx, hp, few, hD, h⟩ := h
  have px : p ≠ x := fun e => by rw [e, hx] at hp; cases hp
  refine ⟨_, (pss_cons (ps_expr (pe_cL k.ns hr (by decide) rfl (NN.passN (L2N.takes_of rfl rfl rfl rfl)) (pa_cons (pe_tup (pa_cons (pv 1) (StX.pa_star (pv 2) pa_nil))) pa_nil)))
    (pss_cons (ps_expr (pe_cL k.us hr (by decide) rfl (NN.passN (L2N.takes_of rfl rfl rfl rfl)) (pa_cons (pv 2) pa_nil)))
    (pss_cons (ps_fld (pv 0) (pv 2) rfl) (pss_cons (ps_fld (pv 0) (pv 1) rfl) (pss_one (ps_fld (pv 0) (C8.pe_c k.as hr (by decide) rfl (pa_cons (pe_tup (pa_cons (pv 1) (StX.pa_star (pv 2) pa_nil))) pa_nil)) rfl)))))), ?_⟩
  have lz : 61 ≤ sizeLine := by decide
  refine ⟨_, rfl, _, rfl, p, xs, rfl, .inl (SqT.of hp), ?_⟩
  dsimp only [tNil]
  rw [List.append_nil]
  refine ⟨by show xs.length + 1 ≤ sizeLine; omega, fun t ht => ?_⟩
  have s0 : Same H (upd H t (.tup (v :: xs))) := Same.new ht
  refine ⟨t, _, rfl, SqT.of upd_same, ?_⟩
  cases hD with
  | nm b => exact .inr ⟨_, _, b.same s0, fun d H' t => h d H' (t.old s0)⟩
  | rest e hn hU =>
    rename_i ws
    cases ws with
    | nil => cases e
    | cons m ws =>
      injection e with e1 e2
      subst e1 e2
      rw [List.length_map] at few
      refine .inl ⟨m :: ws, rfl, hn, ?_⟩
      refine ⟨_, rfl, p, ws, r, rfl, SqT.of (s0 _ _ hp), by omega, hU, Ends.old s0 h fun h H1 s1 => ?_⟩
      have s1 := s0.trans s1
      refine ⟨_, rfl, _, rfl, x, C, dx, _, rfl, s1 _ _ hx, hC.cl, hC.nu, by decide, ?_⟩
      refine ⟨_, rfl, _, rfl, x, C, dx, _, rfl, upd_same, hC.cl, hC.nk, by show 1 < 1000; decide, ?_⟩
      refine ⟨_, rfl, _, rfl, p, _, rfl, .inl (SqT.of (by rw [upd_ne px, upd_ne px]; exact s1 _ _ hp)), ?_⟩
      dsimp only [tNil]
      rw [List.append_nil]
      refine ⟨by show (ws.map V.str).length + 1 ≤ sizeLine; rw [List.length_map]; omega, fun t2 ht2 => ?_⟩
      have tx : t2 ≠ x := fun e => by rw [e, upd_same] at ht2; cases ht2
      refine ⟨t2, m :: ws, rfl, .inr (SqT.of upd_same), by show ws.length + 1 < 64; omega, fun ys q H2 srt nd mm s2 hq gq => ?_⟩
      have qx : q ≠ x := fun e => by rw [e, upd_ne (Ne.symm tx), upd_same] at hq; cases hq
      have pt : p ≠ t2 := fun e => by rw [← e, upd_ne px, upd_ne px, s1 _ _ hp] at ht2; cases ht2
      refine ⟨_, rfl, x, C, dx, _, rfl, s2 _ _ (by rw [upd_ne (Ne.symm tx)]; exact upd_same), hC.cl, hC.nn, by show 2 < 1000; decide, ?_⟩
      refine h m ws ys _ rfl rfl ⟨srt, nd, mm⟩ (fun b o hb ne => ?_) ⟨dx, p, q, upd_same, ?_, ?_⟩
      · rw [upd_ne ne]
        have bt : b ≠ t2 := fun e => by rw [← e, upd_ne ne, upd_ne ne, s1 _ _ hb] at ht2; cases ht2
        exact s2 _ _ (by rw [upd_ne bt, upd_ne ne, upd_ne ne]; exact s1 _ _ hb)
      · rw [upd_ne px]
        exact s2 _ _ (by rw [upd_ne pt, upd_ne px, upd_ne px]; exact s1 _ _ hp)
      · rw [upd_ne qx]
        exact gq
/-- Use.__init__ and Do.__init__, from what is passed -/
def spUse (K : PySem.W.Frag) (c : C4) : Sp := fun vs H Q E => ∃ ws rest, vs = ws ++ rest ∧ ws.length = ["self"].length ∧ rest.length ≤ sizeLine ∧ ∀ p, H p = Option.none → spUse0 K c (ws ++ [V.ref p]) (upd H p (.tup rest)) Q E
def spDo (K : PySem.W.Frag) (c : C4) : Sp := fun vs H Q E => ∃ ws rest, vs = ws ++ rest ∧ ws.length = ["self", "name"].length ∧ rest.length ≤ sizeLine ∧ ∀ p, H p = Option.none → spDo0 K c (ws ++ [V.ref p]) (upd H p (.tup rest)) Q E
theorem ok_use {c : C4} (k : Cks P w K mg base c) {f : Addr} {fd : FuncData} (F : Fun K "__init__" "Use.__init__" sUse f fd) : FnR P w K mg base (L2N.CX P w) 5 f (spUse K c) := by
  obtain ⟨oc, od, kV, doc, pm, an, cdv, ct, osl, rfl, lk, hcd⟩ := F.ex
  exact StX.fn_star (N := ["self", "names"]) (ps := ["self"]) (pv := "names") lk hcd scUse NN.upN (StX.bind_star1 (B := fun us => bindArgs _ ⟨us, []⟩) (fun a => rfl) (fun a r rs => rfl)) fun A outer s H vs Q E hr h => body_use k hr h
theorem ok_do {c : C4} (k : Cks P w K mg base c) {f : Addr} {fd : FuncData} (F : Fun K "__init__" "Do.__init__" sDo f fd) : FnR P w K mg base (L2N.CX P w) 5 f (spDo K c) := by
  obtain ⟨oc, od, kV, doc, pm, an, cdv, ct, osl, rfl, lk, hcd⟩ := F.ex
  exact StX.fn_star (N := ["self", "name", "names"]) (ps := ["self", "name"]) (pv := "names") lk hcd scDo NN.upN (StX.bind_star2 (B := fun us => bindArgs _ ⟨us, []⟩) (fun a b => rfl) (fun a b r rs => rfl)) fun A outer s H vs Q E hr h => body_do k hr h
end
end K33

set_option Elab.async false
set_option linter.all false
set_option maxRecDepth 100000
set_option maxHeartbeats 4000000
namespace K33
open PySem L2 NX NU
open PyProof.Rows (sortedS)
section
variable {X : Cx} {CX : CXT} {k : Nat} {f C : Addr} {sp : Sp} {E : XK} {x : Str} {e : Expr} {te : TE} {p q pos : Pos}
/-- C(*e), C a class of ours whose __init__ takes what is passed by place -/
theorem pe_makeS (M : Mk X.K C f) (F : FnR X.prog X.w X.K X.mg X.base CX k f sp) (hr : Room (k + 1) X.A) (hg : Gl X x) (hm : X.mg x = some (.ref C)) (hx : Passes CX X E) (he : PE X e te) (hd : (x == ("__debug__" : Str)) = false := by decide)
    (hst : starEach [.Starred e q] X.env = [(true, eval e X.env)] := by rfl) :
    PE X (.Call (.Name x p) [.Starred e q] [] pos) (fun σ H Q => te σ H fun y H1 => ∃ a xs, y = V.ref a ∧ (SqT X.K H1 a xs ∨ SqL X.K H1 a xs) ∧
      ∀ x dx, H1 x = none → H1 dx = none → dx ≠ x → sp (V.ref x :: xs) (upd (upd H1 dx (.own x)) x (.ins C dx [])) (fun v H2 => v = .non ∧ Q (.ref x) H2) E) := by
  refine ⟨fun pins s σ H Q I h => ?_⟩
  refine wpAny_Call_Name_kw (ld_glob I hg hm ?_ hd)
  refine PySem.W.callWith_S (h₀ := X.base) I.ok.mod.kin M.kp (thn (he.run pins s σ H _ I h) fun v s1 ⟨y, H1, I1, ry, a, xs, ey, hxs, z⟩ => ?_) hst
  subst ey
  obtain rfl : v = Value.ref a := ry
  exact StX.star_any I1 hxs fun us s2 I2 rv => ⟨I2.kIn, StX.run_makeR M F hr hx I2 rv z⟩
end
/-- what makes a deed: a word and names -/
def Good (us : List Str) : Prop := NoRep us ∧ 0 < us.length ∧ us.length ≤ 3
inductive DP : Str → List Str → Option Str → List Str → Prop
  | use {us : List Str} : Nms us → Good us → DP "use" us none us
  | make {m : Str} : Nms [m] → DP "make" [m] (some m) []
  | both {m : Str} {us : List Str} : Nms (m :: us) → Good us → DP "do" (m :: us) (some m) us
/-- what is refused of texts -/
theorem dueT (K : PySem.W.Frag) (H : Hp) (k : Nat) : ∀ ws : List Str, (∀ z ∈ ws, z.length ≤ 1000) → ∃ r, DueF K H (ws.map V.str) k r ∧ (r = none → Nms ws ∧ Good (ws.drop k)) := by
  intro ws short
  have look : ∀ l : List Str, (∀ z ∈ l, z.length ≤ 1000) → Nms l ∨ ∃ us z rest, l = us ++ z :: rest ∧ Nms us ∧ nm z = false := by
    intro l
    induction l with
    | nil => exact fun _ => .inl nofun
    | cons y l ih =>
      intro sh
      cases e : nm y with
      | false => exact .inr ⟨[], y, l, rfl, nofun, e⟩
      | true =>
        have me : y.length ≤ 1000 ∧ nm y = true := ⟨sh y List.mem_cons_self, e⟩
        rcases ih fun z hz => sh z (List.mem_cons_of_mem _ hz) with h | ⟨us, z, rest, e1, e2, e3⟩
        · exact .inl fun z hz => (List.mem_cons.mp hz).elim (fun q => by rw [q]; exact me) (h z)
        · exact .inr ⟨y :: us, z, rest, by rw [e1]; rfl, fun z hz => (List.mem_cons.mp hz).elim (fun q => by rw [q]; exact me) (e2 z), e3⟩
  rcases look ws short with h | ⟨us, z, rest, e1, e2, e3⟩
  · obtain ⟨r, hr⟩ := usedF_any (ws.drop k)
    refine ⟨r, .rest rfl h hr, fun e => ?_⟩
    subst e
    cases hr with
    | ok a b c => exact ⟨h, a, b, c⟩
  · refine ⟨_, .nm ⟨rest.map V.str, by rw [e1, List.map_append]; rfl, e2, .inl ⟨z, rfl, short z (by rw [e1]; simp), e3⟩⟩, fun e => by cases e⟩
/-- the classes of deeds -/
structure D3 where
  u : Addr
  m : Addr
  d : Addr
structure Dcs (K : PySem.W.Frag) (mg : Str → Option Value) (c : D3) (fU fM fD : Addr) : Prop where
  mu : Mk K c.u fU
  mm : Mk K c.m fM
  md : Mk K c.d fD
  gu : mg "Use" = some (.ref c.u)
  gm : mg "Make" = some (.ref c.m)
  gd : mg "Do" = some (.ref c.d)
  du : DCls K c.u
  dm : DCls K c.m
  dd : DCls K c.d
def D3.of (c : D3) : Option Str → List Str → Addr
  | none, _ => c.u
  | some _, [] => c.m
  | some _, _ :: _ => c.d
def mkV : Option Str → V
  | none => .non
  | some m => .str m
/-- a new deed -/
def NewD (c : D3) (H : Hp) (x : Addr) (mk : Option Str) (us : List Str) (H' : Hp) : Prop := Same H H' ∧ H x = none ∧ ∃ ys, Asc ys (mk.toList ++ us) ∧ Dd H' x (c.of mk us) us (mkV mk) ys
def spOf (K : PySem.W.Frag) (c : C4) (d : D3) : Sp := fun vs H Q E => ∃ (wd : Str) (p : Addr) (ws : List Str), vs = [.str wd, .ref p] ∧ wd.length ≤ 1000 ∧ SqL K H p (ws.map V.str) ∧ ws.length < 60 ∧ (∀ z ∈ ws, z.length ≤ 1000) ∧
  ((∃ mk us, DP wd ws mk us ∧ ∀ x H', NewD d H x mk us H' → Q (.ref x) H') ∨ ((∀ mk us, ¬ DP wd ws mk us) ∧ ∀ C y v dd H', (C = c.n ∨ C = c.t ∨ C = c.m ∨ C = c.d) → Told H dd y v H' → E (.ref C) (some dd) H'))
end K33

set_option Elab.async false
set_option linter.all false
set_option maxRecDepth 100000
set_option maxHeartbeats 4000000
namespace K33
open PySem L2 NX NU
open PyProof.Rows (sortedS)
abbrev sOf : Stmt := top 40
theorem scOf : FnScope ["word", "names"] ["word", "names"] (defScope sOf) := ⟨rfl, rfl, rfl, by decide +kernel, rfl, by decide +kernel, by decide +kernel⟩
theorem vstr {a b : Str} : decide (V.str a = V.str b) = decide (a = b) := by
  rw [Bool.eq_iff_iff, decide_eq_true_eq, decide_eq_true_eq]
  exact ⟨fun h => by injection h, fun h => by rw [h]⟩
theorem Ends.four {c : C4} {H : Hp} {E : XK} {ok : Prop} {r : Option Fa} (g : r = none → ok) (b : r ≠ none → ∀ C y v dd H', (C = c.n ∨ C = c.t ∨ C = c.m ∨ C = c.d) → Told H dd y v H' → E (.ref C) (some dd) H') : Ends c H E ok r := by
  cases r with
  | none => exact g rfl
  | some f =>
    intro d H' t
    refine b (fun e => by cases e) _ _ _ _ _ ?_ t
    cases f with
    | nm v => exact .inl rfl
    | tw z => exact .inr (.inl rfl)
    | mn => exact .inr (.inr (.inl rfl))
    | em => exact .inr (.inr (.inr rfl))
theorem made2 {H : Hp} {x dx C : Addr} (h1 : H x = none) (h2 : H dx = none) (h3 : dx ≠ x) : Same H (upd (upd H dx (.own x)) x (.ins C dx [])) := (Same.new h2).trans (Same.new (by rw [upd_ne (Ne.symm h3)]; exact h1))
/-- behind the making of an instance, and what its __init__ lays -/
theorem new_of {H H1 H' : Hp} {x : Addr} (h1 : H x = none) (s : Same H H1) (b : But x H1 H') : Same H H' := fun a o e => b a o (s a o e) (fun z => by rw [z, h1] at e; cases e)
theorem map_str {a b : List Str} (h : a.map V.str = b.map V.str) : a = b := (List.map_inj_right fun a b q => by injection q).mp h
theorem noStr_str {K : PySem.W.Frag} {H : Hp} {z : Str} (h : NoStr K H (.str z)) : False := by
  obtain ⟨t, ty, k⟩ := h
  have e : t = .type "str" := by
    cases ty with
    | base b => cases b; rfl
  subst e
  have y : PySem.W.kitOne K (.type "str") (.type "str") = some true := kit_ty (by decide +kernel)
  rw [k] at y
  cases y
theorem rep_no {ws : List Str} {i : Nat} {z : Str} (h : NoRep ws) (r : Rep ws i z) : False := h i z r.1 r.2.1
theorem due_good {K : PySem.W.Frag} {H : Hp} {k : Nat} {ws : List Str} {r : Option Fa} (a : Nms ws) (b : Good (ws.drop k)) (h : DueF K H (ws.map V.str) k r) : r = none := by
  cases h with
  | nm bd =>
    exfalso
    obtain ⟨l, e1, e2, e3⟩ := bd
    rename_i us v
    have m : v ∈ ws.map V.str := by rw [e1]; simp
    obtain ⟨z, hz, rfl⟩ := List.mem_map.mp m
    rcases e3 with ⟨z2, e, _, n⟩ | e3
    · injection e with e
      subst e
      rw [(a z hz).2] at n
      cases n
    · exact noStr_str e3
  | rest e1 e2 e3 =>
    have e1 := map_str e1
    subst e1
    obtain ⟨n1, n2, n3⟩ := b
    cases e3 with
    | tw r => exact (rep_no n1 r).elim
    | mn _ l => omega
    | em e => rw [e] at n2; cases n2
    | ok _ _ _ => rfl
section
variable {P : Program} {w : World} {K : PySem.W.Frag} {mg : Str → Option Value} {base : Heap}
/-- Use(*names), as deed_of calls it -/
theorem use_of {c : C4} {d : D3} {fU fM fD : Addr} (D : Dcs K mg d fU fM fD) {H : Hp} {Q : VK} {E : XK} {ws : List Str} (few : ws.length < 60) (short : ∀ z ∈ ws, z.length ≤ 1000)
    (h : (∃ mk us, DP "use" ws mk us ∧ ∀ x H', NewD d H x mk us H' → Q (.ref x) H') ∨ ((∀ mk us, ¬ DP "use" ws mk us) ∧ ∀ C y v dd H', (C = c.n ∨ C = c.t ∨ C = c.m ∨ C = c.d) → Told H dd y v H' → E (.ref C) (some dd) H')) :
    ∀ x dx, H x = none → H dx = none → dx ≠ x → spUse K c (V.ref x :: ws.map V.str) (upd (upd H dx (.own x)) x (.ins d.u dx [])) (fun v H2 => v = .non ∧ Q (.ref x) H2) E := by
  intro x dx h1 h2 h3
  have s1 := made2 (C := d.u) h1 h2 h3
  have lz : 60 ≤ sizeLine := by decide
  refine ⟨[.ref x], ws.map V.str, rfl, rfl, by rw [List.length_map]; omega, fun p hp => ?_⟩
  have s2 := s1.trans (Same.new (o := .tup (ws.map V.str)) hp)
  obtain ⟨r, hr, good⟩ := dueT K (upd (upd (upd H dx (.own x)) x (.ins d.u dx [])) p (.tup (ws.map V.str))) 0 ws short
  have px : x ≠ p := fun e => by rw [← e, upd_same] at hp; cases hp
  refine ⟨x, d.u, dx, p, ws.map V.str, r, rfl, D.du, (upd_ne px).trans upd_same, upd_same, by rw [List.length_map]; exact few, hr, .four (fun e => ?_) fun ne C y v dd H' hC t => ?_⟩
  · intro ws2 ys H' e2 asc but dd
    have e2 : ws = ws2 := map_str e2
    subst e2
    obtain ⟨n1, n2⟩ := good e
    rw [List.drop_zero] at n2
    refine ⟨rfl, ?_⟩
    rcases h with ⟨mk, us, dp, q⟩ | ⟨no, _⟩
    · cases dp with
      | use a b => exact q x H' ⟨new_of h1 s2 but, h1, ys, asc, dd⟩
    · exact absurd (.use n1 n2) (no _ _)
  · rcases h with ⟨mk, us, dp, q⟩ | ⟨_, q⟩
    · cases dp with
      | use a b =>
        exact absurd (due_good a (by rw [List.drop_zero]; exact b) hr) ne
    · exact q C y v dd H' hC (t.old s2)
/-- Do(*names), as deed_of calls it -/
theorem do_of {c : C4} {d : D3} {fU fM fD : Addr} (D : Dcs K mg d fU fM fD) {H : Hp} {Q : VK} {E : XK} {m : Str} {ws : List Str} (few : ws.length < 59) (short : ∀ z ∈ m :: ws, z.length ≤ 1000)
    (h : (∃ mk us, DP "do" (m :: ws) mk us ∧ ∀ x H', NewD d H x mk us H' → Q (.ref x) H') ∨ ((∀ mk us, ¬ DP "do" (m :: ws) mk us) ∧ ∀ C y v dd H', (C = c.n ∨ C = c.t ∨ C = c.m ∨ C = c.d) → Told H dd y v H' → E (.ref C) (some dd) H')) :
    ∀ x dx, H x = none → H dx = none → dx ≠ x → spDo K c (V.ref x :: (m :: ws).map V.str) (upd (upd H dx (.own x)) x (.ins d.d dx [])) (fun v H2 => v = .non ∧ Q (.ref x) H2) E := by
  intro x dx h1 h2 h3
  have s1 := made2 (C := d.d) h1 h2 h3
  have lz : 60 ≤ sizeLine := by decide
  refine ⟨[.ref x, .str m], ws.map V.str, rfl, rfl, by rw [List.length_map]; omega, fun p hp => ?_⟩
  have s2 := s1.trans (Same.new (o := .tup (ws.map V.str)) hp)
  obtain ⟨r, hr, good⟩ := dueT K (upd (upd (upd H dx (.own x)) x (.ins d.d dx [])) p (.tup (ws.map V.str))) 1 (m :: ws) short
  have px : x ≠ p := fun e => by rw [← e, upd_same] at hp; cases hp
  refine ⟨x, d.d, dx, p, .str m, ws.map V.str, r, rfl, D.dd, (upd_ne px).trans upd_same, upd_same, by rw [List.length_map]; omega, hr, .four (fun e => ?_) fun ne C y v dd H' hC t => ?_⟩
  · intro m2 ws2 ys H' e1 e2 asc but dd
    have e2 : ws = ws2 := map_str e2
    injection e1 with e1
    subst e1 e2
    obtain ⟨n1, n2⟩ := good e
    have n2 : Good ws := n2
    refine ⟨rfl, ?_⟩
    rcases h with ⟨mk, us, dp, q⟩ | ⟨no, _⟩
    · cases dp with
      | both a b =>
        refine q x H' ⟨new_of h1 s2 but, h1, ys, asc, ?_⟩
        cases ws with
        | nil => exact absurd b.2.1 (by decide)
        | cons z l => exact dd
    · exact absurd (.both n1 n2) (no _ _)
  · rcases h with ⟨mk, us, dp, q⟩ | ⟨_, q⟩
    · cases dp with
      | both a b => exact absurd (due_good (k := 1) a b hr) ne
    · exact q C y v dd H' hC (t.old s2)
/-- Make(name), as deed_of calls it -/
theorem make_of {c : C4} {d : D3} {fU fM fD : Addr} (D : Dcs K mg d fU fM fD) {H : Hp} {Q : VK} {E : XK} {m : Str} (short : m.length ≤ 1000)
    (h : (∃ mk us, DP "make" [m] mk us ∧ ∀ x H', NewD d H x mk us H' → Q (.ref x) H') ∨ ((∀ mk us, ¬ DP "make" [m] mk us) ∧ ∀ C y v dd H', (C = c.n ∨ C = c.t ∨ C = c.m ∨ C = c.d) → Told H dd y v H' → E (.ref C) (some dd) H')) :
    ∀ x dx, H x = none → H dx = none → dx ≠ x → spMake K c (V.ref x :: ([V.str m] ++ [])) (upd (upd H dx (.own x)) x (.ins d.m dx [])) (fun v H2 => v = .non ∧ Q (.ref x) H2) E := by
  intro x dx h1 h2 h3
  have s1 := made2 (C := d.m) h1 h2 h3
  refine ⟨x, d.m, dx, .str m, rfl, D.dm, upd_same, ?_⟩
  cases e : nm m with
  | true =>
    have n : Nms [m] := fun z hz => by rw [List.mem_singleton.mp hz]; exact ⟨short, e⟩
    refine .inl ⟨m, ⟨rfl, short, e⟩, fun H' but dd => ⟨rfl, ?_⟩⟩
    rcases h with ⟨mk, us, dp, q⟩ | ⟨no, _⟩
    · cases dp with
      | make a => exact q x H' ⟨new_of h1 s1 but, h1, [m], ⟨rfl, (by simp), fun y => by simp⟩, dd⟩
    · exact absurd (.make n) (no _ _)
  | false =>
    refine .inr ⟨.inl ⟨m, rfl, short, e⟩, fun dd H' t => ?_⟩
    rcases h with ⟨mk, us, dp, q⟩ | ⟨_, q⟩
    · cases dp with
      | make a =>
        have z := (a m (List.mem_singleton.mpr rfl)).2
        rw [e] at z
        cases z
    · exact q _ _ _ dd H' (.inl rfl) (t.old s1)
theorem ok_of {c : C4} {d : D3} {fU fM fD fE f : Addr} {fd fdm : FuncData} (F : Fun K "deed_of" "deed_of" sOf f fd) (T : TxtB mg) (D : Dcs K mg d fU fM fD) (U : FnR P w K mg base (L2N.CX P w) 5 fU (spUse K c)) (M : FnOk P w K mg base (L2N.CX P w) 4 fM fdm ["self", "name"] (spMake K c)) (hbm : Binds K fdm ["self", "name"] [])
    (O : FnR P w K mg base (L2N.CX P w) 5 fD (spDo K c)) (B : ErrC P w K mg base "BadDeed" "value" c.d fE) : FnOk P w K mg base (L2N.CX P w) 7 f fd ["word", "names"] (spOf K c d) := by
  obtain ⟨fde, Fe, hbe⟩ := B.ok
  refine NN.okN F scOf (fun vs H Q E h => ?_) (fun cdv A outer s H vs Q E hr h => ?_)
  · obtain ⟨wd, p, ws, rfl, _⟩ := h
    rfl
  · obtain ⟨wd, p, ws, rfl, hw, hS, few, short, h⟩ := h
    refine ⟨_, (pss_cons (ps_if (pt_cmpR op_eq (pv 0) pe_str (nomark _)) (pss_one (ps_ret (pe_makeS D.mu U hr rfl D.gu (NN.passN (L2N.takes_of rfl rfl rfl rfl)) (pv 1)))) pss_nil)
      (pss_cons (ps_if (PW.pt (pw_and (pt_cmpR op_eq (pv 0) pe_str (nomark _)) (pw_and1 (pt_cmpR op_eq (pe_callB call_len_seq (by rfl) T.blen (by decide +kernel) (pa_cons (pv 1) pa_nil)) pe_int (nomark _))))) (pss_one (ps_ret (pe_make (ds := []) (dvs := []) D.mm M (hr.mono (by decide)) rfl D.gm hbm .nil (NN.passN (L2N.takes_of rfl rfl rfl rfl)) (pa_cons (pe_ix ix_list (pv 1) pe_int (fun _ _ => rfl)) pa_nil)))) pss_nil)
      (pss_cons (ps_if (PW.pt (pw_and (pt_cmpR op_eq (pv 0) pe_str (nomark _)) (pw_and1 (pt_truth (pv 1) (fun _ => rfl))))) (pss_one (ps_ret (pe_makeS D.md O hr rfl D.gd (NN.passN (L2N.takes_of rfl rfl rfl rfl)) (pv 1)))) pss_nil)
      (pss_one (L2N.ps_raise rfl (L2N.takes_of rfl rfl rfl rfl) (NN.pmkN B.O B.i B.t Fe (hr.mono (by decide)) hbe pass0 rfl B.g (pa_cons (pv 0) pa_nil))))))), ?_⟩
    have bad : (∀ mk us, ¬ DP wd ws mk us) → ∀ dd H', Told H dd "value" (.str wd) H' → E (.ref c.d) (some dd) H' := fun no dd H' t => by
      rcases h with ⟨mk, us, dp, _⟩ | ⟨_, q⟩
      · exact absurd dp (no _ _)
      · exact q _ _ _ dd H' (.inr (.inr (.inr rfl))) t
    refine ⟨_, rfl, rfl, _, rfl, ?_⟩
    by_cases e1 : wd = "use"
    · subst e1
      exact iteT ⟨_, rfl, p, _, rfl, .inr hS, use_of D few short h⟩
    · rw [vstr, decide_eq_false e1]
      refine iteF ⟨_, rfl, rfl, _, rfl, ?_⟩
      by_cases e2 : wd = "make"
      · subst e2
        rw [vstr, decide_eq_true rfl]
        refine iteT ⟨_, rfl, p, _, rfl, .inl hS, rfl, _, rfl, ?_⟩
        match ws, hS, short, h, bad with
        | [m], hS, short, h, bad => exact iteT ⟨_, rfl, p, _, _, _, rfl, rfl, hS, rfl, make_of D (short m (by simp)) h⟩
        | [], hS, short, h, bad => exact iteF ⟨_, rfl, rfl, _, rfl, iteF ⟨_, rfl, mkO_of B.O B.v (bad fun mk us dp => by cases dp)⟩⟩
        | m :: n :: l, hS, short, h, bad =>
          have ne : ¬ V.int (((m :: n :: l).map V.str).length : Nat) = V.int 1 := fun z => by
            injection z with z
            rw [List.length_map] at z
            simp only [List.length_cons] at z
            omega
          rw [decide_eq_false ne]
          exact iteF ⟨_, rfl, rfl, _, rfl, iteF ⟨_, rfl, mkO_of B.O B.v (bad fun mk us dp => by cases dp)⟩⟩
      · rw [vstr, decide_eq_false e2]
        refine iteF (iteF ⟨_, rfl, rfl, _, rfl, ?_⟩)
        by_cases e3 : wd = "do"
        · subst e3
          rw [vstr, decide_eq_true rfl]
          refine iteT ⟨_, rfl, !(ws.map V.str).isEmpty, .inl ⟨_, hS, rfl⟩, ?_⟩
          cases ws with
          | nil => exact iteF ⟨_, rfl, mkO_of B.O B.v (bad fun mk us dp => by cases dp)⟩
          | cons m ws => exact iteT ⟨_, rfl, p, _, rfl, .inr hS, do_of D (Nat.lt_of_succ_lt_succ few) short h⟩
        · rw [vstr, decide_eq_false e3]
          refine iteF (iteF ⟨_, rfl, mkO_of B.O B.v (bad fun mk us dp => ?_)⟩)
          cases dp with
          | use a b => exact e1 rfl
          | make a => exact e2 rfl
          | both a b => exact e3 rfl
end
end K33

set_option Elab.async false
set_option linter.all false
set_option maxRecDepth 100000
set_option maxHeartbeats 4000000
namespace K33
open PySem L2 NX NU
open PyProof.Rows (sortedS)
abbrev sRead : Stmt := inClass (top 35) 3
theorem scRead : FnScope ["cls", "text", "word", "names"] ["cls", "text"] (defScope sRead) := ⟨rfl, rfl, rfl, by decide +kernel, rfl, by decide +kernel, by decide +kernel⟩
/-- the text of a deed -/
def DT (z : Str) (mk : Option Str) (us : List Str) : Prop := ∃ wd ws, Txt.split z " " = wd :: ws ∧ DP wd ws mk us
def NoDeed (K : PySem.W.Frag) (H : Hp) (v : V) : Prop := (∃ z, v = .str z ∧ z.length ≤ 1000 ∧ (Txt.split z " ").length ≤ 60 ∧ ∀ mk us, ¬ DT z mk us) ∨ NoStr K H v
def spRd (K : PySem.W.Frag) (c : C4) (d : D3) : Sp := fun vs H Q E => ∃ (a : Addr) (v : V), vs = [.ref a, v] ∧
  ((∃ z mk us, v = .str z ∧ z.length ≤ 1000 ∧ (Txt.split z " ").length ≤ 60 ∧ DT z mk us ∧ ∀ x H', NewD d H x mk us H' → Q (.ref x) H') ∨ (NoDeed K H v ∧ ∀ dd H', Told H dd "value" v H' → E (.ref c.d) (some dd) H'))
/-- the four errors are StowErrors -/
structure Stow (K : PySem.W.Frag) (mg : Str → Option Value) (c : C4) (CS : Addr) : Prop where
  g : mg "StowError" = some (.ref CS)
  n : PySem.W.exmOne K (.ref c.n) (.ref CS) = some true
  t : PySem.W.exmOne K (.ref c.t) (.ref CS) = some true
  m : PySem.W.exmOne K (.ref c.m) (.ref CS) = some true
  d : PySem.W.exmOne K (.ref c.d) (.ref CS) = some true
section
variable {P : Program} {w : World} {K : PySem.W.Frag} {mg : Str → Option Value} {base : Heap}
theorem ok_errDH {f : Addr} {fd : FuncData} (F : Fun K "__init__" "BadDeed.__init__" sErrD f fd) : L2H.FnH P w K mg base CX0 1 f fd ["self", "value"] (spErr K "value") := by
  obtain ⟨oc, od, kV, doc, pm, an, cdv, ct, osl, rfl, lk, cd⟩ := F.ex
  refine L2H.fn_ofH lk cd scErrD (fun vs H Q E h => ?_) fun A outer s H vs Q E p hot hr h => ?_
  · obtain ⟨a, C, v, rfl, _⟩ := h
    rfl
  · obtain ⟨a, C, v, rfl, T, hf, ha, k⟩ := h
    exact ⟨_, (pss_one (ps_ost (pv 0) (pv 1))), _, rfl, _, rfl, a, C, rfl, T, hf, .inl ⟨ha, fun dx h1 h2 => k dx h1 h2⟩⟩
/-- BadDeed, made where an error is handled -/
structure ErrH (P : Program) (w : World) (K : PySem.W.Frag) (mg : Str → Option Value) (base : Heap) (C fI : Addr) : Prop where
  ok : ∃ fd, L2H.FnH P w K mg base CX0 1 fI fd ["self", "value"] (spErr K "value") ∧ Binds K fd ["self", "value"] []
theorem ok_read {c : C4} {d : D3} {CS fE f : Addr} {fd : FuncData} (F : Fun K "read" "Deed.read" sRead f fd) (T : TxtB mg) (cOf : CalL P w K mg base 7 "deed_of" (spOf K c d)) (B : ErrC P w K mg base "BadDeed" "value" c.d fE) (BH : ErrH P w K mg base c.d fE) (S : Stow K mg c CS) :
    FnOk P w K mg base (L2.CX P w) 8 f fd ["cls", "text"] (spRd K c d) := by
  obtain ⟨fde, Fe, hbe⟩ := B.ok
  obtain ⟨fdh, Fh, hbh⟩ := BH.ok
  obtain ⟨fo, fdo, pso, Fo, go, ko, bo⟩ := cOf.ex
  refine F.okX scRead (fun vs H Q E h => ?_) (fun cdv A outer s H vs Q E hr h => ?_)
  · obtain ⟨a, v, rfl, _⟩ := h
    rfl
  · obtain ⟨a, v, rfl, h⟩ := h
    refine ⟨_, (pss_cons (ps_if (pt_not (pt_val (pe_callB call_isi (by rfl) T.bisinstance (by decide +kernel) (pa_cons (pv 1) (pa_cons (pe_bltn (v := .ty "str") (by rfl) T.bstr (by decide +kernel) rfl) pa_nil))))) (pss_one (L2.ps_raise rfl (L2.takes_of rfl rfl rfl rfl) (pmk_oex (ds := []) (dvs := []) B.O B.i B.t Fe (hr.mono (by decide)) hbe .nil pass0 rfl B.g (pa_cons (pv 1) pa_nil)))) pss_nil)
      (pss_cons (ps_asg (pe_split (pv 1) pe_str) (pg_star rfl (pgs_cons (pg_name (i := 2) scRead.nd rfl (Or.inl rfl)) (pgs_cons (pg_name (i := 3) scRead.nd rfl (Or.inl rfl)) pgs_nil))))
      (pss_one (L2H.ps_try_onlyX (c := .ref CS) (tb := fun W D σ H => tRet (tCallS (spOf K c d) (WE W) (tCons (tVar 2) (tCons (tVar 3) tNil))) D σ H) (ts := fun _ _ _ D σ H => tMkO c.d (spErr K "value") [] (tCons (tVar 1) tNil) σ H fun cls dd H' => E cls dd H') (Wout := fun cls dd _ H => E cls dd H)
        rfl rfl ⟨rfl, by decide, .inl S.g⟩ (fun hd => L2H.passesAt_of rfl hd) (L2.takes_of rfl rfl rfl rfl)
        (fun W pn xe tkN _ _ => pss_one (ps_ret (pe_callS Fo hr rfl go ko bo (fun σ => L2N.passAt tkN σ) (pa_cons (pv 2) (pa_cons (pv 3) pa_nil)))))
        (fun a oe cls dd pn _ _ tkL hot => pss_one (L2H.ps_raiseHN hot tkL (L2H.pmk5_oexH B.O B.i B.t Fh (L2H.roomH_mark (hr.mono (by decide)) _) hot hbh pass0 rfl B.g (pa_cons (pv 1) pa_nil)))))))), ?_⟩
    rcases (show (∃ z, v = .str z ∧ z.length ≤ 1000 ∧ (Txt.split z " ").length ≤ 60 ∧ ((∃ mk us, DT z mk us ∧ ∀ x H', NewD d H x mk us H' → Q (.ref x) H') ∨ ((∀ mk us, ¬ DT z mk us) ∧ ∀ dd H', Told H dd "value" v H' → E (.ref c.d) (some dd) H'))) ∨ (NoStr K H v ∧ ∀ dd H', Told H dd "value" v H' → E (.ref c.d) (some dd) H') from by
      rcases h with ⟨z, mk, us, e, hz, hl, dt, q⟩ | ⟨⟨z, e, hz, hl, no⟩ | ns, q⟩
      · exact .inl ⟨z, e, hz, hl, .inl ⟨mk, us, dt, q⟩⟩
      · exact .inl ⟨z, e, hz, hl, .inr ⟨no, q⟩⟩
      · exact .inr ⟨ns, q⟩) with ⟨z, rfl, hz, hl, h⟩ | ⟨⟨t, ty, k⟩, q⟩
    · refine ⟨_, rfl, _, _, _, _, true, rfl, .ty "str", .base (.str z), kit_ty (by decide +kernel), true, rfl, iteF ?_⟩
      refine ⟨_, rfl, ⟨z, rfl⟩, z, _, rfl, rfl, by decide +kernel, Nat.le_trans (Nat.add_le_add_right hz 2) (by decide), fun p hp => ?_⟩
      have pos := PyProof.Rows.split_pos z (Str.ofString " ")
      have sh : ∀ a, a ∈ Txt.split z (Str.ofString " ") → a.length ≤ 1000 := fun a ha => Nat.le_trans (PyProof.Rows.part_short ha) hz
      have s1 : Same H (upd H p (.lst ((Txt.split z (Str.ofString " ")).map V.str))) := Same.new hp
      obtain ⟨w0, rest, el⟩ : ∃ w0 rest, Txt.split z (Str.ofString " ") = w0 :: rest := by
        cases e : Txt.split z (Str.ofString " ") with
        | nil => rw [e] at pos; cases pos
        | cons a l => exact ⟨a, l, rfl⟩
      have hl : (Txt.split z (Str.ofString " ")).length ≤ 60 := hl
      rw [el] at hl sh s1
      rw [el]
      have hl : rest.length + 1 ≤ 60 := hl
      have ls : 1000 ≤ sizeLine := by decide
      refine ⟨p, .str w0, rest.map V.str, rfl, SqL.of upd_same, by rw [List.length_map]; omega, fun D hD => ?_⟩
      have s2 : Same H (upd (upd H p (.lst ((w0 :: rest).map V.str))) D (.lst (rest.map V.str))) := s1.trans (Same.new hD)
      refine ⟨_, _, rfl, _, _, rfl, rfl, _, rfl, _, rfl, w0, D, rest, rfl, sh w0 (by simp), SqL.of upd_same, by omega, fun y hy => sh y (List.mem_cons_of_mem _ hy), ?_⟩
      rcases h with ⟨mk, us, ⟨wd, ws, e1, dp⟩, q⟩ | ⟨no, q⟩
      · have e2 := el.symm.trans e1
        injection e2 with e3 e4
        subst e3 e4
        exact .inl ⟨mk, us, dp, fun x H' nd => q x H' ⟨s2.trans nd.1, sameNone s2 nd.2.1, nd.2.2⟩⟩
      · refine .inr ⟨fun mk us dp => no mk us ⟨w0, rest, el, dp⟩, fun C y v2 dd H' hC tl => ⟨true, ?_, fun _ a ha => ?_, fun z => by cases z⟩⟩
        · rcases hC with e | e | e | e <;> subst e
          · exact S.n
          · exact S.t
          · exact S.m
          · exact S.d
        · exact ⟨_, rfl, mkO_of B.O B.v fun d2 H2 t2 => q d2 H2 (t2.old (s2.trans tl.1))⟩
    · exact ⟨_, rfl, _, _, _, _, false, rfl, .ty "str", ty, k, false, rfl, iteT ⟨_, rfl, mkO_of B.O B.v q⟩⟩
end
end K33

set_option Elab.async false
set_option linter.all false
set_option maxRecDepth 100000
set_option maxHeartbeats 4000000
/-! What a deed tells: its names, its room, its text; what it is equal to. -/
namespace NX
open PySem PySem.Spec PyProof.Rows L2
/-- e.f, a property of the object's own class, which is read off the heap -/
def tPropG (K : PySem.W.Frag) (f : Str) (g : Addr) (sp : Sp) (E : XK) (ta : TE) : TE := fun σ H Q => ta σ H fun x H1 => ∃ a C dx fs p, x = .ref a ∧ H1 a = some (.ins C dx fs) ∧ Cls K C ∧ PropOf K C f p g ∧ sp [.ref a] H1 Q E
theorem pe_propG {X : Cx} {CX : CXT} {k : Nat} {g : Addr} {f : Str} {fd : FuncData} {ps : List Str} {sp : Sp} {E : XK} {e : Expr} {pos : Pos} {ta : TE} (he : PE X e ta) (F : FnOk X.prog X.w X.K X.mg X.base CX k g fd ps sp) (hr : Room (k + 1) X.A) (hb : Binds X.K fd ps []) (hx : Passes CX X.nox E)
    (hab : attributeBase e f X.env (eval e X.env) = eval e X.env) : PE X (.Attribute e f pos) (tPropG X.K f g sp E ta) := by
  refine ⟨fun pins s σ H Q I h => ?_⟩
  refine attr_of hab (thn (he.run pins s σ H _ I h) fun u s1 ⟨x, H1, I1, rx, a, C, dx, fs, p, ex, ea, c, hp, q⟩ => ?_)
  subst ex
  obtain rfl : u = Value.ref a := rx
  exact getprop_ok (dvs := []) I1 ea c hp F hr hb .nil hx q
end NX
namespace K33
open PySem L2 NX NU
abbrev sNames : Stmt := inClass (top 35) 1
abbrev sDEq : Stmt := inClass (top 35) 4
abbrev sDStr : Stmt := inClass (top 35) 5
theorem scNames : FnScope ["self"] ["self"] (defScope sNames) := ⟨rfl, rfl, rfl, by decide +kernel, rfl, by decide +kernel, by decide +kernel⟩
theorem scDEq : FnScope ["self", "other"] ["self", "other"] (defScope sDEq) := ⟨rfl, rfl, rfl, by decide +kernel, rfl, by decide +kernel, by decide +kernel⟩
theorem scDStr : FnScope ["self", "words"] ["self"] (defScope sDStr) := ⟨rfl, rfl, rfl, by decide +kernel, rfl, by decide +kernel, by decide +kernel⟩
/-- a deed at x -/
structure IsD (c : D3) (H : Hp) (x : Addr) (mk : Option Str) (us ys : List Str) : Prop where
  dd : Dd H x (c.of mk us) us (mkV mk) ys
  nu : ∀ z ∈ us, z.length ≤ 1000 ∧ nm z = true
  nm_ : ∀ m, mk = some m → m.length ≤ 1000 ∧ nm m = true
  few : us.length ≤ 3
  asc : Asc ys (mk.toList ++ us)
theorem Dd.same {H H' : Hp} {x C : Addr} {us ys : List Str} {v : V} (s : Same H H') (h : Dd H x C us v ys) : Dd H' x C us v ys := by
  obtain ⟨dx, p, q, a, b, c⟩ := h
  exact ⟨dx, p, q, s _ _ a, s _ _ b, s _ _ c⟩
theorem IsD.same {c : D3} {H H' : Hp} {x : Addr} {mk : Option Str} {us ys : List Str} (s : Same H H') (h : IsD c H x mk us ys) : IsD c H' x mk us ys := ⟨h.dd.same s, h.nu, h.nm_, h.few, h.asc⟩
/-- what the classes of deeds say of their methods -/
structure DMeth (K : PySem.W.Frag) (C fN pN fR pR fEq fSt : Addr) : Prop where
  c : DCls K C
  nm_ : PropOf K C "names" pN fN
  rm : PropOf K C "room" pR fR
  eq : NX.EqC K C fEq
theorem of3 {c : D3} {mk : Option Str} {us : List Str} {φ : Addr → Prop} (h1 : φ c.u) (h2 : φ c.m) (h3 : φ c.d) : φ (c.of mk us) := by
  match mk, us with
  | none, _ => exact h1
  | some _, [] => exact h2
  | some _, _ :: _ => exact h3
def spNames (K : PySem.W.Frag) (c : D3) : Sp := fun vs H Q _ => ∃ x mk us ys, vs = [.ref x] ∧ IsD c H x mk us ys ∧ ∀ q, H q = some (.tup (ys.map V.str)) → Q (.ref q) H
def deedW : Option Str → List Str → List Str
  | none, us => "use" :: us
  | some m, [] => ["make", m]
  | some m, us => "do" :: m :: us
def deedT (mk : Option Str) (us : List Str) : Str := Txt.join (Str.ofString " ") (deedW mk us)
def spDStr (c : D3) : Sp := fun vs H Q _ => ∃ x mk us ys, vs = [.ref x] ∧ IsD c H x mk us ys ∧ ∀ H', Same H H' → Q (.str (deedT mk us)) H'
def spDEq (K : PySem.W.Frag) (c : D3) (CD : Addr) : Sp := fun vs H Q _ => ∃ (x : Addr) (mk : Option Str) (us ys : List Str) (y : V), vs = [.ref x, y] ∧ IsD c H x mk us ys ∧
  ((∃ x2 mk2 us2 ys2, y = .ref x2 ∧ IsD c H x2 mk2 us2 ys2 ∧ Q (.bl (decide (us = us2) && decide (mk = mk2))) H) ∨ (∃ t, TyX K H y t ∧ PySem.W.kitOne K t (.ref CD) = some false ∧ Q (.bl false) H))
section
variable {P : Program} {w : World} {K : PySem.W.Frag} {mg : Str → Option Value} {base : Heap}
structure D3C (K : PySem.W.Frag) (c : D3) : Prop where
  u : DCls K c.u
  m : DCls K c.m
  d : DCls K c.d
theorem D3C.at_ {c : D3} (k : D3C K c) (mk : Option Str) (us : List Str) : DCls K (c.of mk us) := of3 k.u k.m k.d
theorem ok_names {c : D3} {f : Addr} {fd : FuncData} (F : Fun K "names" "Deed.names" sNames f fd) (k : D3C K c) : FnOk P w K mg base CX0 1 f fd ["self"] (spNames K c) := by
  refine F.ok scNames (fun vs H Q E h => ?_) (fun cdv A outer s H vs Q E hr h => ?_)
  · obtain ⟨x, mk, us, ys, rfl, _⟩ := h
    rfl
  · obtain ⟨x, mk, us, ys, rfl, hD, q⟩ := h
    have kc := k.at_ mk us
    obtain ⟨dx, p, r, h1, h2, h3⟩ := hD.dd
    exact ⟨_, (pss_one (ps_ret (pe_fld (pv 0) rfl))), _, rfl, x, _, dx, _, _, rfl, h1, kc.cl, kc.nn, rfl, q r h3⟩
theorem deedW_le {mk : Option Str} {us : List Str} : (deedW mk us).length ≤ us.length + 2 := by
  match mk, us with
  | none, us => show us.length + 1 ≤ _; omega
  | some m, [] => exact Nat.le_refl _
  | some m, z :: us => exact Nat.le_refl _
theorem deedW_short {mk : Option Str} {us : List Str} (h1 : ∀ z ∈ us, z.length ≤ 6) (h2 : ∀ m, mk = some m → m.length ≤ 6) : ∀ z ∈ deedW mk us, z.length ≤ 6 := by
  have k1 : ("use" : Str).length ≤ 6 := by decide +kernel
  have k2 : ("make" : Str).length ≤ 6 := by decide +kernel
  have k3 : ("do" : Str).length ≤ 6 := by decide +kernel
  intro z hz
  match mk, us, hz with
  | none, us, hz =>
    rcases List.mem_cons.mp hz with e | e
    · rw [e]; exact k1
    · exact h1 z e
  | some m, [], hz =>
    rcases List.mem_cons.mp hz with e | e
    · rw [e]; exact k2
    · rw [List.mem_singleton.mp e]; exact h2 m rfl
  | some m, y :: us, hz =>
    rcases List.mem_cons.mp hz with e | e
    · rw [e]; exact k3
    · rcases List.mem_cons.mp e with e | e
      · rw [e]; exact h2 m rfl
      · exact h1 z e
theorem sum6 : ∀ {l : List Str}, (∀ z ∈ l, z.length ≤ 6) → (l.map (·.length)).sum ≤ 6 * l.length
  | [], _ => by simp
  | a :: r, h => by
    have h1 := h a List.mem_cons_self
    have h2 := sum6 (l := r) fun z hz => h z (List.mem_cons_of_mem _ hz)
    simp only [List.map_cons, List.sum_cons, List.length_cons] at *
    omega
theorem nm_le {z : Str} (h : nm z = true) : 1 ≤ z.length ∧ z.length ≤ 6 := by
  unfold nm at h
  rw [Bool.and_eq_true, Bool.and_eq_true, decide_eq_true_eq, decide_eq_true_eq] at h
  exact ⟨h.1, h.2.1⟩
theorem ok_dstr {c : D3} {f : Addr} {fd : FuncData} (F : Fun K "__str__" "Deed.__str__" sDStr f fd) (k : D3C K c) : FnOk P w K mg base CX0 1 f fd ["self"] (spDStr c) := by
  refine F.ok scDStr (fun vs H Q E h => ?_) (fun cdv A outer s H vs Q E hr h => ?_)
  · obtain ⟨x, mk, us, ys, rfl, _⟩ := h
    rfl
  · obtain ⟨x, mk, us, ys, rfl, hD, q⟩ := h
    have kc := k.at_ mk us
    obtain ⟨dx, p, r, g1, g2, g3⟩ := id hD.dd
    refine ⟨_, (C8.pss_cut (ps_if (pt_cmpR op_isN (pe_fld (pv 0) rfl) pe_non (nomark _)) (pss_one (ps_set (i := 1) scDStr.nd rfl (Or.inl rfl) (pe_lst (pa_cons pe_str (StX.pa_star (pe_fld (pv 0) rfl) pa_nil)))))
      (pss_one (ps_if (pt_truth (pe_fld (pv 0) rfl) (by intro _; rfl)) (pss_one (ps_set (i := 1) scDStr.nd rfl (Or.inl rfl) (pe_lst (pa_cons pe_str (pa_cons (pe_fld (pv 0) rfl) (StX.pa_star (pe_fld (pv 0) rfl) pa_nil))))))
        (pss_one (ps_set (i := 1) scDStr.nd rfl (Or.inl rfl) (pe_lst (pa_cons pe_str (pa_cons (pe_fld (pv 0) rfl) pa_nil))))))))
      (pss_one (ps_ret (pe_join pe_str (pv 1))))), ?_⟩
    have few := hD.few
    have z100 : (100 : Nat) ≤ sizeLine := by decide
    refine ⟨fun σ H' => ∃ l, σ = [some (.ref x), some (.ref l)] ∧ Same H H' ∧ H' l = some (.lst ((deedW mk us).map V.str)), ?_, ?_⟩
    · match mk, us, hD, g1, g2, few with
      | none, us, hD, g1, g2, few =>
        refine ⟨_, rfl, x, _, dx, _, _, rfl, g1, kc.cl, kc.nk, rfl, rfl, _, rfl, iteT ?_⟩
        refine ⟨_, rfl, x, _, dx, _, _, rfl, g1, kc.cl, kc.nu, rfl, p, _, rfl, .inl (SqT.of g2), ?_⟩
        dsimp only [tNil]
        rw [List.append_nil]
        refine ⟨by show (us.map V.str).length + 1 ≤ sizeLine; rw [List.length_map]; omega, fun l hl => ⟨l, rfl, Same.new hl, upd_same⟩⟩
      | some m, [], hD, g1, g2, few =>
        refine ⟨_, rfl, x, _, dx, _, _, rfl, g1, kc.cl, kc.nk, rfl, rfl, _, rfl, iteF ?_⟩
        refine ⟨_, rfl, x, _, dx, _, _, rfl, g1, kc.cl, kc.nu, rfl, false, .inr (.inl ⟨_, SqT.of g2, rfl⟩), iteF ?_⟩
        exact ⟨_, rfl, x, _, dx, _, _, rfl, g1, kc.cl, kc.nk, rfl, by show 2 ≤ sizeLine; decide, fun l hl => ⟨l, rfl, Same.new hl, upd_same⟩⟩
      | some m, z :: us, hD, g1, g2, few =>
        refine ⟨_, rfl, x, _, dx, _, _, rfl, g1, kc.cl, kc.nk, rfl, rfl, _, rfl, iteF ?_⟩
        refine ⟨_, rfl, x, _, dx, _, _, rfl, g1, kc.cl, kc.nu, rfl, true, .inr (.inl ⟨_, SqT.of g2, rfl⟩), iteT ?_⟩
        refine ⟨_, rfl, x, _, dx, _, _, rfl, g1, kc.cl, kc.nk, rfl, _, rfl, x, _, dx, _, _, rfl, g1, kc.cl, kc.nu, rfl, p, _, rfl, .inl (SqT.of g2), ?_⟩
        dsimp only [tNil]
        rw [List.append_nil]
        refine ⟨by show ((z :: us).map V.str).length + 2 ≤ sizeLine; rw [List.length_map]; omega, fun l hl => ⟨l, rfl, Same.new hl, upd_same⟩⟩
    · rintro σ H' ⟨l, rfl, s1, hl⟩
      have e1 : (Str.ofString " ").length = 1 := by decide +kernel
      have k1 := deedW_le (mk := mk) (us := us)
      have k2 := sum6 (deedW_short (mk := mk) (us := us) (fun z hz => (nm_le (hD.nu z hz).2).2) fun m e => (nm_le (hD.nm_ m e).2).2)
      exact ⟨⟨_, rfl⟩, _, rfl, _, l, deedW mk us, rfl, rfl, .inl (SqL.of hl), by rw [e1]; omega, q H' s1⟩
/-- tuples of texts, as data -/
theorem eqvTup : ∀ (us vs : List Str), PyData.eqv (.tuple (us.map PyData.str)) (.tuple (vs.map PyData.str)) = decide (us = vs)
  | [], [] => rfl
  | [], b :: vs => rfl
  | a :: us, [] => rfl
  | a :: us, b :: vs => by
    have h := eqvTup us vs
    have e : PyData.eqv (.tuple ((a :: us).map PyData.str)) (.tuple ((b :: vs).map PyData.str)) = ((a == b) && PyData.eqv (.tuple (us.map PyData.str)) (.tuple (vs.map PyData.str))) := rfl
    rw [e, h, Bool.eq_iff_iff, Bool.and_eq_true, beq_iff_eq, decide_eq_true_eq, decide_eq_true_eq, List.cons.injEq]
/-- names have small signs -/
theorem nm_okS {z : Str} (h : nm z = true) : ∀ ch ∈ z.cps.toList, ch < 256 := fun ch hc => by
  unfold nm at h
  rw [Bool.and_eq_true, Bool.and_eq_true, List.all_eq_true] at h
  have z := h.2.2 ch hc
  unfold lett at z
  rw [Bool.and_eq_true, decide_eq_true_eq, decide_eq_true_eq] at z
  omega
theorem strOk_of {a : Str} (h : ∀ ch ∈ a.cps.toList, ch < 256) : PyData.strOk a = true := by
  show a.cps.all (fun x => decide (x < 1114112)) = true
  rw [← Array.all_toList, List.all_eq_true]
  exact fun c hc => decide_eq_true (Nat.lt_trans (h c hc) (by decide))
theorem canTup : ∀ {us : List Str}, (∀ z ∈ us, nm z = true) → PyData.canLayAll0 (us.map PyData.str) = true
  | [], _ => rfl
  | a :: r, h => by
    have h1 := strOk_of (nm_okS (h a List.mem_cons_self))
    have h2 := canTup (us := r) fun z hz => h z (List.mem_cons_of_mem _ hz)
    show (PyData.strOk a && PyData.canLayAll0 (r.map PyData.str)) = true
    rw [h1, h2]
    rfl
theorem depTup : ∀ us : List Str, PyData.depthAll (us.map PyData.str) ≤ 1
  | [] => by decide
  | a :: r => by
    have h := depTup r
    show max _ _ ≤ 1
    exact Nat.max_le.mpr ⟨by show 0 ≤ 1; exact Nat.zero_le _, h⟩
theorem shapedTup {us : List Str} (h : ∀ z ∈ us, nm z = true) : SeqAt.shaped (.tuple (us.map PyData.str)) = true := by
  have h1 := canTup h
  have h2 := depTup us
  unfold SeqAt.shaped
  rw [Bool.and_eq_true, decide_eq_true_eq]
  refine ⟨h1, ?_⟩
  show _ + 1 ≤ 64
  omega
theorem dpTup {K : PySem.W.Frag} {H : Hp} : ∀ us : List Str, DpAll K H (us.map V.str) (us.map PyData.str)
  | [] => .nil
  | a :: r => .cons (.str _) (dpTup r)
theorem mkV_inj {a b : Option Str} : decide (mkV a = mkV b) = decide (a = b) := by
  rw [Bool.eq_iff_iff, decide_eq_true_eq, decide_eq_true_eq]
  refine ⟨fun h => ?_, fun h => by rw [h]⟩
  match a, b, h with
  | none, none, _ => rfl
  | some x, some y, h => injection h with h; rw [h]
  | none, some y, h => cases h
  | some x, none, h => cases h
structure DTy (K : PySem.W.Frag) (c : D3) (CD : Addr) : Prop where
  sp : PySem.W.specialIn K (.builtin "object.__class__") "__get__" = some (some (.builtin "getset_descriptor.__get__"))
  tk : PySem.W.takesIn K (.builtin "object.__class__") = some true
  cu : PySem.W.findIn K (.ref c.u) "__class__" = some (some (.builtin "object.__class__")) ∧ PySem.W.mroIn K c.u (.type "object") = some true
  cm : PySem.W.findIn K (.ref c.m) "__class__" = some (some (.builtin "object.__class__")) ∧ PySem.W.mroIn K c.m (.type "object") = some true
  cd : PySem.W.findIn K (.ref c.d) "__class__" = some (some (.builtin "object.__class__")) ∧ PySem.W.mroIn K c.d (.type "object") = some true
  ku : PySem.W.kitOne K (.ref c.u) (.ref CD) = some true
  km : PySem.W.kitOne K (.ref c.m) (.ref CD) = some true
  kd : PySem.W.kitOne K (.ref c.d) (.ref CD) = some true
theorem DTy.ty {c : D3} {CD : Addr} (t : DTy K c CD) (k : D3C K c) {H : Hp} {x : Addr} {mk : Option Str} {us ys : List Str} (h : IsD c H x mk us ys) : TyX K H (.ref x) (.ref (c.of mk us)) := by
  obtain ⟨dx, p, q, h1, h2, h3⟩ := h.dd
  have z := of3 (c := c) (mk := mk) (us := us) (φ := fun C => PySem.W.findIn K (.ref C) "__class__" = some (some (.builtin "object.__class__")) ∧ PySem.W.mroIn K C (.type "object") = some true) t.cu t.cm t.cd
  exact .base (.ins h1 (k.at_ mk us).cl z.1 t.sp t.tk z.2)
theorem ok_deq {c : D3} {CD : Addr} {f : Addr} {fd : FuncData} (F : Fun K "__eq__" "Deed.__eq__" sDEq f fd) (T : TxtB mg) (k : D3C K c) (t : DTy K c CD) (gD : mg "Deed" = some (.ref CD)) : FnOk P w K mg base CX0 1 f fd ["self", "other"] (spDEq K c CD) := by
  refine F.ok scDEq (fun vs H Q E h => ?_) (fun cdv A outer s H vs Q E hr h => ?_)
  · obtain ⟨x, mk, us, ys, y, rfl, _⟩ := h
    rfl
  · obtain ⟨x, mk, us, ys, y, rfl, hD, h⟩ := h
    have kc := k.at_ mk us
    obtain ⟨dx, p, r, g1, g2, g3⟩ := id hD.dd
    refine ⟨_, (pss_one (ps_ret (pe_and (pe_callB call_isi (by rfl) T.bisinstance (by decide +kernel) (pa_cons (pv 1) (pa_cons (C8.pe_gc (v := .ref CD) rfl ⟨_, gD, rfl⟩) pa_nil))) (pe_and (pe_cmpR (op_eqD hr.units) (pe_fld (pv 0) rfl) (pe_fld (pv 1) rfl) (nomark _)) (pe_one (pe_cmpR op_eq (pe_fld (pv 0) rfl) (pe_fld (pv 1) rfl) (nomark _))))))), ?_⟩
    rcases h with ⟨x2, mk2, us2, ys2, rfl, hD2, q⟩ | ⟨ty, hty, kt, q⟩
    · have kc2 := k.at_ mk2 us2
      obtain ⟨dx2, p2, r2, f1, f2, f3⟩ := id hD2.dd
      have kk := of3 (c := c) (mk := mk2) (us := us2) (φ := fun C => PySem.W.kitOne K (.ref C) (.ref CD) = some true) t.ku t.km t.kd
      refine ⟨_, rfl, _, _, _, _, true, rfl, .own CD, t.ty k hD2, kk, true, rfl, iteT ?_⟩
      refine ⟨_, rfl, x, _, dx, _, _, rfl, g1, kc.cl, kc.nu, rfl, _, rfl, x2, _, dx2, _, _, rfl, f1, kc2.cl, kc2.nu, rfl, _, _, .tup (SqT.of g2) (dpTup us), .tup (SqT.of f2) (dpTup us2), shapedTup (fun z hz => (hD.nu z hz).2), shapedTup (fun z hz => (hD2.nu z hz).2), ?_⟩
      rw [eqvTup]
      refine ⟨_, rfl, ite2 (fun h1 => ?_) (fun h1 => ?_)⟩
      · refine ⟨_, rfl, x, _, dx, _, _, rfl, g1, kc.cl, kc.nk, rfl, _, rfl, x2, _, dx2, _, _, rfl, f1, kc2.cl, kc2.nk, rfl, ?_⟩
        refine ⟨?_, ?_⟩
        · cases mk <;> cases mk2 <;> rfl
        · have e := mkV_inj (a := mk) (b := mk2)
          rw [h1, Bool.true_and] at q
          rw [← e] at q
          exact q
      · rw [Bool.eq_false_iff.mpr h1] at q
        exact q
    · exact ⟨_, rfl, _, _, _, _, false, rfl, .own CD, hty, kt, false, rfl, iteF q⟩
end
end K33

set_option Elab.async false
set_option linter.all false
set_option maxRecDepth 100000
set_option maxHeartbeats 4000000
/-! The law's draws: some of a pool, names. -/
namespace K33
open PySem L2 NX NU
abbrev sSome : Stmt := top 80
abbrev sLNames : Stmt := top 81
theorem scSome : FnScope ["_law_pen_here", "_law_pool", "_law_least", "_law_most", "_law_left", "_law_many", "_law_lap"] ["_law_pen_here", "_law_pool", "_law_least", "_law_most"] (defScope sSome) := ⟨rfl, rfl, rfl, by decide +kernel, rfl, by decide +kernel, by decide +kernel⟩
theorem scLNames : FnScope ["_law_pen_here", "_law_many", "_law_pools"] ["_law_pen_here", "_law_many"] (defScope sLNames) := ⟨rfl, rfl, rfl, by decide +kernel, rfl, by decide +kernel, by decide +kernel⟩
theorem sqL_same {K : PySem.W.Frag} {H H' : Hp} {a : Addr} {xs : List V} (s : Same H H') (h : SqL K H a xs) : SqL K H' a xs := by
  rcases h with (h | ⟨o, h⟩) | h
  · exact .inl (.inl (s _ _ h))
  · exact .inl (.inr ⟨o, s _ _ h⟩)
  · exact .inr h
theorem samePut {H H' : Hp} {D : Addr} {o : HO} (s : Same H H') (h : H D = none) : Same H (upd H' D o) := fun b u hb => by
  rw [upd_ne (ne_of_none hb h)]
  exact s b u hb
/-- some of ws, each once, in any order -/
def Part (ws xs : List Str) : Prop := ∃ left, (xs ++ left).Perm ws
def spSome (K : PySem.W.Frag) : Sp := fun vs H Q _ => ∃ (p c : Addr) (ns : List Int) (at_ rest : Int) (l : Addr) (ws : List Str) (least most : Nat), vs = [.ref p, .ref l, .int (least : Int), .int (most : Int)] ∧ Pen H p c ns at_ rest ∧ at_ ≤ 900000 ∧ SqL K H l (ws.map V.str) ∧ ws.length ≤ 100 ∧ least ≤ most ∧ least ≤ ws.length ∧
  ∀ r xs H', H r = none → H' r = some (.lst (xs.map V.str)) → Part ws xs → least ≤ xs.length → xs.length ≤ most → Drawn H p c ns (at_ + 1 + ws.length) H' → Q (.ref r) H'
def rLen (K : PySem.W.Frag) : List V → Hp → VK → Prop := fun xs H Q => ∃ p ys, xs = [.ref p] ∧ (SqL K H p ys ∨ SqT K H p ys) ∧ Q (.int ys.length) H
/-- what stands while some is drawn -/
structure SomeI (H H' : Hp) (p c : Addr) (ns : List Int) (m : Int) (e D : Addr) (ws xs : List Str) : Prop where
  pen : ∃ a r, Pen H' p c ns a r ∧ a ≤ m
  but : But p H H'
  ex : ∃ left : List Str, H' e = some (.lst (left.map V.str)) ∧ (xs ++ left).Perm ws
  hD : H' D = some (.lst (xs.map V.str))
theorem seqIx {j n : Nat} (h : j < n) : seqIndex? (j : Int) n = some j := by
  unfold seqIndex?
  simp
  omega
theorem erase_map : ∀ (l : List Str) (j : Nat), (l.map V.str).eraseIdx j = (l.eraseIdx j).map V.str
  | [], _ => rfl
  | a :: l, 0 => rfl
  | a :: l, j + 1 => congrArg (V.str a :: ·) (erase_map l j)
theorem perm_pop : ∀ {left : List Str} {j : Nat} (h : j < left.length), (left[j] :: left.eraseIdx j).Perm left
  | a :: l, 0, _ => List.Perm.refl _
  | a :: l, j + 1, h => by
    have hj : j < l.length := by simpa using h
    exact (List.Perm.swap a l[j] (l.eraseIdx j)).trans ((perm_pop hj).cons a)
section
variable {P : Program} {w : World} {K : PySem.W.Frag} {mg : Str → Option Value} {base : Heap}
theorem ok_some {f : Addr} {fd : FuncData} (F : Fun K "_law_some" "_law_some" sSome f fd) (T : TxtB mg) (bmin : mg "min" = none) (cDraw : C8.Cal P w K mg base 1 "_law_draw" spDraw []) : FnOk P w K mg base CX0 2 f fd ["_law_pen_here", "_law_pool", "_law_least", "_law_most"] (spSome K) := by
  refine F.ok scSome (fun vs H Q E h => ?_) (fun cdv A outer s H vs Q E hr h => ?_)
  · obtain ⟨p, c, ns, a, r, l, ws, x, y, rfl, _⟩ := h
    rfl
  · obtain ⟨p, c, ns, at_, rest, l, ws, least, most, rfl, Pn, ha, hS, h100, hlm, hlw, k⟩ := h
    refine ⟨_, (pss_cons (ps_set (i := 4) scSome.nd rfl (Or.inr rfl) (pe_callTy call_list_of (by rfl) T.blist (by decide +kernel) (pa_cons (pv 1) pa_nil)))
      (pss_cons (ps_set (i := 5) scSome.nd rfl (Or.inl rfl) (pe_op op_add (pv 2) (C8.pe_c cDraw hr (by decide) rfl (pa_cons (pv 0) (pa_cons (pe_op op_add (pe_op op_sub (pe_callB (call_min2 rfl) (by rfl) bmin (by decide +kernel) (pa_cons (pv 3) (pa_cons (pe_callB call_len_seq (by rfl) T.blen (by decide +kernel) (pa_cons (pv 1) pa_nil)) pa_nil))) (pv 2)) pe_int) pa_nil)))))
      (pss_one (ps_ret (pe_lc (own := [("_law_lap", 6)]) (g := gName 6) rfl scSome.nd (pi_range1 (by rfl) T.brange (pa_cons (pv 5) pa_nil)) (blkOk_by (own := [("_law_lap", 6)]) (N := ["_law_pen_here", "_law_pool", "_law_least", "_law_most", "_law_left", "_law_many", "_law_lap"]) (sc := defScope sSome) (by decide +kernel)) (fun _ _ _ _ _ => (pg_name (i := 6) scSome.nd rfl (Or.inl rfl))) (fun _ _ _ _ _ => pts_nil)
        (fun _ _ _ _ _ => (show PE _ _ (tBM K "list" rPopAt (tVar 4) (tCons (tCall spDraw [] C8.E0 (tCons (tVar 0) (tCons (tCB (rLen K) (tCons (tVar 4) tNil)) tNil))) tNil)) from pe_bm PySem.F.plainAttrs_list PySem.F.slot_list_pop PySem.F.type_list_pop mt_popAt (pv 4) (pa_cons (C8.pe_c cDraw hr (by decide) rfl (pa_cons (pv 0) (pa_cons (pe_callB (show CallR _ (.builtin "len") (rLen K) from call_len_seq) (by rfl) T.blen (by decide +kernel) (pa_cons (pv 4) pa_nil)) pa_nil))) pa_nil)))))))), ?_⟩
    refine ⟨_, rfl, l, _, rfl, .inl hS, fun e he => ?_⟩
    have s1 : Same H (upd H e (.lst (ws.map V.str))) := Same.new he
    have P1 := Pn.same s1
    have hl1 := sqL_same s1 hS
    have he1 : (upd H e (.lst (ws.map V.str))) e = some (.lst (ws.map V.str)) := upd_same
    have ep : e ≠ p := fun z => by rw [z, Pn.hp] at he; cases he
    have ec : e ≠ c := fun z => by rw [z, Pn.hc] at he; cases he
    generalize (upd H e (.lst (ws.map V.str))) = H1 at *
    refine ⟨_, rfl, _, rfl, _, rfl, _, rfl, l, _, rfl, .inl hl1, _, _, rfl, _, rfl, _, _, rfl, rfl, _, _, rfl, rfl, ?_⟩
    have hmn : (if ((ws.map V.str).length : Int) < (most : Int) then ((ws.map V.str).length : Int) else (most : Int)) = ((min ws.length most : Nat) : Int) := by
      rw [List.length_map]
      split <;> omega
    rw [hmn]
    refine ⟨p, c, ns, at_, rest, _, rfl, P1, by omega, by omega, by omega, fun d H2 d0 d1 hd => ?_⟩
    obtain ⟨dn, rfl⟩ := Int.eq_ofNat_of_zero_le d0
    obtain ⟨at2, rest2, P2, l2, B2⟩ := hd
    have he2 := B2 _ _ he1 ep
    have B02 : But p H H2 := (But.same s1).trans B2
    refine ⟨_, _, rfl, rfl, ?_⟩
    refine ⟨_, rfl, _, rfl, by omega, by omega, ?_⟩
    have et : ((least : Int) + (dn : Int)).toNat = least + dn := by omega
    rw [et]
    intro D hD
    have Dp : D ≠ p := fun z => by rw [z, P2.hp] at hD; cases hD
    have Dc : D ≠ c := fun z => by rw [z, P2.hc] at hD; cases hD
    have De : e ≠ D := fun z => by rw [← z, he2] at hD; cases hD
    have hle : least + dn ≤ ws.length := by omega
    have HD0 : H D = none := by
      cases q : H D with
      | none => rfl
      | some o =>
        rw [B02 _ _ q Dp] at hD
        cases hD
    have z100 : (200 : Nat) ≤ sizeLine := by decide
    refine lc_range (lo := 0) (n := least + dn) (fun i H' => ∃ xs, xs.length = i ∧ SomeI H H' p c ns (at_ + 1 + i) e D ws xs) ?_ ?_ ?_
    · refine ⟨[], rfl, ⟨at2, rest2, ⟨(upd_ne (Ne.symm Dp)).trans P2.hp, (upd_ne (Ne.symm Dc)).trans P2.hc, P2.la, P2.lr⟩, by omega⟩, fun b o hb n => ?_, ⟨ws, (upd_ne De).trans he2, List.Perm.refl _⟩, upd_same⟩
      rw [upd_ne (fun z => by rw [z, HD0] at hb; cases hb)]
      exact B02 b o hb n
    · rintro i H' hi ⟨xs, hx, ⟨⟨a, r, P3, l3⟩, B3, ⟨left, he3, pm⟩, hD3⟩⟩
      have hlen := pm.length_eq
      rw [List.length_append] at hlen
      have hpos : 0 < left.length := by omega
      refine ⟨rfl, ?_⟩
      unfold tYes
      dsimp only
      rw [if_pos rfl]
      refine ⟨_, rfl, .inl ⟨rfl, _, SqL.of he3⟩, ?_⟩
      refine ⟨_, rfl, _, rfl, e, _, rfl, .inl (SqL.of he3), ?_⟩
      rw [List.length_map]
      refine ⟨p, c, ns, a, r, _, rfl, P3, by omega, by omega, by omega, fun d H4 d0 d1 hd => ?_⟩
      obtain ⟨j, rfl⟩ := Int.eq_ofNat_of_zero_le d0
      obtain ⟨a4, r4, P4, l4, B4⟩ := hd
      have hj : j < left.length := by omega
      have he4 := B4 _ _ he3 ep
      have hD4 := B4 _ _ hD3 Dp
      refine ⟨e, _, _, j, .str left[j], rfl, rfl, he4, by omega, by omega, seqIx (by rw [List.length_map]; exact hj), by rw [List.getElem?_map, List.getElem?_eq_getElem hj]; rfl, ?_⟩
      have eE : (left.map V.str).eraseIdx j = (left.eraseIdx j).map V.str := erase_map left j
      rw [eE]
      have HE0 : ∀ b o, H b = some o → b ≠ e := fun b o hb z => by rw [z, he] at hb; cases hb
      refine ⟨_, (upd_ne (Ne.symm De)).trans hD4, by rw [List.length_map]; omega, xs ++ [left[j]], by rw [List.length_append, hx]; rfl, ⟨a4, r4, ⟨?_, ?_, P4.la, P4.lr⟩, by omega⟩, fun b o hb n => ?_, ⟨left.eraseIdx j, ?_, ?_⟩, ?_⟩
      · rw [upd_ne (Ne.symm Dp), upd_ne (Ne.symm ep)]
        exact P4.hp
      · rw [upd_ne (Ne.symm Dc), upd_ne (Ne.symm ec)]
        exact P4.hc
      · rw [upd_ne (fun z => by rw [z, HD0] at hb; cases hb), upd_ne (HE0 b o hb)]
        exact B4 b o (B3 b o hb n) n
      · rw [upd_ne De]
        exact upd_same
      · rw [List.append_assoc]
        exact (List.Perm.append_left xs (perm_pop hj)).trans pm
      · rw [upd_same, List.map_append]
        rfl
    · rintro H' ⟨xs, hx, ⟨⟨a, r, P3, l3⟩, B3, ⟨left, he3, pm⟩, hD3⟩⟩
      exact k D xs H' HD0 hD3 ⟨left, pm⟩ (by omega) (by omega) ⟨a, r, P3, by omega, B3⟩
end
end K33

set_option Elab.async false
set_option linter.all false
set_option maxRecDepth 100000
set_option maxHeartbeats 4000000
/-! The law's names. -/
namespace K33
open PySem L2 NX NU
def poolA : List Str := ["a", "b", "c", "d", "e", "f"]
def poolB : List Str := ["x", "xy", "xyz", "xyzz", "xyzzz", "xyzzzz"]
def poolC : List Str := ["use", "make", "do", "loop", "end", "given"]
def poolD : List Str := ["zzzzzz", "aaaaaa", "azazaz", "z", "again", "store"]
theorem pools_ok : [poolA, poolB, poolC, poolD].all (fun l => decide (l.length = 6) && decide l.Nodup && l.all (fun z => nm z)) = true := by decide +kernel
theorem pool_at {l : List Str} (h : l ∈ [poolA, poolB, poolC, poolD]) : l.length = 6 ∧ l.Nodup ∧ ∀ z ∈ l, nm z = true := by
  have q := List.all_eq_true.mp pools_ok l h
  rw [Bool.and_eq_true, Bool.and_eq_true, decide_eq_true_eq, decide_eq_true_eq, List.all_eq_true] at q
  exact ⟨q.1.1, q.1.2, q.2⟩
theorem Part.mem {ws xs : List Str} (h : Part ws xs) : ∀ z ∈ xs, z ∈ ws := fun z hz => by
  obtain ⟨left, pm⟩ := h
  exact pm.subset (List.mem_append_left _ hz)
theorem Part.nodup {ws xs : List Str} (h : Part ws xs) (n : ws.Nodup) : xs.Nodup := by
  obtain ⟨left, pm⟩ := h
  have := pm.nodup_iff.mpr n
  exact (List.nodup_append.mp this).1
/-- names, each once -/
def Uni (xs : List Str) : Prop := xs.Nodup ∧ ∀ z ∈ xs, nm z = true
def spLNames : Sp := fun vs H Q _ => ∃ (p c : Addr) (ns : List Int) (at_ rest : Int) (m : Nat), vs = [.ref p, .int (m : Int)] ∧ 1 ≤ m ∧ m ≤ 6 ∧ Pen H p c ns at_ rest ∧ at_ ≤ 800000 ∧
  ∀ r xs H', H r = none → H' r = some (.lst (xs.map V.str)) → Uni xs → xs.length = m → Drawn H p c ns (at_ + 10) H' → Q (.ref r) H'
section
variable {P : Program} {w : World} {K : PySem.W.Frag} {mg : Str → Option Value} {base : Heap}
theorem ok_lnames {f : Addr} {fd : FuncData} (F : Fun K "_law_names" "_law_names" sLNames f fd) (cPick : C8.Cal P w K mg base 2 "_law_pick" (spPick K) []) (cSome : C8.Cal P w K mg base 2 "_law_some" (spSome K) []) : FnOk P w K mg base CX0 3 f fd ["_law_pen_here", "_law_many"] spLNames := by
  refine F.ok scLNames (fun vs H Q E h => ?_) (fun cdv A outer s H vs Q E hr h => ?_)
  · obtain ⟨p, c, ns, a, r, m, rfl, _⟩ := h
    rfl
  · obtain ⟨p, c, ns, at_, rest, m, rfl, hm1, hm6, Pn, ha, k⟩ := h
    refine ⟨_, (pss_cons (ps_set (i := 2) scLNames.nd rfl (Or.inl rfl) (pe_lst (pa_cons (pe_lst (pa_cons pe_str (pa_cons pe_str (pa_cons pe_str (pa_cons pe_str (pa_cons pe_str (pa_cons pe_str pa_nil))))))) (pa_cons (pe_lst (pa_cons pe_str (pa_cons pe_str (pa_cons pe_str (pa_cons pe_str (pa_cons pe_str (pa_cons pe_str pa_nil))))))) pa_nil))))
      (pss_cons (ps_expr (pe_bm PySem.F.plainAttrs_list PySem.F.slot_list_append PySem.F.type_list_append mt_append (pv 2) (pa_cons (pe_lst (pa_cons pe_str (pa_cons pe_str (pa_cons pe_str (pa_cons pe_str (pa_cons pe_str (pa_cons pe_str pa_nil))))))) pa_nil)))
      (pss_cons (ps_expr (pe_bm PySem.F.plainAttrs_list PySem.F.slot_list_append PySem.F.type_list_append mt_append (pv 2) (pa_cons (pe_lst (pa_cons pe_str (pa_cons pe_str (pa_cons pe_str (pa_cons pe_str (pa_cons pe_str (pa_cons pe_str pa_nil))))))) pa_nil)))
      (pss_one (ps_ret (C8.pe_c cSome hr (by decide) rfl (pa_cons (pv 0) (pa_cons (C8.pe_c cPick hr (by decide) rfl (pa_cons (pv 0) (pa_cons (pv 2) pa_nil))) (pa_cons (pv 1) (pa_cons (pv 1) pa_nil)))))))))), ?_⟩
    refine ⟨by show 6 ≤ sizeLine; decide, fun a1 h1 => ⟨by show 6 ≤ sizeLine; decide, fun a2 h2 => ⟨by show 2 ≤ sizeLine; decide, fun l h3 => ?_⟩⟩⟩
    have eA : poolA.map V.str = [V.str (Str.ofString "a"), V.str (Str.ofString "b"), V.str (Str.ofString "c"), V.str (Str.ofString "d"), V.str (Str.ofString "e"), V.str (Str.ofString "f")] := rfl
    have eB : poolB.map V.str = [V.str (Str.ofString "x"), V.str (Str.ofString "xy"), V.str (Str.ofString "xyz"), V.str (Str.ofString "xyzz"), V.str (Str.ofString "xyzzz"), V.str (Str.ofString "xyzzzz")] := rfl
    have eC : poolC.map V.str = [V.str (Str.ofString "use"), V.str (Str.ofString "make"), V.str (Str.ofString "do"), V.str (Str.ofString "loop"), V.str (Str.ofString "end"), V.str (Str.ofString "given")] := rfl
    have eD : poolD.map V.str = [V.str (Str.ofString "zzzzzz"), V.str (Str.ofString "aaaaaa"), V.str (Str.ofString "azazaz"), V.str (Str.ofString "z"), V.str (Str.ofString "again"), V.str (Str.ofString "store")] := rfl
    rw [← eA] at h2
    rw [← eA, ← eB] at h3
    rw [← eA, ← eB]
    have S1 := Same.new (o := .lst (poolA.map V.str)) h1
    have S2 := Same.new (o := .lst (poolB.map V.str)) h2
    have S3 := Same.new (o := .lst [.ref a1, .ref a2]) h3
    have g1 := (S2.trans S3) _ _ (upd_same (H := H) (a := a1) (o := .lst (poolA.map V.str)))
    have g2 := S3 _ _ (upd_same (H := upd H a1 (.lst (poolA.map V.str))) (a := a2) (o := .lst (poolB.map V.str)))
    have gl : (upd (upd (upd H a1 (.lst (poolA.map V.str))) a2 (.lst (poolB.map V.str))) l (.lst [.ref a1, .ref a2])) l = some (.lst [.ref a1, .ref a2]) := upd_same
    have SA := (S1.trans S2).trans S3
    have hl0 : H l = none := sameNone (S1.trans S2) h3
    clear S1 S2 S3 h1 h2 h3
    generalize (upd (upd (upd H a1 (.lst (poolA.map V.str))) a2 (.lst (poolB.map V.str))) l (.lst [.ref a1, .ref a2])) = G1 at *
    refine ⟨_, rfl, .inl ⟨rfl, _, SqL.of gl⟩, by show 6 ≤ sizeLine; decide, fun a3 h3 => ?_⟩
    rw [← eC]
    have S3 := Same.new (o := .lst (poolC.map V.str)) h3
    have n3 : a3 ≠ l := fun z => by rw [z, gl] at h3; cases h3
    have n1 : a1 ≠ l := fun z => by rw [z, gl] at g1; cases g1
    have n2 : a2 ≠ l := fun z => by rw [z, gl] at g2; cases g2
    have g3 : (upd G1 a3 (.lst (poolC.map V.str))) a3 = some (.lst (poolC.map V.str)) := upd_same
    have g1 := S3 _ _ g1
    have g2 := S3 _ _ g2
    have gl := S3 _ _ gl
    have SA := SA.trans S3
    clear S3 h3
    generalize (upd G1 a3 (.lst (poolC.map V.str))) = G2 at *
    refine ⟨l, _, _, rfl, rfl, gl, by show 2 < sizeLine; decide, ?_⟩
    have g1 : (upd G2 l (.lst ([.ref a1, .ref a2] ++ [.ref a3]))) a1 = some (.lst (poolA.map V.str)) := (upd_ne n1).trans g1
    have g2 : (upd G2 l (.lst ([.ref a1, .ref a2] ++ [.ref a3]))) a2 = some (.lst (poolB.map V.str)) := (upd_ne n2).trans g2
    have g3 : (upd G2 l (.lst ([.ref a1, .ref a2] ++ [.ref a3]))) a3 = some (.lst (poolC.map V.str)) := (upd_ne n3).trans g3
    have SA : Same H (upd G2 l (.lst ([.ref a1, .ref a2] ++ [.ref a3]))) := samePut SA hl0
    have gl : (upd G2 l (.lst ([.ref a1, .ref a2] ++ [.ref a3]))) l = some (.lst [.ref a1, .ref a2, .ref a3]) := upd_same
    generalize (upd G2 l (.lst ([.ref a1, .ref a2] ++ [.ref a3]))) = G3 at *
    refine ⟨_, rfl, .inl ⟨rfl, _, SqL.of gl⟩, by show 6 ≤ sizeLine; decide, fun a4 h4 => ?_⟩
    rw [← eD]
    have S4 := Same.new (o := .lst (poolD.map V.str)) h4
    have n4 : a4 ≠ l := fun z => by rw [z, gl] at h4; cases h4
    have g4 : (upd G3 a4 (.lst (poolD.map V.str))) a4 = some (.lst (poolD.map V.str)) := upd_same
    have g1 := S4 _ _ g1
    have g2 := S4 _ _ g2
    have g3 := S4 _ _ g3
    have gl := S4 _ _ gl
    have SA := SA.trans S4
    clear S4 h4
    generalize (upd G3 a4 (.lst (poolD.map V.str))) = G4 at *
    refine ⟨l, _, _, rfl, rfl, gl, by show 3 < sizeLine; decide, ?_⟩
    have g1 : (upd G4 l (.lst ([.ref a1, .ref a2, .ref a3] ++ [.ref a4]))) a1 = some (.lst (poolA.map V.str)) := (upd_ne n1).trans g1
    have g2 : (upd G4 l (.lst ([.ref a1, .ref a2, .ref a3] ++ [.ref a4]))) a2 = some (.lst (poolB.map V.str)) := (upd_ne n2).trans g2
    have g3 : (upd G4 l (.lst ([.ref a1, .ref a2, .ref a3] ++ [.ref a4]))) a3 = some (.lst (poolC.map V.str)) := (upd_ne n3).trans g3
    have g4 : (upd G4 l (.lst ([.ref a1, .ref a2, .ref a3] ++ [.ref a4]))) a4 = some (.lst (poolD.map V.str)) := (upd_ne n4).trans g4
    have SA : Same H (upd G4 l (.lst ([.ref a1, .ref a2, .ref a3] ++ [.ref a4]))) := samePut SA hl0
    have gl : (upd G4 l (.lst ([.ref a1, .ref a2, .ref a3] ++ [.ref a4]))) l = some (.lst [.ref a1, .ref a2, .ref a3, .ref a4]) := upd_same
    generalize (upd G4 l (.lst ([.ref a1, .ref a2, .ref a3] ++ [.ref a4]))) = G5 at *
    have P5 := Pn.same SA
    have lp : l ≠ p := fun z => by rw [z, Pn.hp] at hl0; cases hl0
    refine ⟨_, rfl, _, rfl, _, rfl, p, c, ns, at_, rest, .ref l, rfl, P5, by omega, .inl ⟨l, _, rfl, SqL.of gl, lp, by show 0 < 4; decide, by show 4 < 1000; decide, fun v H6 hv hd => ?_⟩⟩
    obtain ⟨ws, a, rfl, ha5, hws⟩ : ∃ ws a, v = .ref a ∧ G5 a = some (.lst (ws.map V.str)) ∧ ws ∈ [poolA, poolB, poolC, poolD] := by
      simp only [List.mem_cons, List.not_mem_nil, or_false] at hv
      rcases hv with e | e | e | e
      · exact ⟨poolA, a1, e, g1, by simp⟩
      · exact ⟨poolB, a2, e, g2, by simp⟩
      · exact ⟨poolC, a3, e, g3, by simp⟩
      · exact ⟨poolD, a4, e, g4, by simp⟩
    obtain ⟨w6, wn, wk⟩ := pool_at hws
    obtain ⟨a6, r6, P6, l6, B6⟩ := hd
    have ap : a ≠ p := fun z => by
      rw [z, P5.hp] at ha5
      injection ha5 with h
      injection h with h
      cases ws with
      | nil => cases h
      | cons y ys => injection h with h; cases h
    have ha6 := B6 _ _ ha5 ap
    refine ⟨_, rfl, _, rfl, p, c, ns, a6, r6, a, ws, m, m, rfl, P6, by omega, SqL.of ha6, by omega, by omega, by omega, fun r xs H7 hr0 hr7 pt h1 h2 hd7 => ?_⟩
    obtain ⟨a7, r7, P7, l7, B7⟩ := hd7
    have B06 : But p H H6 := (But.same SA).trans B6
    have hrH : H r = none := by
      cases q : H r with
      | none => rfl
      | some o =>
        have rp : r ≠ p := fun z => by rw [z, P6.hp] at hr0; cases hr0
        rw [B06 _ _ q rp] at hr0
        cases hr0
    exact k r xs H7 hrH hr7 ⟨pt.nodup wn, fun z hz => wk z (pt.mem z hz)⟩ (by omega) ⟨a7, r7, P7, by omega, B06.trans B7⟩
end
end K33

set_option Elab.async false
set_option linter.all false
set_option maxRecDepth 100000
set_option maxHeartbeats 4000000
/-! The law's deeds. -/
namespace K33
open PySem L2 NX NU
abbrev sReal : Stmt := top 82
theorem scReal : FnScope ["_law_made", "_law_used"] ["_law_made", "_law_used"] (defScope sReal) := ⟨rfl, rfl, rfl, by decide +kernel, rfl, by decide +kernel, by decide +kernel⟩
/-- what a deed is made of -/
structure LotOk (mk : Option Str) (us : List Str) : Prop where
  u : Uni us
  few : us.length ≤ 3
  m : ∀ z, mk = some z → nm z = true
  some_ : mk = none → 0 < us.length
theorem noRep_of {us : List Str} (h : us.Nodup) : NoRep us := fun i z hz hm => by
  obtain ⟨j, hj, e⟩ := List.mem_iff_getElem.mp hm
  rw [List.getElem_take] at e
  obtain ⟨hi, ez⟩ := List.getElem?_eq_some_iff.mp hz
  have hj' : j < i := by rw [List.length_take] at hj; omega
  have := (List.pairwise_iff_getElem.mp h) j i (by omega) hi hj'
  exact this (by rw [e, ez])
theorem LotOk.nms {mk : Option Str} {us : List Str} (h : LotOk mk us) : Nms us := fun z hz => by
  have q := h.u.2 z hz
  have := nm_le q
  exact ⟨by omega, q⟩
theorem LotOk.nmM {mk : Option Str} {us : List Str} (h : LotOk mk us) {m : Str} (e : mk = some m) : m.length ≤ 1000 ∧ nm m = true := by
  have q := h.m m e
  have := nm_le q
  exact ⟨by omega, q⟩
def NewI (d : D3) (H : Hp) (x : Addr) (mk : Option Str) (us : List Str) (H' : Hp) : Prop := Same H H' ∧ H x = none ∧ ∃ ys, IsD d H' x mk us ys
def spReal (K : PySem.W.Frag) (d : D3) : Sp := fun vs H Q _ => ∃ (l : Addr) (mk : Option Str) (us : List Str), vs = [mkV mk, .ref l] ∧ SqL K H l (us.map V.str) ∧ LotOk mk us ∧ ∀ x H', NewI d H x mk us H' → Q (.ref x) H'
section
variable {P : Program} {w : World} {K : PySem.W.Frag} {mg : Str → Option Value} {base : Heap}
theorem real_use {c : C4} {d : D3} {fU fM fD : Addr} {H : Hp} {us : List Str} {Q : VK} {E : XK} (D : Dcs K mg d fU fM fD) (ok : LotOk none us) (k : ∀ x H', NewI d H x none us H' → Q (.ref x) H') :
    ∀ x dx, H x = none → H dx = none → dx ≠ x → spUse K c (V.ref x :: us.map V.str) (upd (upd H dx (.own x)) x (.ins d.u dx [])) (fun v H2 => v = .non ∧ Q (.ref x) H2) E := by
  intro x dx h1 h2 h3
  have s1 := made2 (C := d.u) h1 h2 h3
  have lz : 60 ≤ sizeLine := by decide
  have few := ok.few
  refine ⟨[.ref x], us.map V.str, rfl, rfl, by rw [List.length_map]; omega, fun p hp => ?_⟩
  have s2 := s1.trans (Same.new (o := .tup (us.map V.str)) hp)
  have px : x ≠ p := fun e => by rw [← e, upd_same] at hp; cases hp
  refine ⟨x, d.u, dx, p, us.map V.str, none, rfl, D.du, (upd_ne px).trans upd_same, upd_same, by rw [List.length_map]; omega, .rest rfl ok.nms (.ok (noRep_of ok.u.1) (ok.some_ rfl) few), fun ws ys H2 e asc but dd => ?_⟩
  have e : us = ws := map_str e
  subst e
  have s3 := new_of h1 s2 but
  exact ⟨rfl, k x H2 ⟨s3, h1, ys, dd, ok.nms, (fun m e => by cases e), few, asc⟩⟩
theorem real_do {c : C4} {d : D3} {fU fM fD : Addr} {H : Hp} {m z0 : Str} {us : List Str} {Q : VK} {E : XK} (D : Dcs K mg d fU fM fD) (ok : LotOk (some m) (z0 :: us)) (k : ∀ x H', NewI d H x (some m) (z0 :: us) H' → Q (.ref x) H') :
    ∀ x dx, H x = none → H dx = none → dx ≠ x → spDo K c (V.ref x :: V.str m :: (z0 :: us).map V.str) (upd (upd H dx (.own x)) x (.ins d.d dx [])) (fun v H2 => v = .non ∧ Q (.ref x) H2) E := by
  intro x dx h1 h2 h3
  have s1 := made2 (C := d.d) h1 h2 h3
  have lz : 60 ≤ sizeLine := by decide
  have few := ok.few
  refine ⟨[.ref x, .str m], (z0 :: us).map V.str, rfl, rfl, by rw [List.length_map]; omega, fun p hp => ?_⟩
  have s2 := s1.trans (Same.new (o := .tup ((z0 :: us).map V.str)) hp)
  have px : x ≠ p := fun e => by rw [← e, upd_same] at hp; cases hp
  refine ⟨x, d.d, dx, p, .str m, (z0 :: us).map V.str, none, rfl, D.dd, (upd_ne px).trans upd_same, upd_same, by rw [List.length_map]; omega, .rest (ws := m :: z0 :: us) rfl (fun z hz => (List.mem_cons.mp hz).elim (fun e => by rw [e]; exact ok.nmM rfl) (ok.nms z)) (.ok (noRep_of ok.u.1) (by show 0 < us.length + 1; omega) few), fun m' ws ys H2 em e asc but dd => ?_⟩
  injection em with em
  subst em
  have e : z0 :: us = ws := map_str e
  subst e
  have s3 := new_of h1 s2 but
  exact ⟨rfl, k x H2 ⟨s3, h1, ys, dd, ok.nms, (fun y e => ok.nmM e), few, asc⟩⟩
theorem real_make {c : C4} {d : D3} {fU fM fD : Addr} {H : Hp} {m : Str} {Q : VK} {E : XK} (D : Dcs K mg d fU fM fD) (ok : LotOk (some m) []) (k : ∀ x H', NewI d H x (some m) [] H' → Q (.ref x) H') :
    ∀ x dx, H x = none → H dx = none → dx ≠ x → spMake K c (V.ref x :: ([V.str m] ++ [])) (upd (upd H dx (.own x)) x (.ins d.m dx [])) (fun v H2 => v = .non ∧ Q (.ref x) H2) E := by
  intro x dx h1 h2 h3
  have s1 := made2 (C := d.m) h1 h2 h3
  have hm := ok.nmM rfl
  refine ⟨x, d.m, dx, .str m, rfl, D.dm, upd_same, .inl ⟨m, ⟨rfl, hm.1, hm.2⟩, fun H2 but dd => ?_⟩⟩
  have s3 := new_of h1 s1 but
  exact ⟨rfl, k x H2 ⟨s3, h1, [m], dd, nofun, (fun y e => ok.nmM e), by decide, ⟨rfl, by simp, by simp⟩⟩⟩
theorem upto3 {α : Type} {xs : List α} (h : xs.length ≤ 3) : xs = [] ∨ (∃ a, xs = [a]) ∨ (∃ a b, xs = [a, b]) ∨ ∃ a b c, xs = [a, b, c] := by
  cases xs with
  | nil => exact .inl rfl
  | cons a xs =>
  cases xs with
  | nil => exact .inr (.inl ⟨a, rfl⟩)
  | cons b xs =>
  cases xs with
  | nil => exact .inr (.inr (.inl ⟨a, b, rfl⟩))
  | cons c xs =>
  cases xs with
  | nil => exact .inr (.inr (.inr ⟨a, b, c, rfl⟩))
  | cons f xs =>
    simp only [List.length_cons] at h
    omega
theorem ok_real {c : C4} {d : D3} {fU fM fD : Addr} {fdM : FuncData} {f : Addr} {fd : FuncData} (F : Fun K "_law_real_deed" "_law_real_deed" sReal f fd) (T : TxtB mg) (D : Dcs K mg d fU fM fD) (FU : FnR P w K mg base (CX P w) 5 fU (spUse K c)) (FM : FnOk P w K mg base (CX P w) 4 fM fdM ["self", "name"] (spMake K c)) (hbM : Binds K fdM ["self", "name"] []) (FD : FnR P w K mg base (CX P w) 5 fD (spDo K c)) :
    FnOk P w K mg base CX0 7 f fd ["_law_made", "_law_used"] (spReal K d) := by
  refine F.ok scReal (fun vs H Q E h => ?_) (fun cdv A outer s H vs Q E hr h => ?_)
  · obtain ⟨l, mk, us, rfl, _⟩ := h
    rfl
  · obtain ⟨l, mk, us, rfl, hS, ok, k⟩ := h
    have few := ok.few
    refine ⟨_, (pss_cons (ps_if (pt_cmpR op_isN (pv 0) pe_non (nomark _)) (pss_cons (ps_if (pt_cmpR op_eq (pe_callB call_len_seq (by rfl) T.blen (by decide +kernel) (pa_cons (pv 1) pa_nil)) pe_int (nomark _)) (pss_one (ps_ret (StX.pe_makeR D.mu FU (hr.mono (by decide)) rfl D.gu passL (pa_cons (pe_ix ix_list (pv 1) pe_int (fun _ _ => rfl)) pa_nil)))) pss_nil) (pss_one (ps_ret (pe_ifExp (pt_cmpR op_eq (pe_callB call_len_seq (by rfl) T.blen (by decide +kernel) (pa_cons (pv 1) pa_nil)) pe_int (nomark _)) (StX.pe_makeR D.mu FU (hr.mono (by decide)) rfl D.gu passL (pa_cons (pe_ix ix_list (pv 1) pe_int (fun _ _ => rfl)) (pa_cons (pe_ix ix_list (pv 1) pe_int (fun _ _ => rfl)) pa_nil))) (StX.pe_makeR D.mu FU (hr.mono (by decide)) rfl D.gu passL (pa_cons (pe_ix ix_list (pv 1) pe_int (fun _ _ => rfl)) (pa_cons (pe_ix ix_list (pv 1) pe_int (fun _ _ => rfl)) (pa_cons (pe_ix ix_list (pv 1) pe_int (fun _ _ => rfl)) pa_nil)))))))) pss_nil)
      (pss_cons (ps_if (pt_cmpR (op_eqD hr.units) (pv 1) (pe_lst pa_nil) (nomark _)) (pss_one (ps_ret (pe_make D.mm FM (hr.mono (by decide)) rfl D.gm hbM .nil passL (pa_cons (pv 0) pa_nil)))) pss_nil)
      (pss_cons (ps_if (pt_cmpR op_eq (pe_callB call_len_seq (by rfl) T.blen (by decide +kernel) (pa_cons (pv 1) pa_nil)) pe_int (nomark _)) (pss_one (ps_ret (StX.pe_makeR D.md FD (hr.mono (by decide)) rfl D.gd passL (pa_cons (pv 0) (pa_cons (pe_ix ix_list (pv 1) pe_int (fun _ _ => rfl)) pa_nil))))) pss_nil)
      (pss_one (ps_ret (pe_ifExp (pt_cmpR op_eq (pe_callB call_len_seq (by rfl) T.blen (by decide +kernel) (pa_cons (pv 1) pa_nil)) pe_int (nomark _)) (StX.pe_makeR D.md FD (hr.mono (by decide)) rfl D.gd passL (pa_cons (pv 0) (pa_cons (pe_ix ix_list (pv 1) pe_int (fun _ _ => rfl)) (pa_cons (pe_ix ix_list (pv 1) pe_int (fun _ _ => rfl)) pa_nil)))) (StX.pe_makeR D.md FD (hr.mono (by decide)) rfl D.gd passL (pa_cons (pv 0) (pa_cons (pe_ix ix_list (pv 1) pe_int (fun _ _ => rfl)) (pa_cons (pe_ix ix_list (pv 1) pe_int (fun _ _ => rfl)) (pa_cons (pe_ix ix_list (pv 1) pe_int (fun _ _ => rfl)) pa_nil))))))))))), ?_⟩
    cases mk with
    | none =>
      have h0 := ok.some_ rfl
      refine ⟨_, rfl, rfl, _, rfl, iteT ?_⟩
      rcases upto3 few with rfl | ⟨z0, rfl⟩ | ⟨z0, z1, rfl⟩ | ⟨z0, z1, z2, rfl⟩
      · exact absurd h0 (by decide)
      · refine ⟨_, rfl, l, _, rfl, .inl hS, rfl, _, rfl, iteT ?_⟩
        refine ⟨_, rfl, l, _, ((0 : Nat) : Int), _, rfl, rfl, hS, atI_nat rfl, ?_⟩
        exact real_use (us := [z0]) D ok k
      · refine ⟨_, rfl, l, _, rfl, .inl hS, rfl, _, rfl, iteF ?_⟩
        refine ⟨_, rfl, l, _, rfl, .inl hS, rfl, _, rfl, iteT ?_⟩
        refine ⟨_, rfl, l, _, ((0 : Nat) : Int), _, rfl, rfl, hS, atI_nat rfl, _, rfl, l, _, ((1 : Nat) : Int), _, rfl, rfl, hS, atI_nat rfl, ?_⟩
        exact real_use (us := [z0, z1]) D ok k
      · refine ⟨_, rfl, l, _, rfl, .inl hS, rfl, _, rfl, iteF ?_⟩
        refine ⟨_, rfl, l, _, rfl, .inl hS, rfl, _, rfl, iteF ?_⟩
        refine ⟨_, rfl, l, _, ((0 : Nat) : Int), _, rfl, rfl, hS, atI_nat rfl, _, rfl, l, _, ((1 : Nat) : Int), _, rfl, rfl, hS, atI_nat rfl, _, rfl, l, _, ((2 : Nat) : Int), _, rfl, rfl, hS, atI_nat rfl, ?_⟩
        exact real_use (us := [z0, z1, z2]) D ok k
    | some m =>
      refine ⟨_, rfl, rfl, _, rfl, iteF ?_⟩
      refine ⟨_, rfl, by show 0 ≤ sizeLine; decide, fun u hu => ?_⟩
      have s1 : Same H (upd H u (.lst [])) := Same.new hu
      have hS1 := sqL_same s1 hS
      have k1 : ∀ x H', NewI d (upd H u (.lst [])) x (some m) us H' → Q (.ref x) H' := fun x H' n => k x H' ⟨s1.trans n.1, sameNone s1 n.2.1, n.2.2⟩
      refine ⟨_, _, .lst hS1 (dpTup us), .lst (SqL.of upd_same) .nil, shapedTup (fun z hz => ok.u.2 z hz), by decide +kernel, _, rfl, ?_⟩
      rcases upto3 few with rfl | ⟨z0, rfl⟩ | ⟨z0, z1, rfl⟩ | ⟨z0, z1, z2, rfl⟩
      · refine iteT ⟨_, rfl, ?_⟩
        exact real_make D ok k1
      · refine iteF ?_
        refine ⟨_, rfl, l, _, rfl, .inl hS1, rfl, _, rfl, iteT ?_⟩
        refine ⟨_, rfl, _, rfl, l, _, ((0 : Nat) : Int), _, rfl, rfl, hS1, atI_nat rfl, ?_⟩
        exact real_do (us := []) D ok k1
      · refine iteF ?_
        refine ⟨_, rfl, l, _, rfl, .inl hS1, rfl, _, rfl, iteF ?_⟩
        refine ⟨_, rfl, l, _, rfl, .inl hS1, rfl, _, rfl, iteT ?_⟩
        refine ⟨_, rfl, _, rfl, l, _, ((0 : Nat) : Int), _, rfl, rfl, hS1, atI_nat rfl, _, rfl, l, _, ((1 : Nat) : Int), _, rfl, rfl, hS1, atI_nat rfl, ?_⟩
        exact real_do (us := [z1]) D ok k1
      · refine iteF ?_
        refine ⟨_, rfl, l, _, rfl, .inl hS1, rfl, _, rfl, iteF ?_⟩
        refine ⟨_, rfl, l, _, rfl, .inl hS1, rfl, _, rfl, iteF ?_⟩
        refine ⟨_, rfl, _, rfl, l, _, ((0 : Nat) : Int), _, rfl, rfl, hS1, atI_nat rfl, _, rfl, l, _, ((1 : Nat) : Int), _, rfl, rfl, hS1, atI_nat rfl, _, rfl, l, _, ((2 : Nat) : Int), _, rfl, rfl, hS1, atI_nat rfl, ?_⟩
        exact real_do (us := [z1, z2]) D ok k1
end
end K33

set_option Elab.async false
set_option linter.all false
set_option maxRecDepth 100000
set_option maxHeartbeats 4000000
/-! sorted(x, key=str) of a list, a tuple or a dict of texts. -/
namespace NSK
open PySem PySem.Spec PyProof.Rows L2
section
variable {prog : Program} {w : World} {A : Around} {E : Value → Shared → Prop} {s : Shared}
theorem tree_str (a : Addr) : Builtin.«list.sort» ⟨[.ref a], [(Str.ofString "key", .type "str")]⟩ = ksk_tree a (.type "str") false := rfl
theorem list_sort_key {a : Addr} {vs : List Value} {n : Nat} {P : PySem.Fin → Shared → Prop} {xs : List Str} (ho : s.heap.get? a = some (seqObj "list" vs.toArray n)) (hS : StrsAre vs xs) (h64 : vs.length < 64)
    (h : ∀ (h' : Heap) (out : Array Value) (c : Nat) (ys : List Str), (∀ b o, b ≠ a → s.heap.get? b = some o → h'.get? b = some o) → h'.get? a = some (seqObj "list" out c) → StrsAre out.toList ys → ys.Perm xs → sortedS ys = true → P (.done (.ret .none)) { s with heap := h' }) :
    wpAny (model prog w) A (Builtin.«list.sort» ⟨[.ref a], [(Str.ofString "key", .type "str")]⟩) P E s := by
  rw [tree_str]
  unfold ksk_tree
  have ha : a < s.heap.objs.size := Heap.lt_size ho
  have zl : vs.length ≤ sizeLine := by rw [sizeLine_eq]; omega
  refine wpAny_bind (listItems_at ho rfl ?_)
  refine wpAny_bind (listUpdate_at ho rfl ?_ (by rw [List.size_toArray]; exact zl) (Nat.zero_le _))
  obtain ⟨e1, ho1⟩ : ∃ e1, (s.heap.update a (Obj.mapSeq fun _ => #[])).get? a = some (seqObj "list" #[] e1) := ⟨_, get?_update_seq ho (fun _ => #[])⟩
  refine wpAny_bind (seqEpoch_at ho1 rfl ?_)
  refine wpAny_bind (wpAny_newTuple ?_ (by show vs.length ≤ _; exact zl))
  refine wpAny_bind (wpAny_newList ?_ (Nat.zero_le _))
  refine wpAny_holding ?_
  have hk0 : ((s.heap.update a (Obj.mapSeq fun _ => #[])).push (seqObj "tuple" vs.toArray 0)).objs.size = s.heap.objs.size + 1 := by rw [size_push', Heap.size_update]
  have ho6 : (((s.heap.update a (Obj.mapSeq fun _ => #[])).push (seqObj "tuple" vs.toArray 0)).push (seqObj "list" #[] 0)).get? a = some (seqObj "list" #[] e1) :=
    Heap.get?_push_of_some _ (Heap.get?_push_of_some _ ho1)
  have hoK : (((s.heap.update a (Obj.mapSeq fun _ => #[])).push (seqObj "tuple" vs.toArray 0)).push (seqObj "list" #[] 0)).get? ((s.heap.update a (Obj.mapSeq fun _ => #[])).push (seqObj "tuple" vs.toArray 0)).objs.size = some (seqObj "list" #[] 0) := Heap.get?_push_size _ rfl
  have keep : ∀ b o, b ≠ a → s.heap.get? b = some o → (((s.heap.update a (Obj.mapSeq fun _ => #[])).push (seqObj "tuple" vs.toArray 0)).push (seqObj "list" #[] 0)).get? b = some o := fun b o hb e =>
    Heap.get?_push_of_some _ (Heap.get?_push_of_some _ ((Heap.get?_update_ne _ _ _ _ hb).trans e))
  show wpAny (model prog w) A _ P E { s with heap := ((s.heap.update a (Obj.mapSeq fun _ => #[])).push (seqObj "tuple" vs.toArray 0)).push (seqObj "list" #[] 0) }
  have hka : ((s.heap.update a (Obj.mapSeq fun _ => #[])).push (seqObj "tuple" vs.toArray 0)).objs.size ≠ a := by rw [hk0]; exact Nat.ne_of_gt (Nat.lt_succ_of_lt ha)
  have hkn : ∀ b o, s.heap.get? b = some o → b ≠ ((s.heap.update a (Obj.mapSeq fun _ => #[])).push (seqObj "tuple" vs.toArray 0)).objs.size := fun b o e => by
    rw [hk0]
    exact Nat.ne_of_lt (Nat.lt_succ_of_lt (Heap.lt_size e))
  generalize ((s.heap.update a (Obj.mapSeq fun _ => #[])).push (seqObj "tuple" vs.toArray 0)).objs.size = kS at *
  generalize ((s.heap.update a (Obj.mapSeq fun _ => #[])).push (seqObj "tuple" vs.toArray 0)).push (seqObj "list" #[] 0) = G at *
  unfold ksk_rest
  refine wpAny_bind (wpAny_rule ?_)
  first
    | rw [List.forIn_toArray]
    | (rw [← Array.forIn_toList]; simp only [List.toList_toArray])
    | rw [← Array.forIn_toList]
  refine wpAny_bind (ksk_fold (fun i s' => ∃ h' e, s' = { s with heap := h' } ∧ h'.get? kS = some (seqObj "list" (vs.take i).toArray e) ∧ h'.get? a = some (seqObj "list" #[] e1) ∧ ∀ b o, b ≠ a → s.heap.get? b = some o → h'.get? b = some o) vs 0 _
    ⟨G, 0, rfl, hoK, ho6, keep⟩ ?step ?done)
  case step =>
    rintro j x s' hx ⟨h', e, rfl, k1, k2, k3⟩
    simp only [Nat.zero_add] at k1 ⊢
    have hj : j < vs.length := (List.getElem?_eq_some_iff.mp hx).1
    obtain ⟨z, t, rfl⟩ : ∃ z t, x = Value.str z t := by
      have q : ∀ {l : List Value} {zs : List Str}, StrsAre l zs → ∀ v ∈ l, ∃ z t, v = Value.str z t := by
        intro l zs hl
        induction hl with
        | nil => intro v hv; cases hv
        | cons z t _ ih =>
          intro v hv
          rcases List.mem_cons.mp hv with rfl | hv
          · exact ⟨z, t, rfl⟩
          · exact ih v hv
      exact q hS x (List.mem_of_getElem? hx)
    refine wpAny_bind (wpAny_attempt (PySem.P.str_of_str ?_))
    try dsimp only
    have s1 := Heap.SameBut.update h' kS (Obj.mapSeq (·.push (.str z t)))
    obtain ⟨c2, hc2⟩ : ∃ c2, (h'.update kS (Obj.mapSeq (·.push (.str z t)))).get? kS = some (seqObj "list" ((vs.take j).toArray.push (.str z t)) c2) := ⟨_, get?_update_seq k1 (·.push (.str z t))⟩
    refine wpAny_bind (listUpdate_at k1 rfl ?_ (by rw [List.size_toArray, List.length_take, sizeLine_eq]; omega) (Nat.le_trans (Nat.le_of_eq (Array.size_push ..)) (by rw [List.size_toArray, List.length_take, sizeLine_eq]; omega)))
    refine wpAny_pure ⟨rfl, _, c2, rfl, ?_, (s1.2 a hka.symm).trans k2, fun b o hb e => (s1.2 b (hkn b o e)).trans (k3 b o hb e)⟩
    rw [hc2]
    have ek : vs.take (j + 1) = vs.take j ++ [.str z t] := by rw [List.take_add_one, hx]; simp
    rw [ek]
    simp
  case done =>
    rintro s' ⟨h', e, rfl, k1, k2, k3⟩
    have e3 : vs.take (0 + vs.length) = vs := List.take_of_length_le (by omega)
    rw [e3] at k1
    try dsimp only
    refine wpAny_bind (listItems_at k1 rfl ?_)
    have tail : ∀ st' : SortSt, (arrOf st').Perm (pairsOf vs) → failedOf st' = none → SortedToK strKind (arrOf st') (pairsOf vs).size → wpAny (model prog w) A (ksk_tail a false e1 (.ref kS) st') P E { s with heap := h' } := by
      intro st' hp hf hs
      unfold ksk_tail
      try dsimp only
      have hsz : ((arrOf st').map (·.2)).size = vs.length := by rw [Array.size_map, hp.size_eq, pairsOf_size]
      have s1 := Heap.SameBut.update h' kS (Obj.mapSeq fun _ => (#[] : Array Value))
      have na1 : (h'.update kS (Obj.mapSeq fun _ => (#[] : Array Value))).get? a = some (seqObj "list" #[] e1) := (s1.2 a hka.symm).trans k2
      have s2 := Heap.SameBut.update (h'.update kS (Obj.mapSeq fun _ => (#[] : Array Value))) a (Obj.mapSeq fun _ => (arrOf st').map (·.2))
      obtain ⟨c2, hc2⟩ : ∃ c2, ((h'.update kS (Obj.mapSeq fun _ => (#[] : Array Value))).update a (Obj.mapSeq fun _ => (arrOf st').map (·.2))).get? a = some (seqObj "list" ((arrOf st').map (·.2)) c2) := ⟨_, get?_update_seq na1 fun _ => (arrOf st').map (·.2)⟩
      refine wpAny_bind (listUpdate_at k1 rfl ?_ (by rw [List.size_toArray]; exact zl) (Nat.zero_le _))
      refine wpAny_bind (wpAny_letGo ?_)
      refine wpAny_bind (seqEpoch_at na1 rfl ?_)
      refine wpAny_bind (listUpdate_at na1 rfl ?_ (Nat.zero_le _) (Nat.le_trans (Nat.le_of_eq hsz) (Nat.le_succ_of_le zl)))
      rw [hf]
      simp only [bne_self_eq_false, Bool.false_eq_true, if_false]
      obtain ⟨ys, q1, q2, q3⟩ := sorted_out_str hS hp hs
      exact wpAny_pure (h _ _ c2 ys (fun b o hb e => (s2.2 b hb).trans ((s1.2 b (hkn b o e)).trans (k3 b o hb e))) hc2 q1 q2 q3)
    unfold ksk_end
    simp only [Bool.false_eq_true, if_false]
    have hsz : vs.toArray.size = vs.length := by simp
    by_cases h2 : vs.toArray.size < 2
    · rw [if_pos h2, if_pos h2]
      refine wpAny_bind (wpAny_pure ?_)
      rw [StateT.run_pure]
      refine wpAny_bind (wpAny_pure ?_)
      try dsimp only
      refine tail (SortSt.mk' general' (vs.toArray.zip vs.toArray) #[] 7 none) (Array.Perm.refl _) rfl ?_
      intro i j hij hj
      have : i = j := by rw [pairsOf_size] at hj; omega
      subst this; exact KeyOrd.kle_refl _
    · rw [if_neg h2, if_neg h2]
      obtain ⟨v₁, v₂, rest, rfl⟩ : ∃ v₁ v₂ rest, vs = v₁ :: v₂ :: rest := by
        match vs, hsz, h2 with
        | [], _, h2 => simp at h2
        | [_], _, h2 => simp at h2
        | v₁ :: v₂ :: rest, _, _ => exact ⟨v₁, v₂, rest, rfl⟩
      rw [keyKind_strs hS]
      refine wpAny_bind (wpAny_pure ?_)
      refine wpAny_bind (wpAny_mono (wpS_sortRunsK (κ := strKind) strKind_oneLt (a₀ := pairsOf (v₁ :: v₂ :: rest)) (st := SortSt.mk' oneType' ((v₁ :: v₂ :: rest).toArray.zip (v₁ :: v₂ :: rest).toArray) #[] 7 none)
        (Q := fun _ st' => (arrOf st').Perm (pairsOf (v₁ :: v₂ :: rest)) ∧ failedOf st' = none ∧ SortedToK strKind (arrOf st') (pairsOf (v₁ :: v₂ :: rest)).size)
        hS.keysOf ⟨Array.Perm.refl _, rfl, rfl, rfl⟩ (by rw [pairsOf_size]; simp) (by rw [pairsOf_size]; exact h64) fun st' a1 a2 a3 => ⟨a1, a2, a3⟩) ?_ fun _ _ e => e)
      rintro ⟨⟨⟩, st'⟩ s' ⟨rfl, hp, hf, hs⟩
      try dsimp only
      exact tail st' hp hf hs
end
section
variable {X : Cx}
/-- sorted(x, key=str) -/
def rSrtK (K : PySem.W.Frag) : List V → List V → Hp → VK → Prop := fun vs zs H Q => ∃ (a : Addr) (ws : List Str), vs = [.ref a] ∧ zs = [.ty "str"] ∧ (SqL K H a (ws.map V.str) ∨ SqT K H a (ws.map V.str) ∨ ∃ kvs : List (Key × V), Rd H a (.dK kvs) ∧ kvs.map (·.1) = ws.map Sum.inr) ∧ ws.length < 64 ∧
  ∀ (ys : List Str) (p : Addr), ys.Perm ws → sortedS ys = true → H p = none → Q (.ref p) (upd H p (.lst (ys.map V.str)))
theorem tailW {pins : List (Addr × Obj)} {σ : L2.St} {H : Hp} {s : Shared} {vs : List Value} {ws : List Str} {Q : VK} {E : Value → Shared → Prop} {A : Around} (I : Inv X pins σ H s) (hS : StrsAre vs ws) (hl : vs.length = ws.length) (h64 : ws.length < 64)
    (q : ∀ (ys : List Str) (p : Addr), ys.Perm ws → sortedS ys = true → H p = none → Q (.ref p) (upd H p (.lst (ys.map V.str)))) :
    wpAny (model X.prog X.w) A (do
      let l ← newList vs
      let _ ← holding [l] (call (Value.builtin "list.sort") [l] [(Str.ofString "key", .type "str")])
      ret l) (fun fin s' => ∃ v, fin = Fin.done (Flow.ret v) ∧ EP X pins σ Q v s') E s := by
  refine wpAny_bind (wpAny_newList ?_ (by rw [hl, sizeLine_eq]; omega))
  have hoL : (s.heap.push (seqObj "list" vs.toArray 0)).get? s.heap.objs.size = some (seqObj "list" vs.toArray 0) := Heap.get?_push_size _ rfl
  refine wpAny_bind (wpAny_holding (wpAny_call_entry_kw slot_list_sort ⟨_, hoL, rfl⟩ entry_list_sort ?_ (PyProof.Rows.ksk_l1 _ _)))
  refine list_sort_key (s := { s with heap := s.heap.push (seqObj "list" vs.toArray 0) }) hoL hS (by rw [hl]; exact h64) fun h' out c ys k1 k2 g1 g2 g3 => ⟨_, rfl, ?_⟩
  have hlen : (ys.map V.str).length ≤ sizeLine := by
    rw [List.length_map, g2.length_eq]
    exact small64 h64
  refine wpAny_pure ⟨_, rfl, .ref s.heap.objs.size, upd H s.heap.objs.size (.lst (ys.map V.str)), I.laid (t' := s.toks) (fun b u e => ?_) (Nat.le_refl _)
    (show ObjOk X.prog X.w _ _ _ (.lst (ys.map V.str)) from ⟨hlen, out.toList, c, vals_of_strs g1, by rw [Array.toArray_toList]; exact k2⟩), rfl, q ys _ g2 g3 (I.hok.fresh (Nat.le_refl _))⟩
  exact k1 b u (Nat.ne_of_lt (Heap.lt_size e)) (Heap.get?_push_of_some _ e)
theorem cr_sortedKS (hcalm : X.calm = true) : CallRK X (.builtin "sorted") [Str.ofString "key"] (rSrtK X.K) := by
  intro pins s σ H vs zs us ws0 Q I r rz h
  obtain ⟨a, ws, rfl, rfl, hs, h64, q⟩ := h
  obtain rfl := Vals.ref1 r
  obtain ⟨w1, rfl, e1⟩ := vals1 rz
  obtain rfl : w1 = Value.type "str" := e1
  refine call_function_entry_kw kind_sorted plain_sorted entry_sorted (PyProof.Rows.ksk_s1 _ _) ?_
  unfold Builtin.«sorted»
  refine wpAny_bind (m := checkCount "sorted" 1 1 _) (wpAny_pure ?_)
  rcases hs with hs | hs | ⟨kvs, hd, hks⟩
  · obtain ⟨its, rv, hl, _⟩ := I.list hs
    have hlen := rv.length
    rw [List.length_map] at hlen
    refine wpAny_bind (collect_list hl.isList ?_ (by rw [← hlen]; exact small64 h64))
    refine tailW (s := { s with heap := _ }) (I.kept (t' := s.toks) fun b u e => ?_) rv.strs hlen.symm h64 q
    rw [Heap.get?_update_ne _ _ _ _ (Nat.ne_of_lt (Heap.lt_size e))]
    exact Heap.get?_push_of_some _ e
  · obtain ⟨its, rv, ⟨o, ho, hc, n, hd⟩, _⟩ := I.tuple hs
    have hlen := rv.length
    rw [List.length_map] at hlen
    refine wpAny_bind (PySem.wpAny_collect_seq a (.inr rfl) ho hc hd (fun h' hk => ?_) (by rw [List.size_toArray, ← hlen]; exact small64 h64))
    rw [List.toList_toArray]
    exact tailW (s := { s with heap := h' }) (I.kept (t' := s.toks) hk) rv.strs hlen.symm h64 q
  · obtain ⟨z, lo, vs, rel, dd⟩ := dk_rd I.hok hd
    obtain ⟨ep, hat⟩ := dd.dictAt
    have hkeys : vs.map (·.1) = ws.map Sum.inr := rel.keys.symm.trans hks
    have hl : vs.length = ws.length := by
      have e := congrArg List.length hkeys
      rw [List.length_map, List.length_map] at e
      exact e
    have h16 : vs.length ≤ sizeLine := by rw [hl, sizeLine_eq]; omega
    refine wpAny_bind (PySem.W.kdu_collect (A := X.A.in1) (PySem.W.kdl_dict (knd := mixKind X.prog X.w) (kvs := vs) (ep := ep) lo) (I.ok.hd hcalm) hat h16 fun h' tk acc hk hacc => ?_)
    have hal : acc.toList.length = ws.length := by rw [Array.length_toList, hacc.1, hl]
    have hS : StrsAre acc.toList ws := strs_at hal fun j v e => by
      obtain ⟨k, x, e1, e2⟩ := hacc.2 j v (by rw [← Array.getElem?_toList]; exact e)
      have e3 : (vs.map (·.1))[j]? = some k := by rw [List.getElem?_map, e1]; all_goals rfl
      rw [hkeys, List.getElem?_map] at e3
      cases e4 : ws[j]? with
      | none => rw [e4] at e3; cases e3
      | some y =>
        rw [e4] at e3
        have e5 : Sum.inr y = k := Option.some.inj e3
        subst e5
        obtain ⟨t, ev⟩ := Value.isStrOf_shape (x := y) (v := v) e2
        exact ⟨y, t, rfl, ev⟩
    exact tailW (I.kept hk) hS hal h64 q
end
end NSK

set_option Elab.async false
set_option linter.all false
set_option maxRecDepth 100000
set_option maxHeartbeats 4000000
/-! *d of a dict of texts in a display or a call. -/
namespace NSD
open PySem PySem.Spec PyProof.Rows L2
def tStarD (te : TE) (t : TA) : TA := fun σ H Q => te σ H fun x H1 => ∃ (p : Addr) (kvs : List (Key × V)) (ws : List Str), x = V.ref p ∧ Rd H1 p (.dK kvs) ∧ kvs.map (·.1) = ws.map Sum.inr ∧ t σ H1 fun ys H2 => Q (ws.map V.str ++ ys) H2
section
variable {X : Cx} {pins : List (Addr × Obj)} {σ : L2.St} {H : Hp} {s : Shared}
theorem star_dict {a : Addr} {kvs : List (Key × V)} {ws : List Str} {E : Value → Shared → Prop} {Q : List Value → Shared → Prop} (hcalm : X.calm = true) (I : Inv X pins σ H s) (hd : Rd H a (.dK kvs)) (hks : kvs.map (·.1) = ws.map Sum.inr) (hQ : ∀ us s', Inv X pins σ H s' → Vals (ws.map V.str) us → Q us s') :
    PySem.W.StarOf (model X.prog X.w) X.A E (.ref a) Q s := by
  obtain ⟨z, lo, vs, rel, dd⟩ := dk_rd I.hok hd
  obtain ⟨ep, hat⟩ := dd.dictAt
  have hkeys : vs.map (·.1) = ws.map Sum.inr := rel.keys.symm.trans hks
  have hl : vs.length = ws.length := by
    have e := congrArg List.length hkeys
    rw [List.length_map, List.length_map] at e
    exact e
  have hkl : kvs.length = ws.length := by
    have e := congrArg List.length hks
    rw [List.length_map, List.length_map] at e
    exact e
  have h16 : vs.length ≤ sizeLine := by rw [hl, ← hkl]; exact z
  have hT : s.TypeIs (.ref a) "dict" := by
    obtain ⟨o, es, h1, h2, h3, _⟩ := hat
    exact ⟨o, h1, h2.1⟩
  have zz : wpAny (model X.prog X.w) X.A (collect (.ref a)) Q E s := by
    refine PySem.W.kdu_collect (A := X.A) (PySem.W.kdl_dict (knd := mixKind X.prog X.w) (kvs := vs) (ep := ep) lo) (I.ok.hd hcalm) hat h16 fun h' tk acc hk hacc => ?_
    have hal : acc.toList.length = ws.length := by rw [Array.length_toList, hacc.1, hl]
    have hS : StrsAre acc.toList ws := strs_at hal fun j v e => by
      obtain ⟨k, x, e1, e2⟩ := hacc.2 j v (by rw [← Array.getElem?_toList]; exact e)
      have e3 : (vs.map (·.1))[j]? = some k := by rw [List.getElem?_map, e1]; all_goals rfl
      rw [hkeys, List.getElem?_map] at e3
      cases e4 : ws[j]? with
      | none => rw [e4] at e3; cases e3
      | some y =>
        rw [e4] at e3
        have e5 : Sum.inr y = k := Option.some.inj e3
        subst e5
        obtain ⟨t, ev⟩ := Value.isStrOf_shape (x := y) (v := v) e2
        exact ⟨y, t, rfl, ev⟩
    exact hQ _ _ (I.kept hk) (vals_of_strs hS)
  unfold PySem.W.StarOf notIterableAtAll
  exact wpAny_bind (wpAny_specialOf hT PySem.F.slot_dict_iter.lookup (wpAny_pure ⟨rfl, zz⟩))
end
section
variable {X : Cx} {e : Expr} {es : List Expr} {te : TE} {t : TA} {p : Pos}
theorem pa_starD (hcalm : X.calm = true) (he : PE X e te) (hr : PA X es t) (hs : starEach (.Starred e p :: es) X.env = (true, eval e X.env) :: starEach es X.env := by rfl) : PA X (.Starred e p :: es) (tStarD te t) := by
  refine ⟨fun pos pins s σ H Q I h => ?_⟩
  refine PySem.W.items_star (thn (he.run pins s σ H _ I h) fun v s1 ⟨y, H1, I1, ry, a, kvs, ws, ey, hd, hks, q⟩ => ?_) hs
  subst ey
  obtain rfl : v = Value.ref a := ry
  refine star_dict hcalm I1 hd hks fun us s2 I2 rv => ?_
  exact thn (hr.run pos pins s2 σ H1 _ I2 q) fun ws s3 ⟨vs, H3, I3, r3, q3⟩ => ⟨_, H3, I3, rv.append r3, q3⟩
end
end NSD

set_option Elab.async false
set_option linter.all false
set_option maxRecDepth 100000
set_option maxHeartbeats 4000000
/-! sorted(set(xs)) where only the distinct texts are fewer than 64. -/
namespace NU
open PySem PySem.Spec PyProof.Rows L2
theorem many_in : ∀ (l pool : List Str), (∀ x ∈ l, x ∈ pool) → many l ≤ pool.length
  | [], pool, _ => Nat.zero_le _
  | x :: l, pool, h => by
    show (if x ∈ l then many l else many l + 1) ≤ pool.length
    split
    · exact many_in l pool fun y hy => h y (List.mem_cons_of_mem _ hy)
    · rename_i n
      have hx := h x List.mem_cons_self
      have := many_in l (pool.erase x) fun y hy => by
        have ne : y ≠ x := fun e => n (e ▸ hy)
        exact (List.mem_erase_of_ne ne).mpr (h y (List.mem_cons_of_mem _ hy))
      rw [List.length_erase_of_mem hx] at this
      have : 0 < pool.length := List.length_pos_of_mem hx
      omega
section
variable {X : Cx}
def rSrtM (wo : World) : List V → Hp → VK → Prop := fun vs H Q => ∃ (a : Addr) (xs : List Str), vs = [.ref a] ∧ H a = some (SetX wo a xs) ∧ many xs < 64 ∧
  ∀ (ys : List Str) (p : Addr), sortedS ys = true → ys.Nodup → (∀ y, y ∈ ys ↔ y ∈ xs) → H p = none → Q (.ref p) (upd H p (.lst (ys.map V.str)))
theorem cr_srtM (hc : X.calm = true) : CallR X (.builtin "sorted") (rSrtM X.w) := by
  intro pins s σ H vs us Q I r h
  obtain ⟨a, xs, rfl, ga, few, q⟩ := h
  rw [Vals.ref1 r]
  refine sorted_tx (setX_get I ga) (I.ok.hd hc) few fun t p arr c ys k g o lp gp are srt nd mm len => ?_
  have fits : (ys.map V.str).length ≤ sizeLine := by rw [List.length_map, len, sizeLine_eq]; omega
  have new : H p = none := I.hok.fresh lp
  have J : Inv X pins σ (upd H p (.lst (ys.map V.str))) { s with heap := t.heap, gens := t.gens, drawn := t.drawn, toks := t.toks } :=
    I.call (ch := []) (Un.laid k lp new) (I.hok.laid k lp ⟨fits, arr.toList, c, vals_of_strs are, gp⟩) (by rw [g]; exact I.bare) nofun
  have same : t = { s with heap := t.heap, gens := t.gens, drawn := t.drawn, toks := t.toks } := by
    obtain ⟨_, _, _, _, _⟩ := t
    subst o
    rfl
  rw [same]
  exact ⟨.ref p, _, J, rfl, q ys p srt nd (fun y => (mm y).trans decide_eq_true_iff) new⟩
end
end NU

set_option Elab.async false
set_option linter.all false
set_option maxRecDepth 100000
set_option maxHeartbeats 4000000
/-! enumerate(tuple). -/
namespace NEn
open PySem PySem.Spec PyProof.Rows L2
theorem meets_new {v : Value} {o : Obj} {St : Heap → Prop} (B : Begins v o St) :
    Meets (Builtin.«enumerate.__new__» ⟨[.type "enumerate", v], []⟩) (fun _ R s => St s.heap ∧
      R (.ok (.ret (.ref (s.heap.push o).objs.size))) { s with heap := (s.heap.push o).push { cls := .type "enumerate", data := .fields #[.none, .bool false, .ref s.heap.objs.size, rawInt 0, .none, .none] } }) :=
  .of_wp fun prog w A R s h => by
    obtain ⟨hp, gs, dr, tk, os⟩ := s
    obtain ⟨st, h⟩ := h
    have sub := sub_enumerate
    have start : ∀ {A2 : Around} {E Q : Value → Shared → Prop}, Q (.ref hp.objs.size) ⟨hp.push o, gs, dr, tk, os⟩ → wpAny (model prog w) A2 (pyIter v) Q E ⟨hp, gs, dr, tk, os⟩ := fun q => B.iter prog w _ _ ⟨hp, gs, dr, tk, os⟩ _ st q
    wp_walk using start
    refine wpAny_stack_any fun stk => wpAny_pure ?_
    split
    · rename_i c _ _ _ _ _
      cases (c == Value.type "enumerate") <;> (wp_walk using start; exact ⟨_, rfl, h⟩)
    · wp_walk using start
      exact ⟨_, rfl, h⟩
theorem begins1 {prog : Program} {w : World} {A : Around} {E : Value → Shared → Prop} {s : Shared} {v : Value} {o : Obj} {St : Heap → Prop} {Q : Value → Shared → Prop} (B : Begins v o St) (st : St s.heap)
    (h : ∀ h1, IsEnum h1 (s.heap.objs.size + 1) s.heap.objs.size 0 .none → h1.get? s.heap.objs.size = some o → (∀ b u, s.heap.get? b = some u → h1.get? b = some u) → Q (.ref (s.heap.objs.size + 1)) { s with heap := h1 }) :
    wpAny (model prog w) A (call (.type "enumerate") [v]) Q E s := by
  refine callType_new F.called_enumerate (by decide) (F.typeCall_enumerate_1 _) (F.newCall_enumerate_1 _) (fun obj => F.args_object_init_2 obj _) F.entry_enumerate_new (meets_new B) ⟨st, ?_⟩
  have sz : (s.heap.push o).objs.size = s.heap.objs.size + 1 := Heap.size_push ..
  have at_ := Heap.get?_push_size (s.heap.push o) (o := { cls := .type "enumerate", data := .fields #[.none, .bool false, .ref s.heap.objs.size, rawInt 0, .none, .none] }) rfl
  show _ ∧ _
  rw [sz] at at_ ⊢
  exact ⟨⟨_, at_, rfl⟩, h _ at_ (Heap.get?_push_of_some _ (Heap.get?_push_size _ B.free)) fun b u x => Heap.get?_push_of_some _ (Heap.get?_push_of_some _ x)⟩
/-- the tuple at a, each item in a new pair -/
def Ent (K : PySem.W.Frag) (a : Addr) : It :=
  ⟨fun i H => ∃ (xs : List V) (x : V), SqT K H a xs ∧ xs[i]? = some x, fun i H v H2 => ∃ T x, v = .ref T ∧ H T = none ∧ H2 = upd H T (.tup [.int (i : Nat), x]) ∧ ∀ xs, SqT K H a xs → xs[i]? = some x, fun i H => ∃ xs : List V, SqT K H a xs ∧ xs.length ≤ i⟩
theorem turn_ent {P : Program} {w : World} {K : PySem.W.Frag} {elts : List Expr} {kk : Nat} {tpos : Pos} (a e it : Addr) :
    Turn P w K (.Tuple elts kk tpos) (Ent K a) [e, it] e (fun i h => (∃ old, IsEnum h e it ((i : Nat) : Int) old) ∧ h.IsTupleIter it a i ∧ e ≠ it) where
  mem := List.mem_cons_self
  obj := fun i h st b hb => by
    obtain ⟨⟨old, he⟩, ⟨o, ho, hc, hd⟩, _⟩ := st
    rcases List.mem_cons.mp hb with z | z
    · subst z
      exact ⟨_, he, fun v q => nomatch q⟩
    · have z := List.mem_singleton.mp z
      subst z
      exact ⟨o, ho, fun v q => by rw [hd] at q; cases q⟩
  keep := fun i h h1 ⟨⟨old, he⟩, hi, ne⟩ k => ⟨⟨old, k e (by simp) _ he⟩, hi.at fun o q => k it (by simp) o q, ne⟩
  item := by
    intro X hP hw hK hc i pins s σ H E I hf st hg
    subst hP hw hK
    obtain ⟨⟨old, he⟩, hit, hne⟩ := st
    obtain ⟨xs, x, hq, hx⟩ := hg
    obtain ⟨its, rv, p, hz⟩ := I.tuple hq
    have hT : s.heap.IsTuple a its.toArray := p
    have nit : a ≠ it := fun z => by
      obtain ⟨o1, g1, _, d1⟩ := hit
      obtain ⟨o2, g2, _, n, d2⟩ := hT
      rw [← z, g2] at g1
      cases g1
      rw [d2] at d1
      cases d1
    have nea : e ≠ a := fun z => by
      obtain ⟨o2, g2, _, n, d2⟩ := hT
      rw [← z, he] at g2
      cases g2
      cases d2
    obtain ⟨u, hu, ru⟩ := rv.get hx
    have lt : i < its.toArray.size := by
      rw [List.size_toArray]
      exact (List.getElem?_eq_some_iff.mp hu).1
    have hel : e < s.heap.objs.size := Heap.lt_size he
    have hil : it < s.heap.objs.size := by obtain ⟨_, q, _⟩ := hit; exact Heap.lt_size q
    have D := Draws.tuple (prog := X.prog) (w := X.w) (A := X.A.in1) (I.ok.hd hc) it a nit its.toArray
    refine wpAny_pyNext_enum_itemC D he ⟨hit, hT⟩ lt hne (by simp only [List.mem_cons, List.not_mem_nil, or_false, not_or]; exact ⟨hne, nea⟩) fun x1 h1 tk px ho st1 hT1 hsz hk => ?_
    obtain rfl : u = x1 := by
      have q : its.toArray[i]? = some x1 := px
      have q2 : its.toArray[i]? = some u := by simpa using hu
      rw [q2] at q
      exact Option.some.inj q
    refine ⟨_, rfl, wpAny_letOwnedTupleGo_enum (s := { s with heap := h1, toks := tk + 1 }) ho fun h2 he2 sb => ?_⟩
    have hT2 : h2.get? s.heap.objs.size = some { cls := .type "tuple", data := .seq #[.int i tk, u] } := (sb.2 _ (Nat.ne_of_gt hel)).trans hT1
    have new : ObjOk X.prog X.w (upd H s.heap.objs.size (.tup [.int (i : Nat), x])) h2 s.heap.objs.size (.tup [.int (i : Nat), x]) :=
      ⟨by show 2 ≤ sizeLine; decide, [.int i tk, u], .cons ⟨_, rfl⟩ (.cons ru .nil), ⟨_, hT2, rfl, _, rfl⟩⟩
    have J : Inv X pins σ (upd H s.heap.objs.size (.tup [.int (i : Nat), x])) { s with heap := h2, toks := tk + 1 } :=
      I.turnedNew (ch := [e, it]) (fun b ob hb q => (sb.2 b (fun z => hb (by simp [z]))).trans (hk b ob (fun z => hb (by simp [z])) (fun z => hb (by simp [z])) q)) hf (Nat.le_refl _) new
    refine ⟨.ref s.heap.objs.size, _, J, rfl, ⟨_, x, rfl, I.hok.fresh (Nat.le_refl _), rfl, fun ys hy => by rw [I.tuple_inj hy hq]; exact hx⟩, ⟨⟨u, ?_⟩, st1.1.at fun o q => (sb.2 it (Ne.symm hne)).trans q, hne⟩, fun b hb => ?_⟩
    · have e1 : ((i + 1 : Nat) : Int) = (i : Int) + 1 := by omega
      rw [e1]
      exact he2
    · have lb : b < s.heap.objs.size := by
        rcases List.mem_cons.mp hb with z | z
        · rw [z]; exact hel
        · rw [List.mem_singleton.mp z]; exact hil
      rw [upd_ne (Nat.ne_of_lt lb)]
      exact (hf b hb).1
  done := by
    intro X hP hw hK hc i pins s σ H E I hf st hg
    subst hP hw hK
    obtain ⟨⟨old, he⟩, hit, hne⟩ := st
    obtain ⟨xs, hq, hx⟩ := hg
    obtain ⟨its, rv, p, hz⟩ := I.tuple hq
    obtain ⟨f0, f1, f2, f3, f4, f5⟩ := hf it (by simp)
    have hl := rv.length
    have hT : s.heap.IsTuple a its.toArray := p
    obtain ⟨o1, g1, c1, d1⟩ := id hit
    have nit : a ≠ it := fun z => by
      obtain ⟨o2, g2, _, n, d2⟩ := hT
      rw [← z, g2] at g1
      cases g1
      rw [d2] at d1
      cases d1
    have D := Draws.tuple (prog := X.prog) (w := X.w) (A := X.A.in1) (I.ok.hd hc) it a nit its.toArray
    have hT0 : s.TypeIs (.ref e) "enumerate" := ⟨_, he, rfl⟩
    unfold pyNext
    refine wpAny_bind (wpAny_attempt (wpAny_callSpecial?_slot (name := Str.ofString "__next__") hT0 F.slot_enumerate_next (wpAny_call_entry F.slot_enumerate_next hT0 F.entry_enumerate_next ?_ (F.args_enumerate_next_1 _))))
    show wpAny _ _ (field (.ref e) 2 >>= _) _ _ _
    refine wpAny_bind (wpAny_field he rfl (x := .ref it) rfl ?_)
    refine wpAny_bind (wpAny_nextOf_tuple_end (I.ok.hd hc) hit hT (by simp; omega) fun h1 x1 eb ⟨o, ho, hc1⟩ => ?_)
    refine wpAny_bind (wpAny_isInstance (T := "StopIteration") (b := true) ⟨o, ho, hc1⟩ isSubtype_stop ?_)
    exact wpAny_pure ⟨rfl, I.turned (t' := s.toks) (fun b o hb q => eb b o hb q) f0 f1 f3 f4 f5⟩
  self := fun A i s Q E st h => let ⟨⟨_, he⟩, _⟩ := st; wpAny_pyIter_enum he h
def iEnt (K : PySem.W.Frag) (ta : TA) : TI := fun σ H R => ta σ H fun vs H1 => ∃ a xs, vs = [.ref a] ∧ SqT K H1 a xs ∧ R (Ent K a) H1
theorem pi_ent {X : Cx} {e : Expr} {ta : TA} {p pos tpos : Pos} {elts : List Expr} {kk : Nat} (hg : Gl X "enumerate") (hm : X.mg "enumerate" = none) (ha : PA X [e] ta) (hs : starEach [e] X.env = [(false, eval e X.env)] := by rfl) :
    PI X (.Tuple elts kk tpos) (.Call (.Name "enumerate" p) [e] [] pos) (iEnt X.K ta) := by
  refine ⟨fun pins s σ H R I h => Call_ (ld_blt I hg hm boot_enumerate (PyProof.Rows.callWith_type1 (thn (ha.run pos pins s σ H _ I h) fun us s1 ⟨vs, H1, I1, r1, q1⟩ => ?_) hs rfl))⟩
  obtain ⟨a, xs, ex, hq, q⟩ := q1
  subst ex
  cases r1 with
  | cons r rr =>
    cases rr
    cases r
    obtain ⟨its, rv, pt, hz⟩ := I1.tuple hq
    refine begins1 (begins_tuple a its.toArray) pt fun h1 he hit hk => wpAny_pyIter_enum he ?_
    refine ⟨s1.heap.objs.size + 1, [s1.heap.objs.size + 1, s1.heap.objs.size], _, _, H1, rfl, I1.kept (t' := s1.toks) hk, turn_ent a (s1.heap.objs.size + 1) s1.heap.objs.size, ⟨⟨.none, he⟩, ⟨_, hit, rfl, rfl⟩, Nat.succ_ne_self _⟩, fun b hb => ?_, q⟩
    have low : s1.heap.objs.size ≤ b := by
      rcases List.mem_cons.mp hb with z | z
      · rw [z]; exact Nat.le_succ _
      · rw [List.mem_singleton.mp z]; exact Nat.le_refl _
    exact I1.fpOk low (I1.hok.fresh low)
theorem for_ent {K : PySem.W.Frag} {a : Addr} {xs : List V} {g : TG} {tb : TS} {D : Ends} {σ : L2.St} {H : Hp} (Pv : Nat → L2.St → Hp → Prop) (h0 : Pv 0 σ H) (hl : ∀ i σ H, i ≤ xs.length → Pv i σ H → SqT K H a xs)
    (hs : ∀ i x σ H T, xs[i]? = some x → Pv i σ H → H T = none → g (.ref T) σ (upd H T (.tup [.int (i : Nat), x])) fun σ2 H2 => tb { D with nx := Pv (i + 1), ct := Pv (i + 1), bk := D.nx } σ2 H2) (hd : ∀ σ H, Pv xs.length σ H → D.nx σ H) :
    ∃ W : Nat → Nat → L2.St → Hp → Prop, (∃ m, W 0 m σ H) ∧ ∀ i m σ H, W i m σ H →
      ((Ent K a).stop i H ∧ D.nx σ H) ∨ ((Ent K a).go i H ∧ ∃ N : L2.St → Hp → Prop, (∀ σ' H', N σ' H' → ∃ m', m' < m ∧ W (i + 1) m' σ' H') ∧ ∀ x H', (Ent K a).yld i H x H' → g x σ H' fun σ2 H2 => tb { D with nx := N, ct := N, bk := D.nx } σ2 H2) := by
  refine ⟨fun i m σ H => m = xs.length - i ∧ i ≤ xs.length ∧ Pv i σ H, ⟨xs.length, by simp, Nat.zero_le _, h0⟩, ?_⟩
  rintro i m σ H ⟨rfl, hi, p⟩
  have q := hl i σ H hi p
  by_cases lt : i < xs.length
  · have at_ : xs[i]? = some xs[i] := List.getElem?_eq_getElem lt
    refine .inr ⟨⟨xs, xs[i], q, at_⟩, Pv (i + 1), fun σ1 H1 p1 => ⟨xs.length - (i + 1), by omega, rfl, lt, p1⟩, fun y H1 ⟨T, x, ey, hT, eH, hx⟩ => ?_⟩
    subst ey eH
    exact hs i x σ H T (hx xs q) p hT
  · obtain rfl : i = xs.length := by omega
    exact .inl ⟨⟨xs, q, Nat.le_refl _⟩, hd σ H p⟩
theorem for_enl {K : PySem.W.Frag} {a : Addr} {xs : List V} {g : TG} {tb : TS} {D : Ends} {σ : L2.St} {H : Hp} (Pv : Nat → L2.St → Hp → Prop) (h0 : Pv 0 σ H) (hl : ∀ i σ H, i ≤ xs.length → Pv i σ H → SqL K H a xs)
    (hs : ∀ i x σ H T, xs[i]? = some x → Pv i σ H → H T = none → g (.ref T) σ (upd H T (.tup [.int (i : Nat), x])) fun σ2 H2 => tb { D with nx := Pv (i + 1), ct := Pv (i + 1), bk := D.nx } σ2 H2) (hd : ∀ σ H, Pv xs.length σ H → D.nx σ H) :
    ∃ W : Nat → Nat → L2.St → Hp → Prop, (∃ m, W 0 m σ H) ∧ ∀ i m σ H, W i m σ H →
      ((Ite K a).stop i H ∧ D.nx σ H) ∨ ((Ite K a).go i H ∧ ∃ N : L2.St → Hp → Prop, (∀ σ' H', N σ' H' → ∃ m', m' < m ∧ W (i + 1) m' σ' H') ∧ ∀ x H', (Ite K a).yld i H x H' → g x σ H' fun σ2 H2 => tb { D with nx := N, ct := N, bk := D.nx } σ2 H2) := by
  refine ⟨fun i m σ H => m = xs.length - i ∧ i ≤ xs.length ∧ Pv i σ H, ⟨xs.length, by simp, Nat.zero_le _, h0⟩, ?_⟩
  rintro i m σ H ⟨rfl, hi, p⟩
  have q := hl i σ H hi p
  by_cases lt : i < xs.length
  · have at_ : xs[i]? = some xs[i] := List.getElem?_eq_getElem lt
    refine .inr ⟨⟨xs, xs[i], q, at_⟩, Pv (i + 1), fun σ1 H1 p1 => ⟨xs.length - (i + 1), by omega, rfl, lt, p1⟩, fun y H1 ⟨T, x, ey, hT, eH, hx⟩ => ?_⟩
    subst ey eH
    exact hs i x σ H T (hx xs q) p hT
  · obtain rfl : i = xs.length := by omega
    exact .inl ⟨⟨xs, q, Nat.le_refl _⟩, hd σ H p⟩
end NEn

set_option Elab.async false
set_option linter.all false
set_option maxRecDepth 100000
set_option maxHeartbeats 4000000
/-! xs.extend(t), t a tuple. -/
namespace NEX
open PySem PySem.Spec PyProof.Rows L2
section
variable {X : Cx}
def rExtendT (K : PySem.W.Frag) : V → List V → Hp → VK → Prop := fun x vs H Q => ∃ l b xs zs, x = .ref l ∧ vs = [.ref b] ∧ H l = some (.lst xs) ∧ SqT K H b zs ∧ xs.length + zs.length ≤ sizeLine ∧ Q .non (upd H l (.lst (xs ++ zs)))
theorem mt_extendT : MtM X "list.extend" (rExtendT X.K) := by
  intro pins s σ H x vs v us Q I rx rv h
  obtain ⟨l, b, xs, zs, rfl, rfl, hH, hB, hz, q⟩ := h
  cases rx
  obtain ⟨u, rfl, ru⟩ := rv.one
  cases ru
  obtain ⟨z, its, n, r, hl, e⟩ := I.lstM hH
  obtain ⟨its2, r2, ⟨o2, e2, c2, n2, d2⟩, hl2⟩ := I.tuple hB
  have hl3 := r2.length
  refine wpAny_call_entry F.slot_list_extend ⟨_, e, rfl⟩ F.entry_list_extend ?_ (F.args_list_extend_2 _ _)
  have hsz : its.toArray.size + its2.toArray.size ≤ sizeLine := by rw [List.size_toArray, List.size_toArray]; omega
  have hlong : (!its.toArray.isEmpty && Builtin.List.listTooLong (its.toArray.size + its2.toArray.size)) = false := by
    unfold Builtin.List.listTooLong
    rw [decide_eq_false (by omega), Bool.and_false]
  unfold Builtin.«list.extend»
  show wpAny _ X.A.in1 (Builtin.List.listExtendWith (.ref l) (.ref b) .none) _ _ _
  unfold Builtin.List.listExtendWith
  refine wpAny_bind (wpAny_typeOf ⟨o2, e2, c2⟩ ?_)
  have h1 : (Builtin.List.listSameRef (.ref l) (.ref b) || Value.type "tuple" == Value.type "list" || Value.type "tuple" == Value.type "tuple") = true := by simp
  simp only [h1, if_true]
  refine wpAny_bind ?_
  unfold Builtin.List.listItems
  refine wpAny_bind (wpAny_seqItems e2 d2 (wpAny_pure ?_))
  refine wpAny_bind ?_
  refine wpAny_bind (wpAny_seqItems e rfl (wpAny_pure ?_))
  simp only [hlong, Bool.false_eq_true, if_false]
  show wpAny _ X.A.in1 (updateSeq l (· ++ its2.toArray) >>= fun _ => ret .none) _ _ s
  refine wpAny_bind (wpAny_updateSeq e rfl ?_ (by rw [List.size_toArray]; omega) (by rw [Array.size_append]; omega))
  refine wpAny_pure ⟨_, rfl, .non, _, I.lset (its' := its ++ its2) hH e (by simp) (r.append r2) ?_, rfl, q⟩
  rw [List.length_append]
  exact hz
end
end NEX

set_option Elab.async false
set_option linter.all false
set_option maxRecDepth 100000
set_option maxHeartbeats 4000000
/-! Walks over what is a list or a tuple. -/
namespace NI
open PySem L2 LamX
abbrev Sq (K : PySem.W.Frag) (H : Hp) (a : Addr) (xs : List V) : Prop := SqL K H a xs ∨ SqT K H a xs
theorem sqL_same {K : PySem.W.Frag} {H H2 : Hp} {a : Addr} {xs : List V} (s : Same H H2) (h : SqL K H a xs) : SqL K H2 a xs := by
  rcases h with (h | ⟨o, h⟩) | h
  · exact .inl (.inl (s _ _ h))
  · exact .inl (.inr ⟨o, s _ _ h⟩)
  · exact .inr h
theorem sqT_same {K : PySem.W.Frag} {H H2 : Hp} {a : Addr} {xs : List V} (s : Same H H2) (h : SqT K H a xs) : SqT K H2 a xs := by
  rcases h with (h | ⟨o, h⟩) | h
  · exact .inl (.inl (s _ _ h))
  · exact .inl (.inr ⟨o, s _ _ h⟩)
  · exact .inr h
theorem Sq.same {K : PySem.W.Frag} {H H2 : Hp} {a : Addr} {xs : List V} (s : Same H H2) (h : Sq K H a xs) : Sq K H2 a xs := h.imp (sqL_same s) (sqT_same s)
theorem pi_either {X : Cx} {tg l : Expr} {w1 w2 : TI} (h1 : PI X tg l w1) (h2 : PI X tg l w2) : PI X tg l (fun σ H R => w1 σ H R ∨ w2 σ H R) := ⟨fun pins s σ H R I h => h.elim (h1.run pins s σ H R I) (h2.run pins s σ H R I)⟩
theorem for_either {K : PySem.W.Frag} {j : Nat} {a : Addr} {xs : List V} {g : TG} {tb : TS} {D : Ends} {σ : L2.St} {H H0 : Hp} (hv : σ[j]? = some (some (.ref a))) (hS : Sq K H0 a xs) (Pv : Nat → L2.St → Hp → Prop) (h0 : Pv 0 σ H) (hk : ∀ i σ2 H2, Pv i σ2 H2 → Same H0 H2)
    (hs : ∀ i x σ1 H1, xs[i]? = some x → Pv i σ1 H1 → g x σ1 H1 fun σ2 H2 => tb { D with nx := Pv (i + 1), ct := Pv (i + 1), bk := D.nx } σ2 H2) (hd : ∀ σ1 H1, Pv xs.length σ1 H1 → D.nx σ1 H1) :
    tFor (fun σ H R => iList K (tVar j) σ H R ∨ iTup K (tVar j) σ H R) g tb D σ H := by
  rcases hS with h | h
  · exact .inl ⟨_, hv, a, rfl, ⟨xs, sqL_same (hk 0 σ H h0) h⟩, for_list (xs := xs) Pv h0 (fun i σ2 H2 _ p => sqL_same (hk i σ2 H2 p) h) hs hd⟩
  · exact .inr ⟨_, hv, a, rfl, ⟨xs, sqT_same (hk 0 σ H h0) h⟩, for_tup (xs := xs) Pv h0 (fun i σ2 H2 _ p => sqT_same (hk i σ2 H2 p) h) hs hd⟩
theorem tyOf_ext {K : PySem.W.Frag} {H H' : Hp} {v : V} {t : Value} (s : ExtN H H') (h : TyOf K H v t) : TyOf K H' v t := by
  cases h with
  | non => exact .non
  | bl x => exact .bl x
  | int x => exact .int x
  | str x => exact .str x
  | flt x => exact .flt x
  | lst h => exact .lst (s _ _ h (by intro p e; cases e))
  | frz h => exact .frz (s _ _ h (by intro p e; cases e))
  | tup h => exact .tup (s _ _ h (by intro p e; cases e))
  | dK h => exact .dK (s _ _ h (by intro p e; cases e))
  | dT h => exact .dT (s _ _ h (by intro p e; cases e))
  | ins h a b c d e => exact .ins (s _ _ h (by intro p e; cases e)) a b c d e
theorem tyX_ext {K : PySem.W.Frag} {H H' : Hp} {v : V} {t : Value} (s : ExtN H H') (h : TyX K H v t) : TyX K H' v t := by
  cases h with
  | base h => exact .base (tyOf_ext s h)
  | byt b => exact .byt b
  | set h => exact .set (s _ _ h (by intro p e; cases e))
  | kList a b => exact .kList a b
  | kTuple a b => exact .kTuple a b
  | kDict a b => exact .kDict a b
  | fTuple h => exact .fTuple (s _ _ h (by intro p e; cases e))
  | fDict h => exact .fDict (s _ _ h (by intro p e; cases e))
theorem sqL_ext {K : PySem.W.Frag} {H H2 : Hp} {a : Addr} {xs : List V} (s : ExtN H H2) (h : SqL K H a xs) : SqL K H2 a xs := by
  rcases h with (h | ⟨o, h⟩) | h
  · exact .inl (.inl (s _ _ h (by intro p e; cases e)))
  · exact .inl (.inr ⟨o, s _ _ h (by intro p e; cases e)⟩)
  · exact .inr h
theorem sqT_ext {K : PySem.W.Frag} {H H2 : Hp} {a : Addr} {xs : List V} (s : ExtN H H2) (h : SqT K H a xs) : SqT K H2 a xs := by
  rcases h with (h | ⟨o, h⟩) | h
  · exact .inl (.inl (s _ _ h (by intro p e; cases e)))
  · exact .inl (.inr ⟨o, s _ _ h (by intro p e; cases e)⟩)
  · exact .inr h
theorem Sq.ext {K : PySem.W.Frag} {H H2 : Hp} {a : Addr} {xs : List V} (s : ExtN H H2) (h : Sq K H a xs) : Sq K H2 a xs := by
  rcases h with ((h | ⟨o, h⟩) | h) | ((h | ⟨o, h⟩) | h)
  · exact .inl (.inl (.inl (s _ _ h (by intro p e; cases e))))
  · exact .inl (.inl (.inr ⟨o, s _ _ h (by intro p e; cases e)⟩))
  · exact .inl (.inr h)
  · exact .inr (.inl (.inl (s _ _ h (by intro p e; cases e))))
  · exact .inr (.inl (.inr ⟨o, s _ _ h (by intro p e; cases e)⟩))
  · exact .inr (.inr h)
/-- an instance is written, a list or a tuple stays -/
theorem sqT_put {K : PySem.W.Frag} {H : Hp} {a x C dx : Addr} {fs : List (Str × V)} {o : HO} {xs : List V} (hx : H x = some (.ins C dx fs)) (h : SqT K H a xs) : SqT K (upd H x o) a xs := by
  have ne : ∀ {u : HO}, H a = some u → (∀ C dx fs, u ≠ .ins C dx fs) → a ≠ x := fun e n z => by
    rw [z, hx] at e
    exact n _ _ _ (Option.some.inj e).symm
  rcases h with (h | ⟨o1, h⟩) | h
  · exact .inl (.inl ((upd_ne (ne h (by intro C dx fs e; cases e))).trans h))
  · exact .inl (.inr ⟨o1, (upd_ne (ne h (by intro C dx fs e; cases e))).trans h⟩)
  · exact .inr h
theorem sqL_put {K : PySem.W.Frag} {H : Hp} {a x C dx : Addr} {fs : List (Str × V)} {o : HO} {xs : List V} (hx : H x = some (.ins C dx fs)) (h : SqL K H a xs) : SqL K (upd H x o) a xs := by
  have ne : ∀ {u : HO}, H a = some u → (∀ C dx fs, u ≠ .ins C dx fs) → a ≠ x := fun e n z => by
    rw [z, hx] at e
    exact n _ _ _ (Option.some.inj e).symm
  rcases h with (h | ⟨o1, h⟩) | h
  · exact .inl (.inl ((upd_ne (ne h (by intro C dx fs e; cases e))).trans h))
  · exact .inl (.inr ⟨o1, (upd_ne (ne h (by intro C dx fs e; cases e))).trans h⟩)
  · exact .inr h
theorem same_refl {H : Hp} : Same H H := fun _ _ e => e
end NI

set_option Elab.async false
set_option linter.all false
set_option maxRecDepth 100000
set_option maxHeartbeats 4000000
namespace K33
open PySem L2 NX NU
open PyProof.Rows (sortedS)
abbrev sNum : Stmt := top 22
abbrev sCnt : Stmt := top 23
abbrev sPri : Stmt := top 24
theorem scNum : FnScope ["value"] ["value"] (defScope sNum) := ⟨rfl, rfl, rfl, by decide +kernel, rfl, by decide +kernel, by decide +kernel⟩
theorem scCnt : FnScope ["value"] ["value"] (defScope sCnt) := ⟨rfl, rfl, rfl, by decide +kernel, rfl, by decide +kernel, by decide +kernel⟩
theorem scPri : FnScope ["value"] ["value"] (defScope sPri) := ⟨rfl, rfl, rfl, by decide +kernel, rfl, by decide +kernel, by decide +kernel⟩
structure TxtP (mg : Str → Option Value) : Prop where
  bbool : mg "bool" = none
  bdict : mg "dict" = none
  brev : mg "reversed" = none
  mp : ∃ t, mg "MOST_PRICE" = some (.int 9 t)
def spNum : Sp := fun vs H Q _ => ∃ n : Int, vs = [.int n] ∧ Q (.bl true) H
def spCnt : Sp := fun vs H Q _ => ∃ n : Int, vs = [.int n] ∧ 0 ≤ n ∧ Q (.bl true) H
def spPri : Sp := fun vs H Q _ => ∃ n : Int, vs = [.int n] ∧ 0 ≤ n ∧ n ≤ 9 ∧ Q (.bl true) H
/-- names, in a list or a tuple -/
def spCnsS (K : PySem.W.Frag) : Sp := fun vs H Q _ => ∃ (p : Addr) (ws : List Str), vs = [.ref p] ∧ NI.Sq K H p (ws.map V.str) ∧ Nms ws ∧ Q .non H
def spCunS (K : PySem.W.Frag) : Sp := fun vs H Q _ => ∃ (p : Addr) (ws : List Str), vs = [.ref p] ∧ NI.Sq K H p (ws.map V.str) ∧ ws.length ≤ 1000 ∧ NoRep ws ∧ ∀ H', Same H H' → Q .non H'
/-- ascending(names), names not more than those of a short pool -/
def spAscM (K : PySem.W.Frag) : Sp := fun vs H Q _ => ∃ (p : Addr) (ws pool : List Str), vs = [.ref p] ∧ NI.Sq K H p (ws.map V.str) ∧ ws.length ≤ 1000 ∧ (∀ z ∈ ws, z ∈ pool) ∧ pool.length < 64 ∧
  ∀ (ys : List Str) q H', Asc ys ws → Same H H' → H q = none → H' q = some (.tup (ys.map V.str)) → Q (.ref q) H'
theorem Asc.few {ys ws pool : List Str} (h : Asc ys ws) (k : ∀ z ∈ ws, z ∈ pool) : ys.length ≤ pool.length := by
  rw [← many_of ys h.2.1]
  exact many_in ys pool fun x hx => k x ((h.2.2 x).mp hx)
section
variable {P : Program} {w : World} {K : PySem.W.Frag} {mg : Str → Option Value} {base : Heap}
theorem ok_num {f : Addr} {fd : FuncData} (F : Fun K "is_number" "is_number" sNum f fd) (T : TxtB mg) (N : TxtP mg) : FnOk P w K mg base CX0 1 f fd ["value"] spNum := by
  refine F.ok scNum (fun vs H Q E h => ?_) (fun cdv A outer s H vs Q E hr h => ?_)
  · obtain ⟨n, rfl, _⟩ := h
    rfl
  · obtain ⟨n, rfl, q⟩ := h
    refine ⟨_, pss_one (ps_ret (pe_and (pe_callB call_isi (by rfl) T.bisinstance (by decide +kernel) (pa_cons (pv 0) (pa_cons (pe_bltn (v := .ty "int") (by rfl) T.bint (by decide +kernel) rfl) pa_nil)))
      (pe_one (pe_not (pe_callB call_isi (by rfl) T.bisinstance (by decide +kernel) (pa_cons (pv 0) (pa_cons (pe_bltn (v := .ty "bool") (by rfl) N.bbool (by decide +kernel) rfl) pa_nil))))))), ?_⟩
    refine ⟨_, rfl, _, _, _, _, true, rfl, .ty "int", .base (.int _), kit_ty (by decide +kernel), true, rfl, ?_⟩
    exact iteT ⟨_, rfl, _, _, _, _, false, rfl, .ty "bool", .base (.int _), kit_ty (by decide +kernel), false, rfl, q⟩
theorem ok_cnt {f : Addr} {fd : FuncData} (F : Fun K "is_count" "is_count" sCnt f fd) (cNum : C8.Cal P w K mg base 1 "is_number" spNum []) : FnOk P w K mg base CX0 2 f fd ["value"] spCnt := by
  refine F.ok scCnt (fun vs H Q E h => ?_) (fun cdv A outer s H vs Q E hr h => ?_)
  · obtain ⟨n, rfl, _⟩ := h
    rfl
  · obtain ⟨n, rfl, h0, q⟩ := h
    refine ⟨_, pss_one (ps_ret (pe_and (C8.pe_c cNum hr (by decide) rfl (pa_cons (pv 0) pa_nil)) (pe_one (pe_cmpR op_ge (pv 0) pe_int (nomark _))))), ?_⟩
    refine ⟨_, rfl, n, rfl, true, rfl, iteT ⟨_, rfl, n, 0, rfl, rfl, ?_⟩⟩
    show Q (.bl (decide (0 ≤ n))) H
    rw [decide_eq_true h0]
    exact q
theorem ok_pri {f : Addr} {fd : FuncData} (F : Fun K "is_price" "is_price" sPri f fd) (N : TxtP mg) (cCnt : C8.Cal P w K mg base 2 "is_count" spCnt []) : FnOk P w K mg base CX0 3 f fd ["value"] spPri := by
  refine F.ok scPri (fun vs H Q E h => ?_) (fun cdv A outer s H vs Q E hr h => ?_)
  · obtain ⟨n, rfl, _⟩ := h
    rfl
  · obtain ⟨n, rfl, h0, h9, q⟩ := h
    obtain ⟨t9, e9⟩ := N.mp
    refine ⟨_, pss_one (ps_ret (pe_and (C8.pe_c cCnt hr (by decide) rfl (pa_cons (pv 0) pa_nil)) (pe_one (pe_cmpR op_le (pv 0) (pe_glob (v := .int 9) rfl e9 ⟨t9, rfl⟩) (nomark _))))), ?_⟩
    refine ⟨_, rfl, n, rfl, h0, true, rfl, iteT ⟨_, rfl, n, 9, rfl, rfl, ?_⟩⟩
    show Q (.bl (decide (n ≤ 9))) H
    rw [decide_eq_true h9]
    exact q
theorem ok_cnsS {f : Addr} {fd : FuncData} (F : Fun K "check_names" "check_names" sCns f fd) (cIs : C8.Cal P w K mg base 1 "is_name" (spIs K) []) : FnOk P w K mg base CX0 2 f fd ["values"] (spCnsS K) := by
  refine F.ok scCns (fun vs H Q E h => ?_) (fun cdv A outer s H vs Q E hr h => ?_)
  · obtain ⟨p, ws, rfl, _⟩ := h
    rfl
  · obtain ⟨p, ws, rfl, hS, hn, q⟩ := h
    refine ⟨_, (pss_one (ps_for PassesOwn.never rfl (NI.pi_either (pi_list (pv 0)) (pi_tup (pv 0))) (pg_name (i := 1) scCns.nd rfl (Or.inl rfl)) (pss_one (ps_if (pt_not (pt_val (C8.pe_c cIs hr (by decide) rfl (pa_cons (pv 1) pa_nil)))) pss_never pss_nil)))), ?_⟩
    refine NI.for_either (j := 0) rfl hS (fun i σ H' => H' = H ∧ ∃ y, σ = [some (.ref p), y]) ⟨rfl, _, rfl⟩ (fun i σ H2 ⟨e, _⟩ => by rw [e]; exact NI.same_refl) (fun i x σ H' hx ⟨e, y, eσ⟩ => ?_) (fun σ H' ⟨e, _⟩ => by rw [e]; exact q)
    subst e eσ
    rw [List.getElem?_map] at hx
    obtain ⟨z, hz, rfl⟩ := Option.map_eq_some_iff.mp hx
    obtain ⟨h1, h2⟩ := hn z (List.mem_of_getElem? hz)
    refine ⟨_, rfl, _, rfl, .inl ⟨z, rfl, h1, ?_⟩⟩
    rw [h2]
    exact ⟨_, rfl, iteF ⟨rfl, _, rfl⟩⟩
theorem ok_cunS {f : Addr} {fd : FuncData} (F : Fun K "check_unlike" "check_unlike" sCun f fd) : FnOk P w K mg base CX0 1 f fd ["names"] (spCunS K) := by
  refine F.ok scCun (fun vs H Q E h => ?_) (fun cdv A outer s H vs Q E hr h => ?_)
  · obtain ⟨p, ws, rfl, _⟩ := h
    rfl
  · obtain ⟨p, ws, rfl, hS, few, nr, q⟩ := h
    have hu := hu_of hr
    refine ⟨_, (pss_cons (ps_set (i := 1) scCun.nd rfl (Or.inl rfl) pe_dnewK) (pss_one (ps_for PassesOwn.never rfl (NI.pi_either (pi_list (pv 0)) (pi_tup (pv 0))) (pg_name (i := 2) scCun.nd rfl (Or.inl rfl))
      (pss_cons (ps_if (pt_cmp (pc_din hu (pv 2) (pv 1))) pss_never pss_nil)
        (pss_one (ps_dput hu (pv 1) (pv 2) pe_bl rfl)))))), ?_⟩
    intro d hd
    refine NI.for_either (j := 0) rfl hS (fun i σ H' => Same H H' ∧ (∃ kvs, H' d = some (.dK kvs) ∧ kvs.length ≤ i ∧ ∀ y : Str, (valV kvs (.inr y)).isSome = decide (y ∈ ws.take i)) ∧ ∃ y, σ = [some (.ref p), some (.ref d), y])
      ⟨Same.new hd, ⟨[], upd_same, Nat.le_refl _, fun y => by simp [valV]⟩, _, rfl⟩ (fun i σ H2 ⟨s, _⟩ => s) (fun i x σ H' hx ⟨s, ⟨kvs, g, l, k⟩, y, eσ⟩ => ?_) (fun σ H' ⟨s, _⟩ => q _ s)
    subst eσ
    rw [List.getElem?_map] at hx
    obtain ⟨z, hz, rfl⟩ := Option.map_eq_some_iff.mp hx
    have no := nr i z hz
    refine ⟨_, rfl, _, rfl, _, _, rfl, DGet.k (k := .inr z) g, ?_⟩
    rw [k z, decide_eq_false no]
    refine ⟨_, rfl, iteF ⟨_, rfl, _, rfl, _, _, rfl, DPut.k (k := .inr z) g (by have := (List.getElem?_eq_some_iff.mp hz).1; rw [sizeLine_eq]; omega), fun b o hb => ?_, ⟨_, upd_same, Nat.le_trans (length_putK kvs _ _) (by omega), fun y => ?_⟩, _, rfl⟩⟩
    · have ne : b ≠ d := fun e => by rw [e, hd] at hb; cases hb
      rw [upd_ne ne]
      exact s b o hb
    · rw [valV_put, List.take_add_one, hz]
      by_cases e : y = z
      · subst e
        rw [if_pos rfl]
        simp
      · rw [if_neg (fun q => e (Sum.inr.inj q)), k y]
        simp [e]
theorem ok_ascM {f : Addr} {fd : FuncData} (F : Fun K "ascending" "ascending" sAsc f fd) (T : TxtA mg) : FnOk P w K mg base CX0 1 f fd ["names"] (spAscM K) := by
  refine F.ok scAsc (fun vs H Q E h => ?_) (fun cdv A outer s H vs Q E hr h => ?_)
  · obtain ⟨p, ws, pool, rfl, _⟩ := h
    rfl
  · obtain ⟨p, ws, pool, rfl, hS, few, hp, h64, q⟩ := h
    refine ⟨_, (pss_one (ps_ret (pe_callTy call_tuple_of (by rfl) T.btuple (by decide +kernel) (pa_cons (pe_callB (cr_srtM rfl) (by rfl) T.bsorted (by decide +kernel) (pa_cons (pe_callTy (cr_setX rfl) (by rfl) T.bset (by decide +kernel) (pa_cons (pv 0) pa_nil)) pa_nil)) pa_nil)))), ?_⟩
    refine ⟨_, rfl, p, ws, rfl, hS, few, fun a ha => ⟨a, ws, rfl, upd_same, Nat.lt_of_le_of_lt (many_in ws pool hp) h64, fun ys b srt nd mm hb => ?_⟩⟩
    refine ⟨b, _, rfl, .inl ⟨SqL.of upd_same, fun l hl => ?_⟩⟩
    have s1 : Same H (upd H a (SetX w a ws)) := Same.new ha
    have s2 := s1.trans (Same.new (o := .lst (ys.map V.str)) hb)
    exact q ys l _ ⟨srt, nd, mm⟩ (s2.trans (Same.new hl)) (sameNone s2 hl) upd_same
end
end K33

set_option Elab.async false
set_option linter.all false
set_option maxRecDepth 100000
set_option maxHeartbeats 4000000
/-! The parts of a program: what the checks ask of them. -/
namespace K33
open PySem L2 NX NU
open PyProof.Rows (sortedS)
abbrev sCp : Stmt := top 59
abbrev sCz : Stmt := top 60
theorem scCp : FnScope ["parts"] ["parts"] (defScope sCp) := ⟨rfl, rfl, rfl, by decide +kernel, rfl, by decide +kernel, by decide +kernel⟩
theorem scCz : FnScope ["parts", "outside", "part", "size", "most"] ["parts"] (defScope sCz) := ⟨rfl, rfl, rfl, by decide +kernel, rfl, by decide +kernel, by decide +kernel⟩
abbrev Act := Option Str × List Str
/-- deeds at the addresses xs -/
def AllAt (d : D3) (H : Hp) (xs : List Addr) (as : List Act) : Prop := xs.length = as.length ∧ ∀ (i : Nat) x a, xs[i]? = some x → as[i]? = some a → ∃ ys, IsD d H x a.1 a.2 ys
theorem AllAt.same {d : D3} {H H' : Hp} {xs : List Addr} {as : List Act} (s : Same H H') (h : AllAt d H xs as) : AllAt d H' xs as := ⟨h.1, fun i x a e1 e2 => (h.2 i x a e1 e2).imp fun _ q => q.same s⟩
def Deeds (K : PySem.W.Frag) (d : D3) (H : Hp) (p : Addr) (as : List Act) : Prop := ∃ xs : List Addr, SqT K H p (xs.map V.ref) ∧ AllAt d H xs as
theorem Deeds.same {K : PySem.W.Frag} {d : D3} {H H' : Hp} {p : Addr} {as : List Act} (s : Same H H') (h : Deeds K d H p as) : Deeds K d H' p as := h.imp fun _ q => ⟨sqT_same s q.1, q.2.same s⟩
def PartA (K : PySem.W.Frag) (d : D3) (H : Hp) (v : V) : Option (List Act) → Prop
  | none => v = .non
  | some as => ∃ p, v = .ref p ∧ Deeds K d H p as
theorem PartA.same {K : PySem.W.Frag} {d : D3} {H H' : Hp} {v : V} (s : Same H H') : ∀ {o : Option (List Act)}, PartA K d H v o → PartA K d H' v o
  | none, h => h
  | some _, ⟨p, e, h⟩ => ⟨p, e, h.same s⟩
/-- the parts of a program -/
structure Prg where
  a : List Act
  l : Option (List Act)
  b : List Act
  s : Option (List Act)
  h : List Act
def Prg.at (g : Prg) : Nat → Option (List Act)
  | 0 => some g.a
  | 1 => g.l
  | 2 => some g.b
  | 3 => g.s
  | _ => some g.h
def partN : List Str := ["ahead", "loop", "between", "second", "behind"]
def kvsP (v0 v1 v2 v3 v4 : V) : List (Key × V) := [(.inr "ahead", v0), (.inr "loop", v1), (.inr "between", v2), (.inr "second", v3), (.inr "behind", v4)]
/-- the dict of parts at P -/
def PartsD (K : PySem.W.Frag) (d : D3) (H : Hp) (P : Addr) (g : Prg) : Prop := ∃ v0 v1 v2 v3 v4, H P = some (.dK (kvsP v0 v1 v2 v3 v4)) ∧ PartA K d H v0 (some g.a) ∧ PartA K d H v1 g.l ∧ PartA K d H v2 (some g.b) ∧ PartA K d H v3 g.s ∧ PartA K d H v4 (some g.h)
theorem PartsD.same {K : PySem.W.Frag} {d : D3} {H H' : Hp} {P : Addr} {g : Prg} (s : Same H H') (h : PartsD K d H P g) : PartsD K d H' P g := by
  obtain ⟨v0, v1, v2, v3, v4, e, h0, h1, h2, h3, h4⟩ := h
  exact ⟨v0, v1, v2, v3, v4, s _ _ e, h0.same s, h1.same s, h2.same s, h3.same s, h4.same s⟩
theorem PartsD.get {K : PySem.W.Frag} {d : D3} {H : Hp} {P : Addr} {g : Prg} (h : PartsD K d H P g) (i : Nat) {z : Str} (hz : partN[i]? = some z) : ∃ v, DGet H P (.str z) (some v) ∧ PartA K d H v (g.at i) := by
  obtain ⟨v0, v1, v2, v3, v4, e, h0, h1, h2, h3, h4⟩ := h
  match i, hz with
  | 0, hz => cases hz; exact ⟨v0, DGet.k (k := .inr "ahead") e, h0⟩
  | 1, hz => cases hz; exact ⟨v1, DGet.k (k := .inr "loop") e, h1⟩
  | 2, hz => cases hz; exact ⟨v2, DGet.k (k := .inr "between") e, h2⟩
  | 3, hz => cases hz; exact ⟨v3, DGet.k (k := .inr "second") e, h3⟩
  | 4, hz => cases hz; exact ⟨v4, DGet.k (k := .inr "behind") e, h4⟩
  | n + 5, hz => cases hz
/-- parts[..] or () -/
theorem PartA.or {K : PySem.W.Frag} {d : D3} {H : Hp} {v : V} {σ : L2.St} {Q : VK} {o : Option (List Act)} (h : PartA K d H v o) (q : ∀ p H', Same H H' → Deeds K d H' p (o.getD []) → Q (.ref p) H') : ∃ k, TruV K v H k ∧ if k = true then Q v H else tTup tNil σ H Q := by
  have emp : tTup tNil σ H fun x H' => (o.getD [] = [] → Q x H') := ⟨by show 0 ≤ sizeLine; decide, fun t ht e => by
    refine q t _ (Same.new ht) ?_
    rw [e]
    exact ⟨[], SqT.of upd_same, rfl, fun i x a h1 => by cases h1⟩⟩
  cases o with
  | none =>
    obtain rfl : v = .non := h
    exact ⟨false, rfl, iteF ⟨emp.1, fun t ht => emp.2 t ht rfl⟩⟩
  | some as =>
    obtain ⟨p, rfl, xs, e, hx⟩ := h
    refine ⟨!(xs.map V.ref).isEmpty, .inr (.inl ⟨_, e, rfl⟩), ?_⟩
    cases xs with
    | nil =>
      have ea : as = [] := List.length_eq_zero_iff.mp hx.1.symm
      exact iteF ⟨emp.1, fun t ht => emp.2 t ht ea⟩
    | cons x r => exact iteT (q p H (Same.refl H) ⟨_, e, hx⟩)
/-- what the checks ask of the parts -/
structure Prg.Shape (g : Prg) : Prop where
  l : g.l = none → g.b = [] ∧ g.s = none ∧ g.h = []
  s : g.s = none → g.b = []
structure Prg.Sizes (g : Prg) : Prop where
  a : g.a.length ≤ 200
  l : (g.l.getD []).length ≤ 24
  b : g.b.length ≤ 24
  s : (g.s.getD []).length ≤ 24
  h : g.h.length ≤ 24
  all : g.a.length + g.b.length + g.h.length ≤ 200
def spCp (K : PySem.W.Frag) (d : D3) : Sp := fun vs H Q _ => ∃ (P : Addr) (g : Prg), vs = [.ref P] ∧ PartsD K d H P g ∧ g.Shape ∧ Q .non H
def spCz (K : PySem.W.Frag) (d : D3) : Sp := fun vs H Q _ => ∃ (P : Addr) (g : Prg), vs = [.ref P] ∧ PartsD K d H P g ∧ g.Sizes ∧ ∀ H', Same H H' → Q .non H'
/-- the module's constants -/
structure TxtQ (mg : Str → Option Value) (K : PySem.W.Frag) : Prop where
  parts : ∃ a, mg "PARTS" = some (.ref a) ∧ ∀ H : Hp, SqT K H a (partN.map V.str)
  loops : ∃ a, mg "LOOPS" = some (.ref a) ∧ ∀ H : Hp, SqT K H a (([ "loop", "second" ] : List Str).map V.str)
  ma : ∃ t, mg "MOST_AHEAD" = some (.int 200 t)
  mi : ∃ t, mg "MOST_IN_PART" = some (.int 24 t)
  mn : ∃ t, mg "MOST_NAMES" = some (.int 6 t)
theorem PartA.isNon {K : PySem.W.Frag} {d : D3} {H : Hp} {v : V} {o : Option (List Act)} (h : PartA K d H v o) : decide (v = V.non) = o.isNone := by
  cases o with
  | none => rw [show v = .non from h]; rfl
  | some as =>
    obtain ⟨p, rfl, _⟩ := h
    exact decide_eq_false (fun e => nomatch e)
theorem Deeds.tru {K : PySem.W.Frag} {d : D3} {H : Hp} {p : Addr} {as : List Act} (h : Deeds K d H p as) : TruV K (.ref p) H (!as.isEmpty) := by
  obtain ⟨xs, e, hx⟩ := h
  refine .inr (.inl ⟨_, e, ?_⟩)
  cases xs with
  | nil =>
    have ea : as = [] := List.length_eq_zero_iff.mp hx.1.symm
    rw [ea]
    rfl
  | cons x r =>
    cases as with
    | nil => cases hx.1
    | cons a q => rfl
section
variable {P : Program} {w : World} {K : PySem.W.Frag} {mg : Str → Option Value} {base : Heap}
theorem ok_cp {d : D3} {f : Addr} {fd : FuncData} (F : Fun K "check_parts" "check_parts" sCp f fd) : FnOk P w K mg base CX0 1 f fd ["parts"] (spCp K d) := by
  refine F.ok scCp (fun vs H Q E h => ?_) (fun cdv A outer s H vs Q E hr h => ?_)
  · obtain ⟨p, g, rfl, _⟩ := h
    rfl
  · obtain ⟨p, g, rfl, hP, sh, q⟩ := h
    have hu := hu_of hr
    refine ⟨_, (pss_one (ps_if (pt_cmpR op_isN (pe_dget hu (pv 0) pe_str (fun _ _ => rfl)) pe_non (nomark _))
      (pss_cons (ps_if (pt_truth (pe_dget hu (pv 0) pe_str (fun _ _ => rfl)) (fun _ => rfl)) pss_never pss_nil)
      (pss_cons (ps_if (pt_cmpR op_notN (pe_dget hu (pv 0) pe_str (fun _ _ => rfl)) pe_non (nomark _)) pss_never pss_nil)
      (pss_one (ps_if (pt_truth (pe_dget hu (pv 0) pe_str (fun _ _ => rfl)) (fun _ => rfl)) pss_never pss_nil))))
      (pss_one (ps_if (PW.pt (pw_and (pt_truth (pe_dget hu (pv 0) pe_str (fun _ _ => rfl)) (fun _ => rfl)) (pw_and1 (pt_cmpR op_isN (pe_dget hu (pv 0) pe_str (fun _ _ => rfl)) pe_non (nomark _))))) pss_never pss_nil)))), ?_⟩
    obtain ⟨v1, g1, a1⟩ := hP.get 1 (z := "loop") rfl
    obtain ⟨v2, g2, a2⟩ := hP.get 2 (z := "between") rfl
    obtain ⟨v3, g3, a3⟩ := hP.get 3 (z := "second") rfl
    obtain ⟨v4, g4, a4⟩ := hP.get 4 (z := "behind") rfl
    have i1 := a1.isNon
    have i3 := a3.isNon
    obtain ⟨p2, rfl, d2⟩ := a2
    obtain ⟨p4, rfl, d4⟩ := a4
    have t2 := d2.tru (K := K)
    have t4 := d4.tru (K := K)
    refine ⟨_, rfl, p, v1, rfl, g1, rfl, _, rfl, ?_⟩
    rw [i1]
    have e1 : (g.at 1) = g.l := rfl
    have e3 : (g.at 3) = g.s := rfl
    rw [e1]
    rw [e3] at i3
    cases hl : g.l with
    | none =>
      obtain ⟨b0, s0, h0⟩ := sh.l hl
      rw [b0] at t2
      rw [h0] at t4
      rw [s0] at i3
      refine iteT ⟨_, rfl, p, _, rfl, g2, false, t2, iteF ⟨_, rfl, p, _, rfl, g3, rfl, _, rfl, ?_⟩⟩
      rw [i3]
      exact iteF ⟨_, rfl, p, _, rfl, g4, false, t4, iteF q⟩
    | some as =>
      refine iteF ⟨_, rfl, p, _, rfl, g2, _, t2, ?_⟩
      cases hb : g.b with
      | nil => exact iteF (iteF q)
      | cons x r =>
        refine iteT ⟨_, rfl, p, _, rfl, g3, rfl, _, rfl, ?_⟩
        rw [i3]
        cases hs : g.s with
        | none => rw [sh.s hs] at hb; cases hb
        | some q2 => exact iteF q
def Prg.outs (g : Prg) : Nat → Nat
  | 0 => 0
  | 1 => g.a.length
  | 2 => g.a.length
  | 3 => g.a.length + g.b.length
  | 4 => g.a.length + g.b.length
  | _ => g.a.length + g.b.length + g.h.length
theorem partF {i : Nat} {z : Str} (h : partN[i]? = some z) : i < 5 ∧ decide (V.str z = V.str (Str.ofString "ahead")) = decide (i = 0) := by
  match i, h with
  | 0, h => cases h; decide +kernel
  | 1, h => cases h; decide +kernel
  | 2, h => cases h; decide +kernel
  | 3, h => cases h; decide +kernel
  | 4, h => cases h; decide +kernel
  | n + 5, h => cases h
theorem ok_cz {d : D3} {f : Addr} {fd : FuncData} (F : Fun K "check_sizes" "check_sizes" sCz f fd) (T : TxtB mg) (TQ : TxtQ mg K) : FnOk P w K mg base CX0 1 f fd ["parts"] (spCz K d) := by
  refine F.ok scCz (fun vs H Q E h => ?_) (fun cdv A outer s H vs Q E hr h => ?_)
  · obtain ⟨p, g, rfl, _⟩ := h
    rfl
  · obtain ⟨p, g, rfl, hP, sz, q⟩ := h
    have hu := hu_of hr
    obtain ⟨aP, gP, sP⟩ := TQ.parts
    obtain ⟨aL, gL, sL⟩ := TQ.loops
    obtain ⟨t1, e1⟩ := TQ.ma
    obtain ⟨t2, e2⟩ := TQ.mi
    refine ⟨_, (pss_cons (ps_set (i := 1) scCz.nd rfl (Or.inl rfl) pe_int)
      (pss_cons (ps_for PassesOwn.never rfl (pi_tup (C8.pe_gc (v := .ref aP) rfl ⟨_, gP, rfl⟩)) (pg_name (i := 2) scCz.nd rfl (Or.inl rfl))
        (pss_cons (ps_set (i := 3) scCz.nd rfl (Or.inl rfl) (pe_callB call_len_seq (by rfl) T.blen (by decide +kernel) (pa_cons (pe_orT (pe_dget hu (pv 0) (pv 2) (fun _ _ => rfl)) (pe_one (pe_tup pa_nil))) pa_nil)))
        (pss_cons (ps_set (i := 4) scCz.nd rfl (Or.inl rfl) (pe_ifExp (pt_cmpR op_eq (pv 2) pe_str (nomark _)) (pe_glob (v := .int 200) rfl e1 ⟨_, rfl⟩) (pe_glob (v := .int 24) rfl e2 ⟨_, rfl⟩)))
        (pss_cons (ps_if (pt_cmpR op_gt (pv 3) (pv 4) (nomark _)) pss_never pss_nil)
        (pss_one (ps_if (pt_cmpR op_notIn_seq (pv 2) (C8.pe_gc (v := .ref aL) rfl ⟨_, gL, rfl⟩) rfl) (pss_one (ps_set (i := 1) scCz.nd rfl (Or.inl rfl) (pe_op op_add (pv 1) (pv 3)))) pss_nil))))))
      (pss_one (ps_if (pt_cmpR op_gt (pv 1) (pe_glob (v := .int 200) rfl e1 ⟨_, rfl⟩) (nomark _)) pss_never pss_nil)))), ?_⟩
    refine ⟨aP, rfl, ⟨_, sP _⟩, for_tup (xs := partN.map V.str) (fun i σ H' => Same H H' ∧ ∃ x2 x3 x4, σ = [some (.ref p), some (.int (g.outs i : Nat)), x2, x3, x4]) ⟨Same.refl H, _, _, _, rfl⟩ (fun i σ H' _ _ => sP H') (fun i x σ H' hx ⟨s1, x2, x3, x4, eσ⟩ => ?_) (fun σ H' ⟨s1, x2, x3, x4, eσ⟩ => ?_)⟩
    · subst eσ
      rw [List.getElem?_map] at hx
      obtain ⟨z, hz, rfl⟩ := Option.map_eq_some_iff.mp hx
      obtain ⟨v, hg, ha⟩ := (hP.same s1).get i hz
      obtain ⟨i5, ez⟩ := partF hz
      refine ⟨_, rfl, _, rfl, p, v, rfl, hg, ha.or fun p2 H2 s2 hd => ?_⟩
      obtain ⟨xs, hx2, hal⟩ := hd
      refine ⟨p2, _, rfl, .inr hx2, ?_⟩
      have lz := hal.1
      have mx : ((g.at i).getD []).length ≤ if i = 0 then 200 else 24 := by
        have : i = 0 ∨ i = 1 ∨ i = 2 ∨ i = 3 ∨ i = 4 := by omega
        rcases this with rfl | rfl | rfl | rfl | rfl
        · exact sz.a
        · exact sz.l
        · exact sz.b
        · exact sz.s
        · exact sz.h
      have inl : inV (V.str z) (([ "loop", "second" ] : List Str).map V.str) = decide (i = 1 ∨ i = 3) := by
        have : i = 0 ∨ i = 1 ∨ i = 2 ∨ i = 3 ∨ i = 4 := by omega
        rcases this with rfl | rfl | rfl | rfl | rfl <;> cases hz <;> decide +kernel
      have ou : (g.outs (i + 1) : Int) = g.outs i + if i = 1 ∨ i = 3 then 0 else (((g.at i).getD []).length : Int) := by
        have : i = 0 ∨ i = 1 ∨ i = 2 ∨ i = 3 ∨ i = 4 := by omega
        rcases this with rfl | rfl | rfl | rfl | rfl <;> simp [Prg.outs, Prg.at]
      refine ⟨_, rfl, rfl, _, rfl, ?_⟩
      rw [ez]
      refine ite2 (fun h0 => ?_) (fun h0 => ?_)
      · rw [if_pos (of_decide_eq_true h0)] at mx
        refine ⟨_, rfl, _, rfl, _, _, rfl, rfl, _, rfl, ite2 (fun h => ?_) (fun _ => ?_)⟩
        · have h := of_decide_eq_true h
          rw [List.length_map] at h
          exfalso
          omega
        · refine ⟨_, rfl, aL, _, rfl, .inr (sL _), rfl, by decide +kernel, _, rfl, ?_⟩
          rw [if_pos rfl, inl]
          by_cases hL : i = 1 ∨ i = 3
          · rw [decide_eq_true hL]
            rw [if_pos hL, Int.add_zero] at ou
            exact iteF ⟨s1.trans s2, _, _, _, by rw [ou]; rfl⟩
          · rw [decide_eq_false hL]
            rw [if_neg hL] at ou
            rw [← lz, ← List.length_map (f := V.ref)] at ou
            exact iteT ⟨_, rfl, _, rfl, _, _, rfl, rfl, s1.trans s2, _, _, _, by rw [ou]; rfl⟩
      · rw [if_neg (fun e => h0 (decide_eq_true e))] at mx
        refine ⟨_, rfl, _, rfl, _, _, rfl, rfl, _, rfl, ite2 (fun h => ?_) (fun _ => ?_)⟩
        · have h := of_decide_eq_true h
          rw [List.length_map] at h
          exfalso
          omega
        · refine ⟨_, rfl, aL, _, rfl, .inr (sL _), rfl, by decide +kernel, _, rfl, ?_⟩
          rw [if_pos rfl, inl]
          by_cases hL : i = 1 ∨ i = 3
          · rw [decide_eq_true hL]
            rw [if_pos hL, Int.add_zero] at ou
            exact iteF ⟨s1.trans s2, _, _, _, by rw [ou]; rfl⟩
          · rw [decide_eq_false hL]
            rw [if_neg hL] at ou
            rw [← lz, ← List.length_map (f := V.ref)] at ou
            exact iteT ⟨_, rfl, _, rfl, _, _, rfl, rfl, s1.trans s2, _, _, _, by rw [ou]; rfl⟩
    · subst eσ
      refine ⟨_, rfl, _, 200, rfl, rfl, _, rfl, ite2 (fun h => ?_) (fun _ => q _ s1)⟩
      have h := of_decide_eq_true h
      have e : g.outs (partN.map V.str).length = g.a.length + g.b.length + g.h.length := rfl
      rw [e] at h
      have := sz.all
      exfalso
      omega
end
end K33

set_option Elab.async false
set_option linter.all false
set_option maxRecDepth 100000
set_option maxHeartbeats 4000000
/-! The names of a program: what the checks ask of them. -/
namespace K33
open PySem L2 NX NU
open PyProof.Rows (sortedS)
abbrev sCt : Stmt := top 61
abbrev sAn : Stmt := top 62
abbrev sCd : Stmt := top 64
theorem scCt : FnScope ["given", "again", "results", "again_names", "name"] ["given", "again", "results"] (defScope sCt) := ⟨rfl, rfl, rfl, by decide +kernel, rfl, by decide +kernel, by decide +kernel⟩
theorem scAn : FnScope ["parts", "given", "again", "results", "names", "part", "deed"] ["parts", "given", "again", "results"] (defScope sAn) := ⟨rfl, rfl, rfl, by decide +kernel, rfl, by decide +kernel, by decide +kernel⟩
theorem scCd : FnScope ["deed", "place", "known", "again", "name"] ["deed", "place", "known", "again"] (defScope sCd) := ⟨rfl, rfl, rfl, by decide +kernel, rfl, by decide +kernel, by decide +kernel⟩
/-- the dict of names to be made again, with their prices -/
def agK (l : List (Str × Int)) : List (Key × V) := l.map fun q => (Sum.inr q.1, V.int q.2)
def AgD (H : Hp) (a : Addr) (l : List (Str × Int)) : Prop := H a = some (.dK (agK l))
structure AgOk (l : List (Str × Int)) : Prop where
  nm_ : ∀ q ∈ l, nm q.1 = true
  lo : ∀ q ∈ l, 0 ≤ q.2
  hi : ∀ q ∈ l, q.2 ≤ 9
  few : l.length < 60
theorem agKeys (l : List (Str × Int)) : (agK l).map (·.1) = (l.map (·.1)).map Sum.inr := by
  unfold agK
  rw [List.map_map, List.map_map]
  rfl
theorem agIn : ∀ {l : List (Str × Int)} {z : Str}, z ∈ l.map (·.1) → ∃ n, valV (agK l) (.inr z) = some (.int n) ∧ (z, n) ∈ l
  | [], z, h => nomatch h
  | q :: r, z, h => by
    by_cases e : q.1 = z
    · refine ⟨q.2, ?_, ?_⟩
      · show valV ((Sum.inr q.1, V.int q.2) :: agK r) (.inr z) = _
        rw [valV_pos (show (Sum.inr q.1 : Key) = .inr z by rw [e])]
      · rw [← e]
        exact List.mem_cons_self
    · rw [List.map_cons, List.mem_cons] at h
      obtain ⟨n, h1, h2⟩ := agIn (h.resolve_left fun x => e x.symm)
      refine ⟨n, ?_, List.mem_cons_of_mem _ h2⟩
      show valV ((Sum.inr q.1, V.int q.2) :: agK r) (.inr z) = _
      rw [valV_neg (show ¬ (Sum.inr q.1 : Key) = .inr z from fun x => e (Sum.inr.inj x))]
      exact h1
theorem agOut : ∀ {l : List (Str × Int)} {z : Str}, z ∉ l.map (·.1) → valV (agK l) (.inr z) = none
  | [], z, h => rfl
  | q :: r, z, h => by
    rw [List.map_cons, List.mem_cons] at h
    show valV ((Sum.inr q.1, V.int q.2) :: agK r) (.inr z) = _
    rw [valV_neg (show ¬ (Sum.inr q.1 : Key) = .inr z from fun x => h (.inl (Sum.inr.inj x).symm))]
    exact agOut fun x => h (.inr x)
/-- names once each, as they are told -/
structure Tld (us : List Str) : Prop where
  nm_ : ∀ z ∈ us, nm z = true
  nr : us.Nodup
  few : us.length < 60
theorem Tld.nms {us : List Str} (h : Tld us) : Nms us := fun z hz => ⟨Nat.le_trans (nm_le (h.nm_ z hz)).2 (by decide), h.nm_ z hz⟩
def spCt (K : PySem.W.Frag) : Sp := fun vs H Q _ => ∃ (gv ag rs : Addr) (us ws : List Str) (l : List (Str × Int)), vs = [.ref gv, .ref ag, .ref rs] ∧ NI.Sq K H gv (us.map V.str) ∧ AgD H ag l ∧ NI.Sq K H rs (ws.map V.str) ∧ Tld us ∧ AgOk l ∧ Tld ws ∧ ∀ H', Same H H' → Q .non H'
def spCd (K : PySem.W.Frag) (d : D3) : Sp := fun vs H Q _ => ∃ (x kn ag : Addr) (v : V) (mk : Option Str) (us ys ws : List Str) (l : List (Str × Int)), vs = [.ref x, v, .ref kn, .ref ag] ∧ IsD d H x mk us ys ∧ SqL K H kn (ws.map V.str) ∧ AgD H ag l ∧ (∀ z ∈ us, z ∈ ws) ∧ (∀ m, mk = some m → m ∉ l.map (·.1)) ∧ Q .non H
theorem inV_str (z : Str) (ws : List Str) : inV (V.str z) (ws.map V.str) = decide (z ∈ ws) := by
  unfold inV
  rw [Bool.eq_iff_iff, decide_eq_true_eq, List.any_eq_true]
  constructor
  · rintro ⟨x, hx, e⟩
    obtain ⟨y, hy, rfl⟩ := List.mem_map.mp hx
    have e : (y == z) = true := e
    rw [← beq_iff_eq.mp e]
    exact hy
  · intro h
    exact ⟨_, List.mem_map_of_mem h, beq_self_eq_true z⟩
theorem flat_strs (ws : List Str) : (ws.map V.str).all flatV = true := by
  rw [List.all_eq_true]
  intro x hx
  obtain ⟨y, hy, rfl⟩ := List.mem_map.mp hx
  rfl
section
variable {P : Program} {w : World} {K : PySem.W.Frag} {mg : Str → Option Value} {base : Heap}
theorem ok_ct {f : Addr} {fd : FuncData} (F : Fun K "check_told_names" "check_told_names" sCt f fd) (T : TxtB mg) (TA : TxtA mg) (cCns : C8.Cal P w K mg base 2 "check_names" (spCnsS K) []) (cCun : C8.Cal P w K mg base 1 "check_unlike" (spCunS K) []) (cPri : C8.Cal P w K mg base 3 "is_price" spPri []) :
    FnOk P w K mg base CX0 4 f fd ["given", "again", "results"] (spCt K) := by
  refine F.ok scCt (fun vs H Q E h => ?_) (fun cdv A outer s H vs Q E hr h => ?_)
  · obtain ⟨a, b, c, us, ws, l, rfl, _⟩ := h
    rfl
  · obtain ⟨gv, ag, rs, us, ws, l, rfl, h1, h2, h3, o1, o2, o3, q⟩ := h
    have hu := hu_of hr
    refine ⟨_, (pss_cons (ps_expr (C8.pe_c cCns hr (by decide) rfl (pa_cons (pv 0) pa_nil)))
      (pss_cons (ps_expr (C8.pe_c cCun hr (by decide) rfl (pa_cons (pv 0) pa_nil)))
      (pss_cons (ps_set (i := 3) scCt.nd rfl (Or.inl rfl) (pe_callBK (NSK.cr_sortedKS rfl) (by rfl) TA.bsorted (by decide +kernel) (pa_cons (pv 1) pa_nil) (pk_cons (pe_bltn (v := .ty "str") (by rfl) T.bstr (by decide +kernel) rfl) pk_nil)))
      (pss_cons (ps_expr (C8.pe_c cCns hr (by decide) rfl (pa_cons (pv 3) pa_nil)))
      (pss_cons (ps_for PassesOwn.never rfl (pi_list (pv 3)) (pg_name (i := 4) scCt.nd rfl (Or.inl rfl)) (pss_one (ps_if (pt_not (pt_val (C8.pe_c cPri hr (by decide) rfl (pa_cons (pe_dget hu (pv 1) (pv 4) (fun _ _ => rfl)) pa_nil)))) pss_never pss_nil)))
      (pss_cons (ps_expr (C8.pe_c cCns hr (by decide) rfl (pa_cons (pv 2) pa_nil)))
      (pss_one (ps_expr (C8.pe_c cCun hr (by decide) rfl (pa_cons (pv 2) pa_nil)))))))))), ?_⟩
    refine ⟨_, rfl, gv, us, rfl, h1, o1.nms, ?_⟩
    refine ⟨_, rfl, gv, us, rfl, h1, by have := o1.few; omega, noRep_of o1.nr, fun H1 s1 => ?_⟩
    refine ⟨_, rfl, ag, l.map (·.1), rfl, rfl, .inr (.inr ⟨_, .inl (s1 _ _ h2), agKeys l⟩), by rw [List.length_map]; have := o2.few; omega, fun ys p pm srt hp => ?_⟩
    have s2 : Same H1 (upd H1 p (.lst (ys.map V.str))) := Same.new hp
    have inl : ∀ z ∈ ys, z ∈ l.map (·.1) := fun z hz => pm.mem_iff.mp hz
    have ny : Nms ys := fun z hz => by
      obtain ⟨q, hq, rfl⟩ := List.mem_map.mp (inl z hz)
      have := o2.nm_ q hq
      exact ⟨Nat.le_trans (nm_le this).2 (by decide), this⟩
    refine ⟨_, rfl, p, ys, rfl, .inl (SqL.of upd_same), ny, ?_⟩
    refine ⟨_, rfl, p, rfl, ⟨_, SqL.of upd_same⟩, ?_⟩
    refine for_list (xs := ys.map V.str) (fun i σ H' => H' = upd H1 p (.lst (ys.map V.str)) ∧ ∃ y, σ = [some (.ref gv), some (.ref ag), some (.ref rs), some (.ref p), y]) ⟨rfl, _, rfl⟩ (fun i σ H' _ ⟨e, _⟩ => by rw [e]; exact SqL.of upd_same) (fun i x σ H' hx ⟨e, y, eσ⟩ => ?_) (fun σ H' ⟨e, y, eσ⟩ => ?_)
    · subst e eσ
      rw [List.getElem?_map] at hx
      obtain ⟨z, hz, rfl⟩ := Option.map_eq_some_iff.mp hx
      obtain ⟨n, e1, e2⟩ := agIn (inl z (List.mem_of_getElem? hz))
      refine ⟨_, rfl, _, rfl, ag, .int n, rfl, ?_, n, rfl, o2.lo _ e2, o2.hi _ e2, true, rfl, iteF ⟨rfl, _, rfl⟩⟩
      rw [← e1]
      exact DGet.k (k := .inr z) (s2 _ _ (s1 _ _ h2))
    · subst e eσ
      refine ⟨_, rfl, rs, ws, rfl, (h3.same s1).same s2, o3.nms, ?_⟩
      exact ⟨_, rfl, rs, ws, rfl, (h3.same s1).same s2, by have := o3.few; omega, noRep_of o3.nr, fun H2 s3 => q H2 ((s1.trans s2).trans s3)⟩
theorem ok_cd {d : D3} {f : Addr} {fd : FuncData} (F : Fun K "check_deed" "check_deed" sCd f fd) (k : D3C K d) : FnOk P w K mg base CX0 1 f fd ["deed", "place", "known", "again"] (spCd K d) := by
  refine F.ok scCd (fun vs H Q E h => ?_) (fun cdv A outer s H vs Q E hr h => ?_)
  · obtain ⟨x, kn, ag, v, mk, us, ys, ws, l, rfl, _⟩ := h
    rfl
  · obtain ⟨x, kn, ag, v, mk, us, ys, ws, l, rfl, hD, hk, ha, hu1, hm, q⟩ := h
    have hu := hu_of hr
    have kc := k.at_ mk us
    obtain ⟨dx, p, r, g1, g2, g3⟩ := hD.dd
    refine ⟨_, (pss_cons (ps_for PassesOwn.never rfl (pi_tup (pe_fld (pv 0) rfl)) (pg_name (i := 4) scCd.nd rfl (Or.inl rfl)) (pss_one (ps_if (pt_cmpR op_notIn_seq (pv 4) (pv 2) rfl) pss_never pss_nil)))
      (pss_one (ps_if (pt_cmp (pc_dinN hu (pe_fld (pv 0) rfl) (pv 3))) pss_never pss_nil))), ?_⟩
    refine ⟨_, rfl, x, _, dx, _, _, rfl, g1, kc.cl, kc.nu, rfl, p, rfl, ⟨_, SqT.of g2⟩, ?_⟩
    refine for_tup (xs := us.map V.str) (fun i σ H' => H' = H ∧ ∃ y, σ = [some (.ref x), some v, some (.ref kn), some (.ref ag), y]) ⟨rfl, _, rfl⟩ (fun i σ H' _ ⟨e, _⟩ => by rw [e]; exact SqT.of g2) (fun i y σ H' hx ⟨e, y0, eσ⟩ => ?_) (fun σ H' ⟨e, y0, eσ⟩ => ?_)
    · subst e eσ
      rw [List.getElem?_map] at hx
      obtain ⟨z, hz, rfl⟩ := Option.map_eq_some_iff.mp hx
      refine ⟨_, rfl, _, rfl, kn, _, rfl, .inl hk, rfl, flat_strs ws, _, rfl, ?_⟩
      rw [if_pos rfl, inV_str, decide_eq_true (hu1 z (List.mem_of_getElem? hz))]
      exact iteF ⟨rfl, _, rfl⟩
    · subst e eσ
      refine ⟨_, rfl, x, _, dx, _, _, rfl, g1, kc.cl, kc.nk, rfl, _, rfl, ?_⟩
      cases mk with
      | none => exact .inr ⟨ag, _, rfl, rfl, .inl ha, false, rfl, iteF q⟩
      | some m =>
        refine .inl ⟨ag, none, rfl, ?_, false, rfl, iteF q⟩
        rw [← agOut (hm m rfl)]
        exact DGet.k (k := .inr m) ha
end
end K33

set_option Elab.async false
set_option linter.all false
set_option maxRecDepth 100000
set_option maxHeartbeats 4000000
/-! all_names, check_values. -/
namespace K33
open PySem L2 NX NU
open PyProof.Rows (sortedS)
abbrev sCv : Stmt := top 63
theorem scCv : FnScope ["parts", "given", "again", "results", "lasting", "part", "known", "index", "deed", "name"] ["parts", "given", "again", "results"] (defScope sCv) := ⟨rfl, rfl, rfl, by decide +kernel, rfl, by decide +kernel, by decide +kernel⟩
/-- the names of a deed -/
def Act.ns (a : Act) : List Str := a.1.toList ++ a.2
def actsN (as : List Act) : List Str := (as.map Act.ns).flatten
def Prg.upto (g : Prg) : Nat → List Act
  | 0 => []
  | n + 1 => g.upto n ++ (g.at n).getD []
def Prg.acts (g : Prg) : List Act := g.upto 5
theorem actsN_app (a b : List Act) : actsN (a ++ b) = actsN a ++ actsN b := by
  unfold actsN
  rw [List.map_append, List.flatten_append]
theorem IsD.names {d : D3} {H : Hp} {x : Addr} {mk : Option Str} {us ys : List Str} (h : IsD d H x mk us ys) : ys.length ≤ 4 := by
  have := h.asc.few (pool := mk.toList ++ us) fun z hz => hz
  rw [List.length_append] at this
  have := h.few
  have : mk.toList.length ≤ 1 := by cases mk <;> simp
  omega
/-- all but lists stays as it was -/
def KL (H H' : Hp) : Prop := ∀ b o, H b = some o → (∀ ys, o ≠ .lst ys) → H' b = some o
theorem KL.refl (H : Hp) : KL H H := fun _ _ h _ => h
theorem KL.of {H H' : Hp} (s : Same H H') : KL H H' := fun b o h _ => s b o h
theorem KL.trans {H H1 H2 : Hp} (a : KL H H1) (b : KL H1 H2) : KL H H2 := fun c o h n => b c o (a c o h n) n
theorem KL.put {H H' : Hp} {l : Addr} {xs ys : List V} (a : KL H H') (h : H' l = some (.lst xs)) : KL H (upd H' l (.lst ys)) := fun c o e n => by
  have q := a c o e n
  have ne : c ≠ l := fun z => by
    rw [z, h] at q
    exact n _ (Option.some.inj q).symm
  rw [upd_ne ne]
  exact q
theorem IsD.kl {d : D3} {H H' : Hp} {x : Addr} {mk : Option Str} {us ys : List Str} (s : KL H H') (h : IsD d H x mk us ys) : IsD d H' x mk us ys := by
  obtain ⟨⟨dx, p, q, a, b, c⟩, h1, h2, h3, h4⟩ := h
  exact ⟨⟨dx, p, q, s _ _ a (fun _ e => nomatch e), s _ _ b (fun _ e => nomatch e), s _ _ c (fun _ e => nomatch e)⟩, h1, h2, h3, h4⟩
theorem sqT_kl {K : PySem.W.Frag} {H H' : Hp} {a : Addr} {xs : List V} (s : KL H H') (h : SqT K H a xs) : SqT K H' a xs := by
  rcases h with (h | ⟨o, h⟩) | h
  · exact .inl (.inl (s _ _ h (fun _ e => nomatch e)))
  · exact .inl (.inr ⟨o, s _ _ h (fun _ e => nomatch e)⟩)
  · exact .inr h
theorem Deeds.kl {K : PySem.W.Frag} {d : D3} {H H' : Hp} {p : Addr} {as : List Act} (s : KL H H') (h : Deeds K d H p as) : Deeds K d H' p as := by
  obtain ⟨xs, e, l, k⟩ := h
  exact ⟨xs, sqT_kl s e, l, fun i x a e1 e2 => (k i x a e1 e2).imp fun _ q => q.kl s⟩
theorem PartA.kl {K : PySem.W.Frag} {d : D3} {H H' : Hp} {v : V} (s : KL H H') : ∀ {o : Option (List Act)}, PartA K d H v o → PartA K d H' v o
  | none, h => h
  | some _, ⟨p, e, h⟩ => ⟨p, e, h.kl s⟩
theorem PartsD.kl {K : PySem.W.Frag} {d : D3} {H H' : Hp} {P : Addr} {g : Prg} (s : KL H H') (h : PartsD K d H P g) : PartsD K d H' P g := by
  obtain ⟨v0, v1, v2, v3, v4, e, h0, h1, h2, h3, h4⟩ := h
  exact ⟨v0, v1, v2, v3, v4, s _ _ e (fun _ e => nomatch e), h0.kl s, h1.kl s, h2.kl s, h3.kl s, h4.kl s⟩
/-- a new list may change -/
theorem sameUpd {H H' : Hp} {l : Addr} {o : HO} (s : Same H H') (h : H l = none) : Same H (upd H' l o) := fun b u e => by
  have ne : b ≠ l := fun z => by rw [z, h] at e; cases e
  rw [upd_ne ne]
  exact s b u e
def spAn (K : PySem.W.Frag) (d : D3) : Sp := fun vs H Q _ => ∃ (P gv ag rs : Addr) (g : Prg) (us ws pool : List Str) (l : List (Str × Int)), vs = [.ref P, .ref gv, .ref ag, .ref rs] ∧ PartsD K d H P g ∧ NI.Sq K H gv (us.map V.str) ∧ AgD H ag l ∧ NI.Sq K H rs (ws.map V.str) ∧
  (∀ z ∈ us ++ l.map (·.1) ++ ws ++ actsN g.acts, z ∈ pool) ∧ pool.length ≤ 6 ∧ us.length + l.length + ws.length + 4 * g.acts.length ≤ 1000 ∧
  ∀ (ys : List Str) q H', Asc ys (us ++ l.map (·.1) ++ ws ++ actsN g.acts) → Same H H' → H q = none → H' q = some (.tup (ys.map V.str)) → Q (.ref q) H'
theorem Sq.sw {K : PySem.W.Frag} {H : Hp} {a : Addr} {xs : List V} (h : NI.Sq K H a xs) : SqT K H a xs ∨ SqL K H a xs := h.symm
theorem getLast {as : List Act} {i : Nat} {a : Act} (h : as[i]? = some a) : as.take (i + 1) = as.take i ++ [a] := by rw [List.take_add_one, h]; rfl
section
variable {P : Program} {w : World} {K : PySem.W.Frag} {mg : Str → Option Value} {base : Heap}
theorem ok_an {d : D3} {fN pN : Addr} {fdN : FuncData} {f : Addr} {fd : FuncData} (F : Fun K "all_names" "all_names" sAn f fd) (T : TxtB mg) (TQ : TxtQ mg K) (cAsc : C8.Cal P w K mg base 1 "ascending" (spAscM K) [])
    (FN : FnOk P w K mg base CX0 1 fN fdN ["self"] (spNames K d)) (hbN : Binds K fdN ["self"] []) (k : D3C K d) (q1 : PropOf K d.u "names" pN fN) (q2 : PropOf K d.m "names" pN fN) (q3 : PropOf K d.d "names" pN fN) :
    FnOk P w K mg base CX0 3 f fd ["parts", "given", "again", "results"] (spAn K d) := by
  refine F.ok scAn (fun vs H Q E h => ?_) (fun cdv A outer s H vs Q E hr h => ?_)
  · obtain ⟨a, b, c, e, g, us, ws, pool, l, rfl, _⟩ := h
    rfl
  · obtain ⟨p, gv, ag, rs, g, us, ws, pool, l, rfl, hP, h1, h2, h3, hpool, h6, hsz, q⟩ := h
    have hu := hu_of hr
    obtain ⟨aP, gP, sP⟩ := TQ.parts
    obtain ⟨t1, e1⟩ := TQ.mn
    refine ⟨_, (pss_cons (ps_set (i := 4) scAn.nd rfl (Or.inl rfl) (pe_lst (StX.pa_star (pv 1) (NSD.pa_starD rfl (pv 2) (StX.pa_star (pv 3) pa_nil)))))
      (pss_cons (ps_for PassesOwn.never rfl (pi_tup (C8.pe_gc (v := .ref aP) rfl ⟨_, gP, rfl⟩)) (pg_name (i := 5) scAn.nd rfl (Or.inl rfl))
        (pss_one (ps_for PassesOwn.never rfl (pi_tup (pe_orT (pe_dget hu (pv 0) (pv 5) (fun _ _ => rfl)) (pe_one (pe_tup pa_nil)))) (pg_name (i := 6) scAn.nd rfl (Or.inl rfl))
          (pss_one (ps_expr (pe_bm PySem.F.plainAttrs_list PySem.F.slot_list_extend PySem.F.type_list_extend NEX.mt_extendT (pv 4) (pa_cons (NX.pe_propG (pv 6) FN (hr.mono (by decide)) hbN pass0 rfl) pa_nil)))))))
      (pss_cons (ps_if (pt_cmpR op_gt (pe_callB call_len_seq (by rfl) T.blen (by decide +kernel) (pa_cons (C8.pe_c cAsc hr (by decide) rfl (pa_cons (pv 4) pa_nil)) pa_nil)) (pe_glob (v := .int 6) rfl e1 ⟨_, rfl⟩) (nomark _)) pss_never pss_nil)
      (pss_one (ps_ret (C8.pe_c cAsc hr (by decide) rfl (pa_cons (pv 4) pa_nil))))))), ?_⟩
    have z1000 : (1000 : Nat) ≤ sizeLine := by decide
    refine ⟨_, rfl, gv, _, rfl, h1.symm, _, rfl, ag, _, l.map (·.1), rfl, .inl h2, agKeys l, _, rfl, rs, _, rfl, h3.symm, ?_⟩
    dsimp only [tNil]
    rw [List.append_nil, ← List.map_append, ← List.map_append]
    have e0 : us ++ (l.map (·.1) ++ ws) = us ++ l.map (·.1) ++ ws := by rw [List.append_assoc]
    rw [e0]
    obtain ⟨ws0, hws0⟩ : ∃ ws0, us ++ l.map (·.1) ++ ws = ws0 := ⟨_, rfl⟩
    have l0 : ws0.length = us.length + l.length + ws.length := by rw [← hws0, List.length_append, List.length_append, List.length_map]
    rw [hws0] at hpool q ⊢
    refine ⟨by rw [List.length_map]; exact Nat.le_trans (by omega) z1000, fun N hN => ?_⟩
    have sN : Same H (upd H N (.lst (ws0.map V.str))) := Same.new hN
    refine ⟨aP, rfl, ⟨_, sP _⟩, for_tup (xs := partN.map V.str) (fun i σ H' => Same H H' ∧ (∃ xs : List Str, H' N = some (.lst (xs.map V.str)) ∧ (∀ y, y ∈ xs ↔ y ∈ ws0 ++ actsN (g.upto i)) ∧ xs.length ≤ ws0.length + 4 * (g.upto i).length) ∧ ∃ x5 x6, σ = [some (.ref p), some (.ref gv), some (.ref ag), some (.ref rs), some (.ref N), x5, x6])
      ⟨sN, ⟨ws0, upd_same, fun y => by show _ ↔ y ∈ ws0 ++ []; rw [List.append_nil], Nat.le_add_right _ _⟩, _, _, rfl⟩ (fun i σ H' _ _ => sP H') (fun i x σ H' hx ⟨s1, ⟨xs, gN, mm, lx⟩, x5, x6, eσ⟩ => ?_) (fun σ H' ⟨s1, ⟨xs, gN, mm, lx⟩, x5, x6, eσ⟩ => ?_)⟩
    · subst eσ
      rw [List.getElem?_map] at hx
      obtain ⟨z, hz, rfl⟩ := Option.map_eq_some_iff.mp hx
      obtain ⟨v, hg, ha⟩ := (hP.same s1).get i hz
      obtain ⟨i5, ez⟩ := partF hz
      have up : (g.upto (i + 1)) = g.upto i ++ (g.at i).getD [] := rfl
      have tot' : (g.upto (i + 1)).length ≤ g.acts.length := by
        have : i = 0 ∨ i = 1 ∨ i = 2 ∨ i = 3 ∨ i = 4 := by omega
        rcases this with rfl | rfl | rfl | rfl | rfl <;> simp only [Prg.acts, Prg.upto, List.length_append] <;> omega
      refine ⟨_, rfl, _, rfl, p, v, rfl, hg, ha.or fun p2 H2 s2 hd => ?_⟩
      obtain ⟨as, eas⟩ : ∃ as, as = (g.at i).getD [] := ⟨_, rfl⟩
      rw [← eas] at hd up
      obtain ⟨xd, hx2, hal⟩ := hd
      refine ⟨p2, rfl, ⟨_, hx2⟩, ?_⟩
      refine for_tup (xs := xd.map V.ref) (fun j σ H' => Same H H' ∧ KL H2 H' ∧ (∃ xs : List Str, H' N = some (.lst (xs.map V.str)) ∧ (∀ y, y ∈ xs ↔ y ∈ ws0 ++ actsN (g.upto i ++ as.take j)) ∧ xs.length ≤ ws0.length + 4 * ((g.upto i).length + j)) ∧ ∃ x6, σ = [some (.ref p), some (.ref gv), some (.ref ag), some (.ref rs), some (.ref N), some (.str z), x6])
        ⟨s1.trans s2, KL.refl H2, ⟨xs, s2 _ _ gN, fun y => by rw [List.take_zero, List.append_nil]; exact mm y, by omega⟩, _, rfl⟩ (fun j σ H' _ ⟨_, s3, _⟩ => sqT_kl s3 hx2) (fun j x σ H' hx ⟨s4, s3, ⟨xs, gN, mm, lx⟩, x6, eσ⟩ => ?_) (fun σ H' ⟨s4, s3, ⟨xs, gN, mm, lx⟩, x6, eσ⟩ => ?_)
      · subst eσ
        rw [List.getElem?_map] at hx
        obtain ⟨x, hxj, rfl⟩ := Option.map_eq_some_iff.mp hx
        have hj : j < as.length := by rw [← hal.1]; exact (List.getElem?_eq_some_iff.mp hxj).1
        obtain ⟨a, haj⟩ : ∃ a, as[j]? = some a := ⟨_, List.getElem?_eq_getElem hj⟩
        obtain ⟨ys, hD⟩ := hal.2 j x a hxj haj
        have hD := hD.kl s3
        have y4 := hD.names
        obtain ⟨dx, pu, pn, d1, d2, d3⟩ := id hD.dd
        have kc := k.at_ a.1 a.2
        refine ⟨_, rfl, .inl ⟨rfl, _, SqL.of gN⟩, _, rfl, x, _, dx, _, _, rfl, d1, kc.cl, of3 (φ := fun C => PropOf K C "names" pN fN) q1 q2 q3, ?_⟩
        refine ⟨x, a.1, a.2, ys, rfl, hD, fun r hr2 => ?_⟩
        rw [up, List.length_append] at tot'
        refine ⟨N, r, _, _, rfl, rfl, gN, SqT.of hr2, by rw [List.length_map, List.length_map]; exact Nat.le_trans (by omega) z1000, ?_⟩
        refine ⟨sameUpd s4 hN, s3.put gN, ⟨xs ++ ys, upd_same.trans (by rw [List.map_append]), fun y => ?_, by rw [List.length_append]; omega⟩, _, rfl⟩
        rw [getLast haj, ← List.append_assoc (g.upto i), actsN_app, ← List.append_assoc, List.mem_append, List.mem_append (s := ws0 ++ _), mm y, hD.asc.2.2 y]
        show _ ∨ _ ↔ _ ∨ y ∈ (([a] : List Act).map Act.ns).flatten
        simp [Act.ns]
      · subst eσ
        rw [List.length_map, hal.1, List.take_length] at mm
        rw [List.length_map, hal.1] at lx
        exact ⟨s4, ⟨xs, gN, by rw [up]; exact mm, by rw [up, List.length_append]; exact lx⟩, _, _, rfl⟩
    · subst eσ
      have mm : ∀ y, y ∈ xs ↔ y ∈ ws0 ++ actsN g.acts := mm
      have lx : xs.length ≤ ws0.length + 4 * g.acts.length := lx
      have hp2 : ∀ z ∈ xs, z ∈ pool := fun z hz => hpool z ((mm z).mp hz)
      refine ⟨_, rfl, N, xs, pool, rfl, .inl (SqL.of gN), by omega, hp2, by omega, fun ys q3 H3 asc s3 hq3 g3 => ?_⟩
      have := asc.few hp2
      refine ⟨q3, _, rfl, .inr (SqT.of g3), _, 6, rfl, rfl, _, rfl, ite2 (fun h => ?_) (fun _ => ?_)⟩
      · have h := of_decide_eq_true h
        rw [List.length_map] at h
        exfalso
        omega
      · refine ⟨_, rfl, N, xs, pool, rfl, .inl (SqL.of (s3 _ _ gN)), by omega, hp2, by omega, fun ys q4 H4 asc s4 hq4 g4 => ?_⟩
        exact q ys q4 H4 ⟨asc.1, asc.2.1, fun y => (asc.2.2 y).trans (mm y)⟩ ((s1.trans s3).trans s4) (by
          have := hq4
          cases e : H q4 with
          | none => rfl
          | some o => rw [s3 _ _ (s1 _ _ e)] at this; cases this) g4
end
end K33

set_option Elab.async false
set_option linter.all false
set_option maxRecDepth 100000
set_option maxHeartbeats 4000000
/-! check_values. -/
namespace K33
open PySem L2 NX NU
open PyProof.Rows (sortedS)
def UsesOk (ag : List Str) : List Str → List Act → Prop
  | _, [] => True
  | kn, a :: r => (∀ z ∈ a.2, z ∈ kn) ∧ (∀ m, a.1 = some m → m ∉ ag) ∧ UsesOk ag (kn ++ a.1.toList) r
def aft (kn : List Str) (as : List Act) : List Str := kn ++ (as.map fun a => a.1.toList).flatten
theorem aft_nil (kn : List Str) : aft kn [] = kn := List.append_nil kn
theorem aft_snoc (kn : List Str) (as : List Act) (a : Act) : aft kn (as ++ [a]) = aft kn as ++ a.1.toList := by
  unfold aft
  rw [List.map_append, List.flatten_append, List.append_assoc]
  simp
theorem aft_cons (kn : List Str) (as : List Act) (a : Act) : aft kn (a :: as) = aft (kn ++ a.1.toList) as := by
  unfold aft
  rw [List.map_cons, List.flatten_cons, List.append_assoc]
theorem aft_len (kn : List Str) : ∀ as : List Act, (aft kn as).length ≤ kn.length + as.length
  | [] => by rw [aft_nil]; exact Nat.le_add_right _ _
  | a :: r => by
    have := aft_len (kn ++ a.1.toList) r
    have h : a.1.toList.length ≤ 1 := by cases a.1 <;> simp
    rw [aft_cons]
    rw [List.length_append] at this
    rw [List.length_cons]
    omega
theorem usesAt {ag : List Str} : ∀ {as : List Act} {kn : List Str} {j : Nat} {a : Act}, UsesOk ag kn as → as[j]? = some a → (∀ z ∈ a.2, z ∈ aft kn (as.take j)) ∧ ∀ m, a.1 = some m → m ∉ ag
  | [], _, _, _, _, h => nomatch h
  | b :: r, kn, 0, a, u, h => by
    cases h
    rw [List.take_zero, aft_nil]
    exact ⟨u.1, u.2.1⟩
  | b :: r, kn, j + 1, a, u, h => by
    rw [List.take_succ_cons, aft_cons]
    exact usesAt u.2.2 h
def Prg.lastAt (g : Prg) (bs : List Str) : Nat → List Str
  | 0 => bs
  | n + 1 => if n = 1 ∨ n = 3 then g.lastAt bs n else aft (g.lastAt bs n) ((g.at n).getD [])
theorem lastLen (g : Prg) (bs : List Str) : ∀ n, (g.lastAt bs n).length ≤ bs.length + (g.upto n).length
  | 0 => Nat.le_add_right _ _
  | n + 1 => by
    have ih := lastLen g bs n
    show (if n = 1 ∨ n = 3 then g.lastAt bs n else aft (g.lastAt bs n) ((g.at n).getD [])).length ≤ bs.length + (g.upto n ++ (g.at n).getD []).length
    rw [List.length_append]
    split
    · omega
    · have := aft_len (g.lastAt bs n) ((g.at n).getD [])
      omega
theorem uptoLe (g : Prg) {i : Nat} (h : i < 5) : (g.upto i).length + ((g.at i).getD []).length ≤ g.acts.length := by
  have : i = 0 ∨ i = 1 ∨ i = 2 ∨ i = 3 ∨ i = 4 := by omega
  rcases this with rfl | rfl | rfl | rfl | rfl <;> simp only [Prg.acts, Prg.upto, List.length_append] <;> omega
/-- what the walk over the parts asks -/
structure Prg.VOk (g : Prg) (bs ag rs : List Str) : Prop where
  uses : ∀ i, i < 5 → UsesOk ag (g.lastAt bs i) ((g.at i).getD [])
  res : ∀ z ∈ rs, z ∈ g.lastAt bs 5
def spCv (K : PySem.W.Frag) (d : D3) : Sp := fun vs H Q _ => ∃ (P gv ag rs : Addr) (g : Prg) (us ws : List Str) (l : List (Str × Int)), vs = [.ref P, .ref gv, .ref ag, .ref rs] ∧ PartsD K d H P g ∧ NI.Sq K H gv (us.map V.str) ∧ AgD H ag l ∧ NI.Sq K H rs (ws.map V.str) ∧
  ws.length < 60 ∧ us.length + l.length + g.acts.length ≤ 1000 ∧ g.VOk (us ++ l.map (·.1)) (l.map (·.1)) ws ∧ ∀ H', Same H H' → Q .non H'
theorem partL {i : Nat} {z : Str} (h : partN[i]? = some z) : inV (V.str z) (([ "loop", "second" ] : List Str).map V.str) = decide (i = 1 ∨ i = 3) := by
  match i, h with
  | 0, h => cases h; decide +kernel
  | 1, h => cases h; decide +kernel
  | 2, h => cases h; decide +kernel
  | 3, h => cases h; decide +kernel
  | 4, h => cases h; decide +kernel
  | n + 5, h => cases h
section
variable {P : Program} {w : World} {K : PySem.W.Frag} {mg : Str → Option Value} {base : Heap}
theorem ok_cv {d : D3} {f : Addr} {fd : FuncData} (F : Fun K "check_values" "check_values" sCv f fd) (T : TxtB mg) (TQ : TxtQ mg K) (k : D3C K d) (cAsc : C8.Cal P w K mg base 1 "ascending" (spAscM K) []) (cCd : C8.Cal P w K mg base 1 "check_deed_partchecks" (spCd K d) []) :
    FnOk P w K mg base CX0 2 f fd ["parts", "given", "again", "results"] (spCv K d) := by
  refine F.ok scCv (fun vs H Q E h => ?_) (fun cdv A outer s H vs Q E hr h => ?_)
  · obtain ⟨a, b, c, e, g, us, ws, l, rfl, _⟩ := h
    rfl
  · obtain ⟨p, gv, ag, rs, g, us, ws, l, rfl, hP, h1, h2, h3, hws, hsz, vo, q⟩ := h
    have hu := hu_of hr
    obtain ⟨aP, gP, sP⟩ := TQ.parts
    obtain ⟨aL, gL, sL⟩ := TQ.loops
    refine ⟨_, (pss_cons (ps_set (i := 4) scCv.nd rfl (Or.inl rfl) (pe_lst (StX.pa_star (pv 1) (NSD.pa_starD rfl (pv 2) pa_nil))))
      (pss_cons (ps_for PassesOwn.never rfl (pi_tup (C8.pe_gc (v := .ref aP) rfl ⟨_, gP, rfl⟩)) (pg_name (i := 5) scCv.nd rfl (Or.inl rfl))
        (pss_cons (ps_set (i := 6) scCv.nd rfl (Or.inl rfl) (pe_callTy call_list_of (by rfl) T.blist (by decide +kernel) (pa_cons (pv 4) pa_nil)))
        (pss_cons (ps_for PassesOwn.never rfl (NEn.pi_ent (by rfl) T.benumerate (pa_cons (pe_orT (pe_dget hu (pv 0) (pv 5) (fun _ _ => rfl)) (pe_one (pe_tup pa_nil))) pa_nil)) (pg_tup rfl (pgs_cons (pg_name (i := 7) scCv.nd rfl (Or.inl rfl)) (pgs_cons (pg_name (i := 8) scCv.nd rfl (Or.inl rfl)) pgs_nil)))
          (pss_cons (ps_expr (C8.pe_c cCd hr (by decide) rfl (pa_cons (pv 8) (pa_cons (pe_tup (pa_cons (pv 5) (pa_cons (pv 7) pa_nil))) (pa_cons (pv 6) (pa_cons (pv 2) pa_nil))))))
          (pss_one (ps_if (pt_cmpR op_notN (pe_fld (pv 8) rfl) pe_non (nomark _)) (pss_one (ps_expr (pe_bm PySem.F.plainAttrs_list PySem.F.slot_list_append PySem.F.type_list_append mt_append (pv 6) (pa_cons (pe_fld (pv 8) rfl) pa_nil)))) pss_nil))))
        (pss_one (ps_if (pt_cmpR op_notIn_seq (pv 5) (C8.pe_gc (v := .ref aL) rfl ⟨_, gL, rfl⟩) rfl) (pss_one (ps_set (i := 4) scCv.nd rfl (Or.inl rfl) (pv 6))) pss_nil)))))
      (pss_one (ps_for PassesOwn.never rfl (pi_tup (C8.pe_c cAsc hr (by decide) rfl (pa_cons (pv 3) pa_nil))) (pg_name (i := 9) scCv.nd rfl (Or.inl rfl)) (pss_one (ps_if (pt_cmpR op_notIn_seq (pv 9) (pv 4) rfl) pss_never pss_nil)))))), ?_⟩
    have z1000 : (1000 : Nat) < sizeLine := by decide
    refine ⟨_, rfl, gv, _, rfl, h1.symm, _, rfl, ag, _, l.map (·.1), rfl, .inl h2, agKeys l, ?_⟩
    dsimp only [tNil]
    rw [List.append_nil, ← List.map_append]
    obtain ⟨bs, hbs⟩ : ∃ bs, us ++ l.map (·.1) = bs := ⟨_, rfl⟩
    have lb : bs.length = us.length + l.length := by rw [← hbs, List.length_append, List.length_map]
    rw [hbs] at vo ⊢
    refine ⟨by rw [List.length_map]; exact Nat.le_trans (by omega) (Nat.le_of_lt z1000), fun N hN => ?_⟩
    refine ⟨aP, rfl, ⟨_, sP _⟩, for_tup (xs := partN.map V.str) (fun i σ H' => Same H H' ∧ ∃ L x5 x6 x7 x8 x9, H' L = some (.lst ((g.lastAt bs i).map V.str)) ∧ σ = [some (.ref p), some (.ref gv), some (.ref ag), some (.ref rs), some (.ref L), x5, x6, x7, x8, x9])
      ⟨Same.new hN, N, _, _, _, _, _, upd_same, rfl⟩ (fun i σ H' _ _ => sP H') (fun i x σ H' hx ⟨s1, L, x5, x6, x7, x8, x9, gL1, eσ⟩ => ?_) (fun σ H' ⟨s1, L, x5, x6, x7, x8, x9, gL1, eσ⟩ => ?_)⟩
    · subst eσ
      rw [List.getElem?_map] at hx
      obtain ⟨z, hz, rfl⟩ := Option.map_eq_some_iff.mp hx
      obtain ⟨i5, ez⟩ := partF hz
      have uo := vo.uses i i5
      have up := uptoLe g i5
      have ll := lastLen g bs i
      obtain ⟨kn, hkn⟩ : ∃ kn, kn = g.lastAt bs i := ⟨_, rfl⟩
      rw [← hkn] at gL1 uo ll
      refine ⟨_, rfl, L, _, rfl, .inl (SqL.of gL1), fun Kn hKn => ?_⟩
      have sK := Same.new (o := .lst (kn.map V.str)) hKn
      have gK : (upd H' Kn (.lst (kn.map V.str))) Kn = some (.lst (kn.map V.str)) := upd_same
      have nKL : L ≠ Kn := ne_of_none gL1 hKn
      have gL1 := sK _ _ gL1
      have hKH : H Kn = none := by
        cases e : H Kn with
        | none => rfl
        | some o => rw [s1 _ _ e] at hKn; cases hKn
      have s2 := s1.trans sK
      clear s1 sK hKn
      generalize (upd H' Kn (.lst (kn.map V.str))) = H2 at *
      obtain ⟨v, hg, ha⟩ := (hP.same s2).get i hz
      refine ⟨_, rfl, _, rfl, p, v, rfl, hg, ha.or fun p2 H3 s3 hd => ?_⟩
      obtain ⟨as, eas⟩ : ∃ as, as = (g.at i).getD [] := ⟨_, rfl⟩
      rw [← eas] at hd uo up
      obtain ⟨xd, hx2, hal⟩ := hd
      refine ⟨p2, _, rfl, hx2, ?_⟩
      refine NEn.for_ent (xs := xd.map V.ref) (fun j σ H' => Same H H' ∧ KL H3 H' ∧ H' L = some (.lst (kn.map V.str)) ∧ H' Kn = some (.lst ((aft kn (as.take j)).map V.str)) ∧ ∃ x7 x8, σ = [some (.ref p), some (.ref gv), some (.ref ag), some (.ref rs), some (.ref L), some (.str z), some (.ref Kn), x7, x8, x9])
        ⟨s2.trans s3, KL.refl H3, s3 _ _ gL1, s3 _ _ (by rw [List.take_zero, aft_nil]; exact gK), _, _, rfl⟩ (fun j σ H' _ ⟨_, s4, _⟩ => sqT_kl s4 hx2) (fun j x σ H' T hx ⟨s4, s5, gL2, gK2, x7, x8, eσ⟩ hT => ?_) (fun σ H' ⟨s4, s5, gL2, gK2, x7, x8, eσ⟩ => ?_)
      · subst eσ
        rw [List.getElem?_map] at hx
        obtain ⟨x, hxj, rfl⟩ := Option.map_eq_some_iff.mp hx
        have hj : j < as.length := by rw [← hal.1]; exact (List.getElem?_eq_some_iff.mp hxj).1
        obtain ⟨a, haj⟩ : ∃ a, as[j]? = some a := ⟨_, List.getElem?_eq_getElem hj⟩
        obtain ⟨ys, hD⟩ := hal.2 j x a hxj haj
        obtain ⟨u1, u2⟩ := usesAt uo haj
        have sT : Same H' (upd H' T (.tup [.int (j : Nat), .ref x])) := Same.new hT
        refine ⟨T, _, rfl, SqT.of upd_same, rfl, _, _, rfl, _, _, rfl, rfl, ?_⟩
        have s4 := s4.trans sT
        have s5 := s5.trans (KL.of sT)
        have gL2 := sT _ _ gL2
        have gK2 := sT _ _ gK2
        clear sT hT
        generalize (upd H' T (.tup [.int (j : Nat), .ref x])) = H4 at *
        refine ⟨_, rfl, _, rfl, _, rfl, by show 2 ≤ sizeLine; decide, fun T2 hT2 => ?_⟩
        have sT : Same H4 (upd H4 T2 (.tup [.str z, .int (j : Nat)])) := Same.new hT2
        have s4 := s4.trans sT
        have s5 := s5.trans (KL.of sT)
        have gL2 := sT _ _ gL2
        have gK2 := sT _ _ gK2
        clear sT hT2
        generalize (upd H4 T2 (.tup [.str z, .int (j : Nat)])) = H5 at *
        have hD := hD.kl s5
        have kc := k.at_ a.1 a.2
        obtain ⟨dx, pu, pn, d1, d2, d3⟩ := id hD.dd
        refine ⟨_, rfl, _, rfl, x, Kn, ag, _, a.1, a.2, ys, _, l, rfl, hD, SqL.of gK2, s4 _ _ h2, u1, u2, ?_⟩
        refine ⟨_, rfl, x, _, dx, _, _, rfl, d1, kc.cl, kc.nk, rfl, rfl, _, rfl, ?_⟩
        have lk := aft_len kn (as.take j)
        rw [List.length_take] at lk
        cases ea : a.1 with
        | none =>
          refine iteF ⟨s4, s5, gL2, ?_, _, _, rfl⟩
          rw [getLast haj, aft_snoc, ea]
          show _ = some (HO.lst ((aft kn (as.take j) ++ []).map V.str))
          rw [List.append_nil]
          exact gK2
        | some m =>
          refine iteT ⟨_, rfl, .inl ⟨rfl, _, SqL.of gK2⟩, _, rfl, x, _, dx, _, _, rfl, d1, kc.cl, kc.nk, rfl, ?_⟩
          rw [ea]
          refine ⟨Kn, _, _, rfl, rfl, gK2, by rw [List.length_map]; exact Nat.lt_of_le_of_lt (by omega) z1000, ?_⟩
          refine ⟨sameUpd s4 hKH, s5.put gK2, (upd_ne nKL).trans gL2, ?_, _, _, rfl⟩
          rw [getLast haj, aft_snoc, ea]
          exact upd_same.trans (by rw [List.map_append]; rfl)
      · subst eσ
        rw [List.length_map, hal.1, List.take_length] at gK2
        refine ⟨_, rfl, aL, _, rfl, .inr (sL _), rfl, by decide +kernel, _, rfl, ?_⟩
        rw [if_pos rfl, partL hz]
        have e9 : g.lastAt bs (i + 1) = if i = 1 ∨ i = 3 then kn else aft kn as := by rw [hkn, eas]; rfl
        by_cases hL : i = 1 ∨ i = 3
        · rw [decide_eq_true hL]
          rw [if_pos hL] at e9
          exact iteF ⟨s4, L, _, _, _, _, _, by rw [e9]; exact gL2, rfl⟩
        · rw [decide_eq_false hL]
          rw [if_neg hL] at e9
          exact iteT ⟨_, rfl, s4, Kn, _, _, _, _, _, by rw [e9]; exact gK2, rfl⟩
    · subst eσ
      have gL1 : H' L = some (.lst ((g.lastAt bs 5).map V.str)) := gL1
      refine ⟨_, rfl, rs, ws, ws, rfl, h3.same s1, by omega, fun _ h => h, by omega, fun ys q2 H2 asc s2 hq2 g2 => ?_⟩
      refine ⟨q2, rfl, ⟨_, SqT.of g2⟩, ?_⟩
      refine for_tup (xs := ys.map V.str) (fun i σ H' => H' = H2 ∧ ∃ x9, σ = [some (.ref p), some (.ref gv), some (.ref ag), some (.ref rs), some (.ref L), x5, x6, x7, x8, x9]) ⟨rfl, _, rfl⟩ (fun i σ H' _ ⟨e, _⟩ => by rw [e]; exact SqT.of g2) (fun i x σ H' hx ⟨e, y, eσ⟩ => ?_) (fun σ H' ⟨e, _⟩ => by rw [e]; exact q H2 (s1.trans s2))
      subst e eσ
      rw [List.getElem?_map] at hx
      obtain ⟨z, hz, rfl⟩ := Option.map_eq_some_iff.mp hx
      refine ⟨_, rfl, _, rfl, L, _, rfl, .inl (SqL.of (s2 _ _ gL1)), rfl, flat_strs _, _, rfl, ?_⟩
      rw [if_pos rfl, inV_str, decide_eq_true (vo.res z ((asc.2.2 z).mp (List.mem_of_getElem? hz)))]
      exact iteF ⟨rfl, _, rfl⟩
end
end K33

set_option Elab.async false
set_option linter.all false
set_option maxRecDepth 100000
set_option maxHeartbeats 4000000
/-! Program.__init__. -/
namespace K33
open PySem L2 NX NU
open PyProof.Rows (sortedS)
abbrev sPi : Stmt := inClass (top 72) 0
abbrev NPi : List Str := ["self", "ahead", "loop", "between", "second", "behind", "given", "again", "results", "parts", "prices"]
abbrev pPi : List Str := ["self", "ahead", "loop", "between", "second", "behind", "given", "again", "results"]
theorem scPi : FnScope NPi pPi (defScope sPi) := ⟨rfl, rfl, rfl, by decide +kernel, rfl, by decide +kernel, by decide +kernel⟩
def InA (K : PySem.W.Frag) (d : D3) (H : Hp) (v : V) (as : List Act) : Prop := ∃ (p : Addr) (xs : List Addr), v = .ref p ∧ NI.Sq K H p (xs.map V.ref) ∧ AllAt d H xs as
def InO (K : PySem.W.Frag) (d : D3) (H : Hp) (v : V) : Option (List Act) → Prop
  | none => v = .non
  | some as => InA K d H v as
theorem InA.same {K : PySem.W.Frag} {d : D3} {H H' : Hp} {v : V} {as : List Act} (s : Same H H') (h : InA K d H v as) : InA K d H' v as := by
  obtain ⟨p, xs, e, a, b⟩ := h
  exact ⟨p, xs, e, a.same s, b.same s⟩
theorem InO.same {K : PySem.W.Frag} {d : D3} {H H' : Hp} {v : V} (s : Same H H') : ∀ {o : Option (List Act)}, InO K d H v o → InO K d H' v o
  | none, h => h
  | some _, h => InA.same s h
/-- tuple(deeds) -/
theorem InA.tup {K : PySem.W.Frag} {d : D3} {H : Hp} {v : V} {as : List Act} {Q : VK} (h : InA K d H v as) (q : ∀ p H', Same H H' → Deeds K d H' p as → Q (.ref p) H') :
    ∃ p ys, [v] = [V.ref p] ∧ ((SqL K H p ys ∧ ∀ l, H l = none → Q (.ref l) (upd H l (.tup ys))) ∨ (SqT K H p ys ∧ Q (.ref p) H)) := by
  obtain ⟨p, xs, rfl, hs, b⟩ := h
  rcases hs with hs | hs
  · exact ⟨p, _, rfl, .inl ⟨hs, fun l hl => q l _ (Same.new hl) ⟨xs, SqT.of upd_same, b.same (Same.new hl)⟩⟩⟩
  · exact ⟨p, _, rfl, .inr ⟨hs, q p H (Same.refl H) ⟨xs, hs, b⟩⟩⟩
/-- tuple(v), v a list or a tuple of deeds -/
theorem tupR {K : PySem.W.Frag} {d : D3} {H : Hp} {v : V} {as : List Act} {i : Nat} {σ : L2.St} {Q : VK} (hσ : σ[i]? = some (some v)) (h : InA K d H v as) (q : ∀ p H', Same H H' → Deeds K d H' p as → Q (.ref p) H') :
    tCB (fun xs H Q => ∃ p ys, xs = [V.ref p] ∧ ((SqL K H p ys ∧ ∀ l, H l = none → Q (.ref l) (upd H l (.tup ys))) ∨ (SqT K H p ys ∧ Q (.ref p) H))) (tCons (tVar i) tNil) σ H Q := ⟨v, hσ, InA.tup (Q := Q) h q⟩
theorem optR {K : PySem.W.Frag} {d : D3} {H : Hp} {v : V} {o : Option (List Act)} {i : Nat} {σ : L2.St} {Q : VK} (hσ : σ[i]? = some (some v)) (h : InO K d H v o) (q : ∀ v' H', Same H H' → PartA K d H' v' o → Q v' H') :
    tIf (tTest (tOp (fun x y H Q => y = V.non ∧ Q (V.bl (decide (x = V.non))) H) (tVar i) (tC V.non))) (tC V.non) (tCB (fun xs H Q => ∃ p ys, xs = [V.ref p] ∧ ((SqL K H p ys ∧ ∀ l, H l = none → Q (.ref l) (upd H l (.tup ys))) ∨ (SqT K H p ys ∧ Q (.ref p) H))) (tCons (tVar i) tNil)) σ H Q := by
  refine ⟨v, hσ, rfl, _, rfl, ?_⟩
  cases o with
  | none =>
    obtain rfl : v = .non := h
    exact iteT (q _ H (Same.refl H) rfl)
  | some as =>
    refine ite2 (fun e => ?_) (fun _ => tupR hσ h fun p H' s h2 => q _ H' s ⟨p, rfl, h2⟩)
    obtain ⟨p, xs, rfl, _⟩ := h
    exact absurd (of_decide_eq_true e) (fun z => nomatch z)
theorem IsD.put {d : D3} {H : Hp} {x : Addr} {mk : Option Str} {us ys : List Str} {y C dy : Addr} {fs : List (Str × V)} {o : HO} (hy : H y = some (.ins C dy fs)) (hf : ∀ v r, fs ≠ (Str.ofString "uses", v) :: r) (h : IsD d H x mk us ys) : IsD d (upd H y o) x mk us ys := by
  obtain ⟨⟨dx, p, q, a, b, c⟩, h1, h2, h3, h4⟩ := h
  refine ⟨⟨dx, p, q, ?_, ?_, ?_⟩, h1, h2, h3, h4⟩
  · rw [upd_ne (fun e => by rw [e, hy] at a; injection a with a; injection a with a1 a2 a3; exact hf _ _ a3)]; exact a
  · rw [upd_ne (fun e => by rw [e, hy] at b; cases b)]; exact b
  · rw [upd_ne (fun e => by rw [e, hy] at c; cases c)]; exact c
theorem Deeds.put {K : PySem.W.Frag} {d : D3} {H : Hp} {p : Addr} {as : List Act} {y C dy : Addr} {fs : List (Str × V)} {o : HO} (hy : H y = some (.ins C dy fs)) (hf : ∀ v r, fs ≠ (Str.ofString "uses", v) :: r) (h : Deeds K d H p as) : Deeds K d (upd H y o) p as := by
  obtain ⟨xs, e, l, k⟩ := h
  exact ⟨xs, NI.sqT_put hy e, l, fun i x a e1 e2 => (k i x a e1 e2).imp fun _ q => q.put hy hf⟩
theorem PartA.put {K : PySem.W.Frag} {d : D3} {H : Hp} {v : V} {y C dy : Addr} {fs : List (Str × V)} {o : HO} (hy : H y = some (.ins C dy fs)) (hf : ∀ v r, fs ≠ (Str.ofString "uses", v) :: r) : ∀ {q : Option (List Act)}, PartA K d H v q → PartA K d (upd H y o) v q
  | none, h => h
  | some _, ⟨p, e, h⟩ => ⟨p, e, h.put hy hf⟩
theorem PartsD.put {K : PySem.W.Frag} {d : D3} {H : Hp} {P : Addr} {g : Prg} {y C dy : Addr} {fs : List (Str × V)} {o : HO} (hy : H y = some (.ins C dy fs)) (hf : ∀ v r, fs ≠ (Str.ofString "uses", v) :: r) (h : PartsD K d H P g) : PartsD K d (upd H y o) P g := by
  obtain ⟨v0, v1, v2, v3, v4, e, h0, h1, h2, h3, h4⟩ := h
  exact ⟨v0, v1, v2, v3, v4, (upd_ne (fun z => by rw [z, hy] at e; cases e)).trans e, h0.put hy hf, h1.put hy hf, h2.put hy hf, h3.put hy hf, h4.put hy hf⟩
/-- all but dicts stays as it was -/
def KD (H H' : Hp) : Prop := ∀ b o, H b = some o → (∀ ys, o ≠ .dK ys) → H' b = some o
theorem IsD.kd {d : D3} {H H' : Hp} {x : Addr} {mk : Option Str} {us ys : List Str} (s : KD H H') (h : IsD d H x mk us ys) : IsD d H' x mk us ys := by
  obtain ⟨⟨dx, p, q, a, b, c⟩, h1, h2, h3, h4⟩ := h
  exact ⟨⟨dx, p, q, s _ _ a (fun _ e => nomatch e), s _ _ b (fun _ e => nomatch e), s _ _ c (fun _ e => nomatch e)⟩, h1, h2, h3, h4⟩
theorem sqT_kd {K : PySem.W.Frag} {H H' : Hp} {a : Addr} {xs : List V} (s : KD H H') (h : SqT K H a xs) : SqT K H' a xs := by
  rcases h with (h | ⟨o, h⟩) | h
  · exact .inl (.inl (s _ _ h (fun _ e => nomatch e)))
  · exact .inl (.inr ⟨o, s _ _ h (fun _ e => nomatch e)⟩)
  · exact .inr h
theorem Deeds.kd {K : PySem.W.Frag} {d : D3} {H H' : Hp} {p : Addr} {as : List Act} (s : KD H H') (h : Deeds K d H p as) : Deeds K d H' p as := by
  obtain ⟨xs, e, l, k⟩ := h
  exact ⟨xs, sqT_kd s e, l, fun i x a e1 e2 => (k i x a e1 e2).imp fun _ q => q.kd s⟩
theorem PartA.kd {K : PySem.W.Frag} {d : D3} {H H' : Hp} {v : V} (s : KD H H') : ∀ {o : Option (List Act)}, PartA K d H v o → PartA K d H' v o
  | none, h => h
  | some _, ⟨p, e, h⟩ => ⟨p, e, h.kd s⟩
/-- None, or a copy of the dict -/
theorem agR {H : Hp} {v : V} {l : List (Str × Int)} {i : Nat} {σ : L2.St} {Q : VK} (hσ : σ[i]? = some (some v)) (h : (v = .non ∧ l = []) ∨ ∃ p, v = .ref p ∧ AgD H p l) (q : ∀ a, H a = none → Q (.ref a) (upd H a (.dK (agK l)))) :
    tIf (tTest (tOp (fun x y H Q => y = V.non ∧ Q (V.bl (decide (x = V.non))) H) (tVar i) (tC V.non))) tDNewK (tCB (fun xs H Q => ∃ a kvs, xs = [V.ref a] ∧ Rd H a (.dK kvs) ∧ ∀ p, H p = none → Q (.ref p) (upd H p (.dK kvs))) (tCons (tVar i) tNil)) σ H Q := by
  refine ⟨v, hσ, rfl, _, rfl, ?_⟩
  rcases h with ⟨rfl, rfl⟩ | ⟨p, rfl, h⟩
  · exact iteT q
  · exact ite2 (fun e => absurd (of_decide_eq_true e) (fun z => nomatch z)) (fun _ => ⟨_, hσ, p, _, rfl, .inl h, q⟩)
theorem AgD.put {H : Hp} {a y C dy : Addr} {fs : List (Str × V)} {o : HO} {l : List (Str × Int)} (hy : H y = some (.ins C dy fs)) (h : AgD H a l) : AgD (upd H y o) a l := (upd_ne (fun z => by unfold AgD at h; rw [z, hy] at h; cases h)).trans h
/-- what a program is made of -/
structure Tol where
  g : Prg
  us : List Str
  ag : List (Str × Int)
  rs : List Str
def Tol.words (t : Tol) : List Str := t.us ++ t.ag.map (·.1) ++ t.rs ++ actsN t.g.acts
structure Tol.Ok (t : Tol) : Prop where
  shape : t.g.Shape
  sizes : t.g.Sizes
  us : Tld t.us
  ag : AgOk t.ag
  rs : Tld t.rs
  six : ∃ pool : List Str, (∀ z ∈ t.words, z ∈ pool) ∧ pool.length ≤ 6
  size : t.us.length + t.ag.length + t.rs.length + 4 * t.g.acts.length ≤ 1000
  v : t.g.VOk (t.us ++ t.ag.map (·.1)) (t.ag.map (·.1)) t.rs
/-- a program at x -/
structure IsP (K : PySem.W.Frag) (d : D3) (H : Hp) (x C : Addr) (t : Tol) : Prop where
  ex : ∃ (dx nt P gt ag rt : Addr) (ns gs rs : List Str), H x = some (.ins C dx [("_names", .ref nt), ("_parts", .ref P), ("_given", .ref gt), ("_again", .ref ag), ("_results", .ref rt)]) ∧ H nt = some (.tup (ns.map V.str)) ∧ PartsD K d H P t.g ∧ H gt = some (.tup (gs.map V.str)) ∧ AgD H ag t.ag ∧ H rt = some (.tup (rs.map V.str)) ∧
    Asc ns t.words ∧ Asc gs t.us ∧ Asc rs t.rs
theorem IsP.same {K : PySem.W.Frag} {d : D3} {H H' : Hp} {x C : Addr} {t : Tol} (s : Same H H') (h : IsP K d H x C t) : IsP K d H' x C t := by
  obtain ⟨dx, nt, P, gt, ag, rt, ns, gs, rs, a, b, c, e, f, g, h1, h2, h3⟩ := h.ex
  exact ⟨dx, nt, P, gt, ag, rt, ns, gs, rs, s _ _ a, s _ _ b, c.same s, s _ _ e, s _ _ f, s _ _ g, h1, h2, h3⟩
structure PCls (K : PySem.W.Frag) (C : Addr) : Prop where
  cl : Cls K C
  n1 : NoAttr K C "_names"
  n2 : NoAttr K C "_parts"
  n3 : NoAttr K C "_given"
  n4 : NoAttr K C "_again"
  n5 : NoAttr K C "_results"
/-- what Program(..) is told -/
structure PArg (K : PySem.W.Frag) (d : D3) (H : Hp) (v1 v2 v3 v4 v5 vg va vr : V) (t : Tol) : Prop where
  a : InA K d H v1 t.g.a
  l : InO K d H v2 t.g.l
  b : InA K d H v3 t.g.b
  s : InO K d H v4 t.g.s
  h : InA K d H v5 t.g.h
  gv : ∃ p, vg = .ref p ∧ NI.Sq K H p (t.us.map V.str)
  ag : (va = .non ∧ t.ag = []) ∨ ∃ p, va = .ref p ∧ AgD H p t.ag
  rs : ∃ p, vr = .ref p ∧ NI.Sq K H p (t.rs.map V.str)
def spPi (K : PySem.W.Frag) (d : D3) : Sp := fun vs H Q _ => ∃ (x C dx : Addr) (v1 v2 v3 v4 v5 vg va vr : V) (t : Tol), vs = [.ref x, v1, v2, v3, v4, v5, vg, va, vr] ∧ H x = some (.ins C dx []) ∧ PCls K C ∧ PArg K d H v1 v2 v3 v4 v5 vg va vr t ∧ t.Ok ∧
  ∀ H', (∀ b o, b ≠ x → H b = some o → H' b = some o) → IsP K d H' x C t → Q .non H'
theorem asc_of {ys us : List Str} (p : ys.Perm us) (s : sortedS ys = true) (n : us.Nodup) : Asc ys us := ⟨s, p.nodup_iff.mpr n, fun y => p.mem_iff⟩
/-- while a program is made -/
structure PSt (K : PySem.W.Frag) (d : D3) (t : Tol) (x C dx Pd a gv rs : Addr) (H0 H : Hp) (fs : List (Str × V)) : Prop where
  hx : H x = some (.ins C dx fs)
  par : PartsD K d H Pd t.g
  ag : AgD H a t.ag
  gv : NI.Sq K H gv (t.us.map V.str)
  rs : NI.Sq K H rs (t.rs.map V.str)
  bt : ∀ b o, b ≠ x → H0 b = some o → H b = some o
theorem PSt.same {K : PySem.W.Frag} {d : D3} {t : Tol} {x C dx Pd a gv rs : Addr} {H0 H H' : Hp} {fs : List (Str × V)} (s : Same H H') (h : PSt K d t x C dx Pd a gv rs H0 H fs) : PSt K d t x C dx Pd a gv rs H0 H' fs :=
  ⟨s _ _ h.hx, h.par.same s, s _ _ h.ag, h.gv.same s, h.rs.same s, fun b o n e => s _ _ (h.bt b o n e)⟩
theorem PSt.put {K : PySem.W.Frag} {d : D3} {t : Tol} {x C dx Pd a gv rs : Addr} {H0 H : Hp} {fs fs2 : List (Str × V)} (hf : ∀ v r, fs ≠ (Str.ofString "uses", v) :: r) (h : PSt K d t x C dx Pd a gv rs H0 H fs) : PSt K d t x C dx Pd a gv rs H0 (upd H x (.ins C dx fs2)) fs2 :=
  ⟨upd_same, h.par.put h.hx hf, h.ag.put h.hx, h.gv.imp (NI.sqL_put h.hx) (NI.sqT_put h.hx), h.rs.imp (NI.sqL_put h.hx) (NI.sqT_put h.hx), fun b o n e => (upd_ne n).trans (h.bt b o n e)⟩
theorem noUses {n : Str} {u : V} {fs : List (Str × V)} (h : n ≠ Str.ofString "uses") : ∀ v r, (n, u) :: fs ≠ (Str.ofString "uses", v) :: r := fun v r e => by
  injection e with e1 e2
  injection e1 with e1 _
  exact h e1
theorem tupUpd {H : Hp} {p x C dx : Addr} {xs : List V} {fs : List (Str × V)} {o : HO} (h : H p = some (.tup xs)) (hx : H x = some (.ins C dx fs)) : (upd H x o) p = some (.tup xs) := (upd_ne (fun e => by rw [e, hx] at h; cases h)).trans h
section
variable {P : Program} {w : World} {K : PySem.W.Frag} {mg : Str → Option Value} {base : Heap}
theorem ok_pi {d : D3} {dvs : List V} {kws : List (Str × V)} {f : Addr} {fd : FuncData} (F : L2.FunD K "__init__" "Program.__init__" (defArgs sPi) (defBody sPi) (defScope sPi) dvs kws f fd) (T : TxtB mg) (N : TxtP mg) (TA : TxtA mg) (cCp : C8.Cal P w K mg base 1 "check_parts" (spCp K d) []) (cCz : C8.Cal P w K mg base 1 "check_sizes" (spCz K d) [])
    (cCt : C8.Cal P w K mg base 4 "check_told_names" (spCt K) []) (cAn : C8.Cal P w K mg base 3 "all_names" (spAn K d) []) (cCv : C8.Cal P w K mg base 2 "check_values" (spCv K d) []) : FnOk P w K mg base CX0 5 f fd pPi (spPi K d) := by
  refine F.ok scPi (fun vs H Q E h => ?_) (fun cdv A outer s H vs Q E hr h => ?_)
  · obtain ⟨x, C, dx, v1, v2, v3, v4, v5, vg, va, vr, t, rfl, _⟩ := h
    rfl
  · obtain ⟨x, C, dx, v1, v2, v3, v4, v5, vg, va, vr, t, rfl, hx, pc, ar, ok, q⟩ := h
    have hu := hu_of hr
    refine ⟨_, (pss_cons (ps_set (i := 9) scPi.nd rfl (Or.inl rfl) (pe_disp (pps_cons pe_str (pe_callTy call_tuple_of (by rfl) T.btuple (by decide +kernel) (pa_cons (pv 1) pa_nil))
        (pps_cons pe_str (pe_ifExp (pt_cmpR op_isN (pv 2) pe_non (nomark _)) pe_non (pe_callTy call_tuple_of (by rfl) T.btuple (by decide +kernel) (pa_cons (pv 2) pa_nil)))
        (pps_cons pe_str (pe_callTy call_tuple_of (by rfl) T.btuple (by decide +kernel) (pa_cons (pv 3) pa_nil))
        (pps_cons pe_str (pe_ifExp (pt_cmpR op_isN (pv 4) pe_non (nomark _)) pe_non (pe_callTy call_tuple_of (by rfl) T.btuple (by decide +kernel) (pa_cons (pv 4) pa_nil)))
        (pps_cons pe_str (pe_callTy call_tuple_of (by rfl) T.btuple (by decide +kernel) (pa_cons (pv 5) pa_nil)) pps_nil))))) rfl rfl (by intro h; cases h) (by decide)))
      (pss_cons (ps_set (i := 10) scPi.nd rfl (Or.inl rfl) (pe_ifExp (pt_cmpR op_isN (pv 7) pe_non (nomark _)) pe_dnewK (pe_callTy call_dictD (by rfl) N.bdict (by decide +kernel) (pa_cons (pv 7) pa_nil))))
      (pss_cons (ps_expr (C8.pe_c cCp hr (by decide) rfl (pa_cons (pv 9) pa_nil)))
      (pss_cons (ps_expr (C8.pe_c cCz hr (by decide) rfl (pa_cons (pv 9) pa_nil)))
      (pss_cons (ps_expr (C8.pe_c cCt hr (by decide) rfl (pa_cons (pv 6) (pa_cons (pv 10) (pa_cons (pv 8) pa_nil)))))
      (pss_cons (ps_fld (pv 0) (C8.pe_c cAn hr (by decide) rfl (pa_cons (pv 9) (pa_cons (pv 6) (pa_cons (pv 10) (pa_cons (pv 8) pa_nil))))) rfl)
      (pss_cons (ps_expr (C8.pe_c cCv hr (by decide) rfl (pa_cons (pv 9) (pa_cons (pv 6) (pa_cons (pv 10) (pa_cons (pv 8) pa_nil))))))
      (pss_cons (ps_fld (pv 0) (pv 9) rfl)
      (pss_cons (ps_fld (pv 0) (pe_callTy call_tuple_of (by rfl) T.btuple (by decide +kernel) (pa_cons (pe_callBK (NSK.cr_sortedKS rfl) (by rfl) TA.bsorted (by decide +kernel) (pa_cons (pv 6) pa_nil) (pk_cons (pe_bltn (v := .ty "str") (by rfl) T.bstr (by decide +kernel) rfl) pk_nil)) pa_nil)) rfl)
      (pss_cons (ps_fld (pv 0) (pv 10) rfl)
      (pss_one (ps_fld (pv 0) (pe_callTy call_tuple_of (by rfl) T.btuple (by decide +kernel) (pa_cons (pe_callBK (NSK.cr_sortedKS rfl) (by rfl) TA.bsorted (by decide +kernel) (pa_cons (pv 8) pa_nil) (pk_cons (pe_bltn (v := .ty "str") (by rfl) T.bstr (by decide +kernel) rfl) pk_nil)) pa_nil)) rfl)))))))))))), ?_⟩
    intro Pd hPd
    have s0 : Same H (upd H Pd (.dK [])) := Same.new hPd
    dsimp only [tPairs, tC]
    refine tupR (i := 1) rfl (ar.a.same s0) fun p1 H1 s1 a1 => ?_
    have g1 := s1
    have s1 := s0.trans s1
    refine optR (i := 2) rfl (ar.l.same s1) fun w2 H2 s2 a2 => ?_
    have t2 := s1.trans s2
    refine tupR (i := 3) rfl (ar.b.same t2) fun p3 H3 s3 a3 => ?_
    have t3 := t2.trans s3
    refine optR (i := 4) rfl (ar.s.same t3) fun w4 H4 s4 a4 => ?_
    have t4 := t3.trans s4
    refine tupR (i := 5) rfl (ar.h.same t4) fun p5 H5 s5 a5 => ?_
    have t5 := t4.trans s5
    have a4 := a4.same s5
    have a3 := (a3.same s4).same s5
    have a2 := ((a2.same s3).same s4).same s5
    have a1 := (((a1.same s2).same s3).same s4).same s5
    have gP5 : H5 Pd = some (.dK []) := s5 _ _ (s4 _ _ (s3 _ _ (s2 _ _ (g1 _ _ upd_same))))
    refine ⟨gP5, kvsP (.ref p1) w2 (.ref p3) w4 (.ref p5), rfl, by show 5 ≤ 15; decide, ?_⟩
    have hm : mergeK [] (kvsP (.ref p1) w2 (.ref p3) w4 (.ref p5)) = kvsP (.ref p1) w2 (.ref p3) w4 (.ref p5) := rfl
    rw [hm]
    have kd : KD H5 (upd H5 Pd (.dK (kvsP (.ref p1) w2 (.ref p3) w4 (.ref p5)))) := fun b o e n => by
      have ne : b ≠ Pd := fun z => by
        rw [z, gP5] at e
        exact n _ (Option.some.inj e).symm
      rw [upd_ne ne]
      exact e
    have par : PartsD K d (upd H5 Pd (.dK (kvsP (.ref p1) w2 (.ref p3) w4 (.ref p5)))) Pd t.g :=
      ⟨_, _, _, _, _, upd_same, ⟨p1, rfl, a1.kd kd⟩, a2.kd kd, ⟨p3, rfl, a3.kd kd⟩, a4.kd kd, ⟨p5, rfl, a5.kd kd⟩⟩
    have t6 : Same H (upd H5 Pd (.dK (kvsP (.ref p1) w2 (.ref p3) w4 (.ref p5)))) := sameUpd t5 hPd
    clear kd gP5 a1 a2 a3 a4 a5 t5 t4 t3 t2 s1 g1 s0 hm s2 s3 s4 s5 hPd
    generalize (upd H5 Pd (.dK (kvsP (.ref p1) w2 (.ref p3) w4 (.ref p5)))) = H6 at *
    obtain ⟨gv, rfl, hgv⟩ := ar.gv
    obtain ⟨rs, rfl, hrs⟩ := ar.rs
    refine agR (i := 7) (l := t.ag) rfl (ar.ag.imp id fun ⟨p, e, h⟩ => ⟨p, e, t6 _ _ h⟩) fun a ha => ?_
    have t7 := t6.trans (Same.new (o := .dK (agK t.ag)) ha)
    have B7 : PSt K d t x C dx Pd a gv rs H (upd H6 a (.dK (agK t.ag))) [] := ⟨t7 _ _ hx, par.same (Same.new ha), upd_same, hgv.same t7, hrs.same t7, fun b o _ e => t7 _ _ e⟩
    clear t7 par t6 ha
    generalize (upd H6 a (.dK (agK t.ag))) = H7 at *
    refine ⟨_, rfl, Pd, t.g, rfl, B7.par, ok.shape, ?_⟩
    refine ⟨_, rfl, Pd, t.g, rfl, B7.par, ok.sizes, fun H8 s8 => ?_⟩
    have B8 := B7.same s8
    refine ⟨_, rfl, _, rfl, _, rfl, gv, a, rs, t.us, t.rs, t.ag, rfl, B8.gv, B8.ag, B8.rs, ok.us, ok.ag, ok.rs, fun H9 s9 => ?_⟩
    have B9 := B8.same s9
    obtain ⟨pool, hp1, hp2⟩ := ok.six
    refine ⟨_, rfl, _, rfl, _, rfl, _, rfl, Pd, gv, a, rs, t.g, t.us, t.rs, pool, t.ag, rfl, B9.par, B9.gv, B9.ag, B9.rs, hp1, hp2, ok.size, fun ns nt H10 nasc s10 hnt gnt => ?_⟩
    have B10 := B9.same s10
    refine ⟨_, rfl, x, C, dx, _, rfl, B10.hx, pc.cl, pc.n1, by decide, ?_⟩
    have B11 := B10.put (fs2 := [("_names", .ref nt)]) (fun v r e => by cases e)
    have gnt := tupUpd (o := .ins C dx [("_names", .ref nt)]) gnt B10.hx
    clear B7 B8 B9 s8 s9 s10 hnt
    rw [show putF (Str.ofString "_names") (V.ref nt) ([] : List (Str × V)) = ([("_names", .ref nt)] : List (Str × V)) from rfl]
    generalize (upd H10 x (.ins C dx [("_names", .ref nt)])) = H11 at *
    clear B10
    refine ⟨_, rfl, _, rfl, _, rfl, _, rfl, Pd, gv, a, rs, t.g, t.us, t.rs, t.ag, rfl, B11.par, B11.gv, B11.ag, B11.rs, ok.rs.few, by have := ok.size; omega, ok.v, fun H12 s12 => ?_⟩
    have B12 := B11.same s12
    have gnt := s12 _ _ gnt
    refine ⟨_, rfl, _, rfl, x, C, dx, _, rfl, B12.hx, pc.cl, pc.n2, by show 1 < 1000; decide, ?_⟩
    have B13 := B12.put (fs2 := [("_names", .ref nt), ("_parts", .ref Pd)]) (noUses (by decide +kernel))
    have gnt := tupUpd (o := .ins C dx [("_names", .ref nt), ("_parts", .ref Pd)]) gnt B12.hx
    rw [show putF (Str.ofString "_parts") (V.ref Pd) ([("_names", .ref nt)] : List (Str × V)) = ([("_names", .ref nt), ("_parts", .ref Pd)] : List (Str × V)) from rfl]
    generalize (upd H12 x (.ins C dx [("_names", .ref nt), ("_parts", .ref Pd)])) = H13 at *
    clear B12 B11 s12
    refine ⟨_, rfl, gv, t.us, rfl, rfl, B13.gv.imp id .inl, by have := ok.us.few; omega, fun gs p pm srt hp => ?_⟩
    have s14 : Same H13 (upd H13 p (.lst (gs.map V.str))) := Same.new hp
    refine ⟨p, _, rfl, .inl ⟨SqL.of upd_same, fun gt hgt => ?_⟩⟩
    have s15 := s14.trans (Same.new (o := .tup (gs.map V.str)) hgt)
    have B15 := B13.same s15
    have gnt := s15 _ _ gnt
    have ggt : (upd (upd H13 p (.lst (gs.map V.str))) gt (.tup (gs.map V.str))) gt = some (.tup (gs.map V.str)) := upd_same
    clear s14 s15 hgt hp
    generalize (upd (upd H13 p (.lst (gs.map V.str))) gt (.tup (gs.map V.str))) = H15 at *
    refine ⟨_, rfl, x, C, dx, _, rfl, B15.hx, pc.cl, pc.n3, by show 2 < 1000; decide, ?_⟩
    have B16 := B15.put (fs2 := [("_names", .ref nt), ("_parts", .ref Pd), ("_given", .ref gt)]) (noUses (by decide +kernel))
    have gnt := tupUpd (o := .ins C dx [("_names", .ref nt), ("_parts", .ref Pd), ("_given", .ref gt)]) gnt B15.hx
    have ggt := tupUpd (o := .ins C dx [("_names", .ref nt), ("_parts", .ref Pd), ("_given", .ref gt)]) ggt B15.hx
    rw [show putF (Str.ofString "_given") (V.ref gt) ([("_names", .ref nt), ("_parts", .ref Pd)] : List (Str × V)) = ([("_names", .ref nt), ("_parts", .ref Pd), ("_given", .ref gt)] : List (Str × V)) from rfl]
    generalize (upd H15 x (.ins C dx [("_names", .ref nt), ("_parts", .ref Pd), ("_given", .ref gt)])) = H16 at *
    refine ⟨_, rfl, _, rfl, x, C, dx, _, rfl, B16.hx, pc.cl, pc.n4, by show 3 < 1000; decide, ?_⟩
    have B17 := B16.put (fs2 := [("_names", .ref nt), ("_parts", .ref Pd), ("_given", .ref gt), ("_again", .ref a)]) (noUses (by decide +kernel))
    have gnt := tupUpd (o := .ins C dx [("_names", .ref nt), ("_parts", .ref Pd), ("_given", .ref gt), ("_again", .ref a)]) gnt B16.hx
    have ggt := tupUpd (o := .ins C dx [("_names", .ref nt), ("_parts", .ref Pd), ("_given", .ref gt), ("_again", .ref a)]) ggt B16.hx
    rw [show putF (Str.ofString "_again") (V.ref a) ([("_names", .ref nt), ("_parts", .ref Pd), ("_given", .ref gt)] : List (Str × V)) = ([("_names", .ref nt), ("_parts", .ref Pd), ("_given", .ref gt), ("_again", .ref a)] : List (Str × V)) from rfl]
    generalize (upd H16 x (.ins C dx [("_names", .ref nt), ("_parts", .ref Pd), ("_given", .ref gt), ("_again", .ref a)])) = H17 at *
    clear B13 B15 B16
    refine ⟨_, rfl, rs, t.rs, rfl, rfl, B17.rs.imp id .inl, by have := ok.rs.few; omega, fun ws p2 pm2 srt2 hp2 => ?_⟩
    have s18 : Same H17 (upd H17 p2 (.lst (ws.map V.str))) := Same.new hp2
    refine ⟨p2, _, rfl, .inl ⟨SqL.of upd_same, fun rt hrt => ?_⟩⟩
    have s19 := s18.trans (Same.new (o := .tup (ws.map V.str)) hrt)
    have B19 := B17.same s19
    have gnt := s19 _ _ gnt
    have ggt := s19 _ _ ggt
    have grt : (upd (upd H17 p2 (.lst (ws.map V.str))) rt (.tup (ws.map V.str))) rt = some (.tup (ws.map V.str)) := upd_same
    clear s18 s19 hrt hp2
    generalize (upd (upd H17 p2 (.lst (ws.map V.str))) rt (.tup (ws.map V.str))) = H19 at *
    refine ⟨_, rfl, x, C, dx, _, rfl, B19.hx, pc.cl, pc.n5, by show 4 < 1000; decide, ?_⟩
    have B20 := B19.put (fs2 := [("_names", .ref nt), ("_parts", .ref Pd), ("_given", .ref gt), ("_again", .ref a), ("_results", .ref rt)]) (noUses (by decide +kernel))
    have gnt := tupUpd (o := .ins C dx [("_names", .ref nt), ("_parts", .ref Pd), ("_given", .ref gt), ("_again", .ref a), ("_results", .ref rt)]) gnt B19.hx
    have ggt := tupUpd (o := .ins C dx [("_names", .ref nt), ("_parts", .ref Pd), ("_given", .ref gt), ("_again", .ref a), ("_results", .ref rt)]) ggt B19.hx
    have grt := tupUpd (o := .ins C dx [("_names", .ref nt), ("_parts", .ref Pd), ("_given", .ref gt), ("_again", .ref a), ("_results", .ref rt)]) grt B19.hx
    exact q _ B20.bt ⟨dx, nt, Pd, gt, a, rt, ns, gs, ws, B20.hx, gnt, B20.par, ggt, B20.ag, grt, nasc, asc_of pm srt ok.us.nr, asc_of pm2 srt2 ok.rs.nr⟩
end
end K33

set_option Elab.async false
set_option linter.all false
set_option maxRecDepth 100000
set_option maxHeartbeats 4000000
/-! needed_along. -/
namespace K33
open PySem L2 NX NU
open PyProof.Rows (sortedS)
abbrev sAl : Stmt := top 33
abbrev NAl : List Str := ["deeds", "names", "found", "deed", "name"]
theorem scAl : FnScope NAl ["deeds", "names"] (defScope sAl) := ⟨rfl, rfl, rfl, by decide +kernel, rfl, by decide +kernel, by decide +kernel⟩
theorem takeSnoc {α : Type} {l : List α} {i : Nat} {a : α} (h : l[i]? = some a) : l.take (i + 1) = l.take i ++ [a] := by rw [List.take_add_one, h]; rfl
/-- the names behind some deeds that are still to be used, W those behind all of them -/
def Want (W : Str → Prop) : List Act → Str → Prop
  | [], z => W z
  | a :: r, z => z ∈ a.2 ∨ (a.1 ≠ some z ∧ Want W r z)
/-- a tuple of the names W, ascending -/
def NmT (H : Hp) (q : Addr) (W : Str → Prop) : Prop := ∃ ns : List Str, H q = some (.tup (ns.map V.str)) ∧ sortedS ns = true ∧ ns.Nodup ∧ ∀ z, z ∈ ns ↔ W z
theorem NmT.same {H H' : Hp} {q : Addr} {W : Str → Prop} (s : Same H H') (h : NmT H q W) : NmT H' q W := by
  obtain ⟨ns, a, b⟩ := h
  exact ⟨ns, s _ _ a, b⟩
theorem NmT.kl {H H' : Hp} {q : Addr} {W : Str → Prop} (s : KL H H') (h : NmT H q W) : NmT H' q W := by
  obtain ⟨ns, a, b⟩ := h
  exact ⟨ns, s _ _ a (fun _ e => nomatch e), b⟩
/-- names behind the deeds, one row for each place -/
def Rows (H : Hp) (r : Addr) (as : List Act) (W : Str → Prop) : Prop := ∃ qs : List Addr, H r = some (.lst (qs.map V.ref)) ∧ qs.length = as.length + 1 ∧ ∀ (j : Nat) q, qs[j]? = some q → NmT H q (Want W (as.drop j))
def spAl (K : PySem.W.Frag) (d : D3) : Sp := fun vs H Q _ => ∃ (p q : Addr) (as : List Act) (W : Str → Prop) (pool : List Str), vs = [.ref p, .ref q] ∧ Deeds K d H p as ∧ NmT H q W ∧ (∀ z, W z → z ∈ pool) ∧ (∀ z ∈ actsN as, z ∈ pool) ∧ pool.length ≤ 6 ∧ as.length ≤ 300 ∧
  ∀ r H', Same H H' → H r = none → Rows H' r as W → Q (.ref r) H'
theorem wantIn {W : Str → Prop} {pool : List Str} (hW : ∀ z, W z → z ∈ pool) : ∀ {as : List Act}, (∀ z ∈ actsN as, z ∈ pool) → ∀ z, Want W as z → z ∈ pool
  | [], _, z, h => hW z h
  | a :: r, ha, z, h => by
    have e : actsN (a :: r) = a.ns ++ actsN r := by unfold actsN; rw [List.map_cons, List.flatten_cons]
    rw [e] at ha
    rcases h with h | ⟨_, h⟩
    · exact ha z (List.mem_append_left _ (List.mem_append_right _ h))
    · exact wantIn hW (fun y hy => ha y (List.mem_append_right _ hy)) z h
theorem actsIn {as : List Act} {j : Nat} {a : Act} (h : as[j]? = some a) : ∀ z ∈ a.ns, z ∈ actsN as := fun z hz => by
  unfold actsN
  exact List.mem_flatten.mpr ⟨_, List.mem_map_of_mem (List.mem_of_getElem? h), hz⟩
theorem actsDrop (as : List Act) (j : Nat) : ∀ z ∈ actsN (as.drop j), z ∈ actsN as := fun z hz => by
  unfold actsN at *
  obtain ⟨l, hl, h⟩ := List.mem_flatten.mp hz
  obtain ⟨a, ha, rfl⟩ := List.mem_map.mp hl
  exact List.mem_flatten.mpr ⟨_, List.mem_map_of_mem (List.mem_of_mem_drop ha), h⟩
section
variable {P : Program} {w : World} {K : PySem.W.Frag} {mg : Str → Option Value} {base : Heap}
theorem ok_al {d : D3} {f : Addr} {fd : FuncData} (F : Fun K "needed_along" "needed_along" sAl f fd) (T : TxtB mg) (N : TxtP mg) (k : D3C K d) (cAsc : C8.Cal P w K mg base 1 "ascending" (spAscM K) []) : FnOk P w K mg base CX0 2 f fd ["deeds", "names"] (spAl K d) := by
  refine F.ok scAl (fun vs H Q E h => ?_) (fun cdv A outer s H vs Q E hr h => ?_)
  · obtain ⟨p, q, as, W, pool, rfl, _⟩ := h
    rfl
  · obtain ⟨p, q, as, W, pool, rfl, hD, hN, hW, hA, h6, h300, kq⟩ := h
    refine ⟨_, (pss_cons (ps_set (i := 2) scAl.nd rfl (Or.inl rfl) (pe_lst (pa_cons (pv 1) pa_nil)))
      (pss_cons (ps_for PassesOwn.never rfl (pi_reversed (by rfl) N.brev (pa_cons (pe_callTy call_list_of (by rfl) T.blist (by decide +kernel) (pa_cons (pv 0) pa_nil)) pa_nil)) (pg_name (i := 3) scAl.nd rfl (Or.inr rfl))
        (pss_cons (ps_set (i := 1) scAl.nd rfl (Or.inl rfl) (C8.pe_c cAsc hr (by decide) rfl (pa_cons (pe_tup (StX.pa_star (pe_fld (pv 3) rfl) (StX.pa_star (pe_lc (own := [("name", 4)]) (g := gName 4) rfl scAl.nd (pi_tup (pv 1)) (blkOk_by (own := [("name", 4)]) (N := NAl) (sc := defScope sAl) (by decide +kernel)) (fun _ _ _ _ _ => pg_name (i := 4) scAl.nd rfl (Or.inl rfl)) (fun _ _ _ _ _ => pts_one (pt_cmpR op_ne (pv 4) (show PE _ _ (tFld K (tVar 3) "makes") from pe_fld (pv 3) rfl) (nomark _))) (fun _ _ _ _ _ => pv 4)) pa_nil))) pa_nil)))
        (pss_one (ps_expr (pe_bm PySem.F.plainAttrs_list PySem.F.slot_list_append PySem.F.type_list_append mt_append (pv 2) (pa_cons (pv 1) pa_nil))))))
      (pss_one (ps_ret (pe_revL (pv 2)))))), ?_⟩
    obtain ⟨xd, hx2, hal⟩ := hD
    have z1000 : (1000 : Nat) < sizeLine := by decide
    refine ⟨_, rfl, by show 1 ≤ sizeLine; decide, fun Fd hFd => ?_⟩
    have s1 : Same H (upd H Fd (.lst [.ref q])) := Same.new hFd
    refine ⟨_, rfl, p, _, rfl, .inr (sqT_same s1 hx2), fun L hL => ?_⟩
    have s12 : Same _ (upd (upd H Fd (.lst [.ref q])) L (.lst (xd.map V.ref))) := Same.new hL
    have s2 := s1.trans s12
    have gF : (upd (upd H Fd (.lst [.ref q])) L (.lst (xd.map V.ref))) Fd = some (.lst (([q] : List Addr).map V.ref)) := s12 _ _ upd_same
    have gL : (upd (upd H Fd (.lst [.ref q])) L (.lst (xd.map V.ref))) L = some (.lst (xd.map V.ref)) := upd_same
    have nLF : L ≠ Fd := fun e => by rw [e, upd_same] at hL; cases hL
    clear s12 s1 hL
    generalize (upd (upd H Fd (.lst [.ref q])) L (.lst (xd.map V.ref))) = H2 at *
    have lx : (xd.map V.ref).length = as.length := by rw [List.length_map]; exact hal.1
    refine ⟨L, _, rfl, SqL.of gL, ?_⟩
    refine RT.for_Itv (xs := xd.map V.ref) (fun i σ H' => Same H H' ∧ KL H2 H' ∧ H' L = some (.lst (xd.map V.ref)) ∧ i ≤ as.length ∧ ∃ (q1 : Addr) (x3 x4 : Option V), σ = [some (.ref p), some (.ref q1), some (.ref Fd), x3, x4] ∧ NmT H' q1 (Want W (as.drop (as.length - i))) ∧
      ∃ qs : List Addr, H' Fd = some (.lst (qs.map V.ref)) ∧ qs.length = i + 1 ∧ ∀ (j : Nat) q, qs[j]? = some q → NmT H' q (Want W (as.drop (as.length - j)))) ?_ (fun i σ H' ⟨_, _, g, _⟩ => SqL.of g) ?_ ?_
    · refine ⟨s2, KL.refl H2, gL, Nat.zero_le _, q, _, _, rfl, ?_, [q], gF, rfl, fun j q2 h => ?_⟩
      · rw [Nat.sub_zero, List.drop_length]
        exact hN.same s2
      · match j, h with
        | 0, h =>
          cases h
          rw [Nat.sub_zero, List.drop_length]
          exact hN.same s2
    · rintro i x σ H3 hi hx ⟨s3, kl, gL3, hile, q1, x3, x4, rfl, hq1, qs, gF3, lq, hqs⟩
      rw [lx] at hx hi
      rw [List.getElem?_map] at hx
      obtain ⟨xa, hxa, rfl⟩ := Option.map_eq_some_iff.mp hx
      obtain ⟨a, ha⟩ : ∃ a, as[as.length - 1 - i]? = some a := ⟨_, List.getElem?_eq_getElem (by omega)⟩
      obtain ⟨ys, hD⟩ := hal.2 _ xa a hxa ha
      have hD := (hD.same s2).kl kl
      have kc := k.at_ a.1 a.2
      obtain ⟨dx, pu, pn, d1, d2, d3⟩ := id hD.dd
      have dr : as.drop (as.length - (i + 1)) = a :: as.drop (as.length - i) := by
        have e : as.length - (i + 1) = as.length - 1 - i := by omega
        have e2 : as.length - i = as.length - 1 - i + 1 := by omega
        rw [e, e2]
        have hlt : as.length - 1 - i < as.length := by omega
        rw [List.drop_eq_getElem_cons hlt]
        congr 1
        exact (List.getElem?_eq_some_iff.mp ha).2
      obtain ⟨ns, gq1, n1, n2, n3⟩ := id hq1
      refine ⟨_, rfl, xa, _, dx, _, _, rfl, d1, kc.cl, kc.nu, rfl, pu, _, rfl, .inl (SqT.of d2), ?_⟩
      refine ⟨_, rfl, q1, rfl, ⟨_, SqT.of gq1⟩, fun D hD2 => ?_⟩
      obtain ⟨fl, hfl⟩ : ∃ fl : Str → Bool, fl = fun z => !decide (V.str z = mkV a.1) := ⟨_, rfl⟩
      have few := hD.few
      have lns : ns.length ≤ 6 := by
        rw [← many_of ns n2]
        exact Nat.le_trans (many_in ns pool fun z hz => wantIn hW (fun y hy => hA y (actsDrop as _ y hy)) z ((n3 z).mp hz)) h6
      refine lc_tup (xs := ns.map V.str) (fun j H' => Same H3 H' ∧ H' D = some (.lst (((ns.take j).filter fl).map V.str))) ⟨Same.new hD2, upd_same⟩ (fun j H' _ z => SqT.of (z.1 _ _ gq1)) ?_ ?_
      · rintro j y H4 hy ⟨sj, gD⟩
        rw [List.getElem?_map] at hy
        obtain ⟨z, hz, rfl⟩ := Option.map_eq_some_iff.mp hy
        refine ⟨rfl, _, rfl, _, rfl, xa, _, dx, _, _, rfl, sj _ _ d1, kc.cl, kc.nk, rfl, (by cases a.1 <;> rfl), _, rfl, ?_⟩
        have ef : (!decide (V.str z = mkV a.1)) = fl z := by rw [hfl]
        rw [ef]
        cases hb : fl z with
        | false =>
          refine iteF ⟨sj, ?_⟩
          rw [takeSnoc hz, List.filter_append, List.filter_cons_of_neg (by rw [hb]; exact Bool.false_ne_true), List.filter_nil, List.append_nil]
          exact gD
        | true =>
          refine iteT ⟨_, rfl, _, gD, ?_, sameUpd sj hD2, ?_⟩
          · rw [List.length_map]
            have := List.length_filter_le fl (ns.take j)
            rw [List.length_take] at this
            exact Nat.lt_of_le_of_lt (by omega) z1000
          · rw [takeSnoc hz, List.filter_append, List.filter_cons_of_pos hb, List.filter_nil, List.map_append]
            exact upd_same
      · rintro H4 ⟨sj, gD⟩
        rw [List.length_map, List.take_length] at gD
        refine ⟨D, _, rfl, .inr (SqL.of gD), ?_⟩
        dsimp only [tNil]
        rw [List.append_nil, ← List.map_append]
        have lf := List.length_filter_le fl ns
        refine ⟨by rw [List.length_map, List.length_append]; exact Nat.le_trans (by omega) (Nat.le_of_lt z1000), fun T1 hT1 => ?_⟩
        have sT := sj.trans (Same.new (o := .tup ((a.2 ++ ns.filter fl).map V.str)) hT1)
        refine ⟨T1, _, pool, rfl, .inr (SqT.of upd_same), by rw [List.length_append]; omega, fun z hz => ?_, by omega, fun ys2 r H5 asc s5 hr5 gr => ?_⟩
        · rcases List.mem_append.mp hz with h | h
          · exact hA z (actsIn ha z (List.mem_append_right _ h))
          · exact wantIn hW (fun y hy => hA y (actsDrop as _ y hy)) z ((n3 z).mp (List.mem_filter.mp h).1)
        have s35 : Same H3 H5 := sT.trans s5
        have nr : NmT H5 r (Want W (as.drop (as.length - (i + 1)))) := by
          refine ⟨ys2, gr, asc.1, asc.2.1, fun z => ?_⟩
          rw [asc.2.2 z, dr, List.mem_append, List.mem_filter, n3 z, hfl]
          show _ ↔ z ∈ a.2 ∨ (a.1 ≠ some z ∧ Want W (as.drop (as.length - i)) z)
          have e : (!decide (V.str z = mkV a.1)) = true ↔ a.1 ≠ some z := by
            cases hm : a.1 with
            | none => simp [mkV]
            | some m =>
              rw [Bool.not_eq_true']
              constructor
              · intro h e
                cases e
                rw [show mkV (some z) = V.str z from rfl, decide_eq_true rfl] at h
                cases h
              · intro h
                exact decide_eq_false (fun e => h (by cases e; rfl))
          rw [e]
          constructor
          · rintro (h | ⟨h1, h2⟩)
            · exact .inl h
            · exact .inr ⟨h2, h1⟩
          · rintro (h | ⟨h1, h2⟩)
            · exact .inl h
            · exact .inr ⟨h2, h1⟩
        have gF5 := s35 _ _ gF3
        refine ⟨_, rfl, .inl ⟨rfl, _, SqL.of gF5⟩, _, rfl, Fd, _, _, rfl, rfl, gF5, by rw [List.length_map, lq]; exact Nat.lt_of_le_of_lt (by omega) z1000, ?_⟩
        have kp : KL H5 (upd H5 Fd (.lst (qs.map V.ref ++ [.ref r]))) := (KL.refl H5).put gF5
        refine ⟨sameUpd (s3.trans s35) hFd, (kl.trans (KL.of s35)).trans kp, (upd_ne nLF).trans (s35 _ _ gL3), by omega, r, _, _, rfl, nr.kl kp, qs ++ [r], upd_same.trans (by rw [List.map_append]; rfl), by rw [List.length_append, lq]; rfl, fun j q2 hj => ?_⟩
        by_cases hlt : j < qs.length
        · rw [List.getElem?_append_left hlt] at hj
          exact ((hqs j q2 hj).same s35).kl kp
        · rw [List.getElem?_append_right (by omega)] at hj
          have e : j - qs.length = 0 := by
            rcases Nat.eq_zero_or_pos (j - qs.length) with h | h
            · exact h
            · rw [List.getElem?_eq_none (by show 1 ≤ _; exact h)] at hj
              cases hj
          rw [e] at hj
          cases hj
          have : j = i + 1 := by omega
          rw [this]
          exact nr.kl kp
    · rintro σ H3 ⟨s3, kl, gL3, hile, q1, x3, x4, rfl, hq1, qs, gF3, lq, hqs⟩
      rw [lx] at lq
      refine ⟨_, rfl, Fd, _, rfl, SqL.of gF3, fun r hr3 => ?_⟩
      have s4 : Same H3 (upd H3 r (.lst (qs.map V.ref).reverse)) := Same.new hr3
      refine kq r _ (s3.trans s4) ?_ ⟨qs.reverse, upd_same.trans (by rw [List.map_reverse]), by rw [List.length_reverse]; exact lq, fun j q2 hj => ?_⟩
      · cases e : H r with
        | none => rfl
        | some o => rw [s3 _ _ e] at hr3; cases hr3
      · have hjl := (List.getElem?_eq_some_iff.mp hj).1
        rw [List.length_reverse] at hjl
        rw [List.getElem?_reverse hjl] at hj
        have := (hqs _ q2 hj).same s4
        have e : as.length - (qs.length - 1 - j) = j := by omega
        rw [e] at this
        exact this
end
end K33

set_option Elab.async false
set_option linter.all false
set_option maxRecDepth 100000
set_option maxHeartbeats 4000000
/-! needed and what it calls; a program's properties. -/
namespace K33
open PySem L2 NX NU
open PyProof.Rows (sortedS)
abbrev sNe : Stmt := top 29
abbrev sIp : Stmt := top 30
abbrev sEn : Stmt := top 31
abbrev sHd : Stmt := top 32
abbrev sPt (i : Nat) : Stmt := inClass (top 72) (i + 1)
abbrev sRs : Stmt := inClass (top 72) 8
abbrev sDof : Stmt := inClass (top 72) 13
abbrev sHp : Stmt := inClass (top 72) 14
theorem scHd : FnScope ["loop", "comes", "names"] ["loop", "comes", "names"] (defScope sHd) := ⟨rfl, rfl, rfl, by decide +kernel, rfl, by decide +kernel, by decide +kernel⟩
theorem scEn : FnScope ["program", "part", "first", "further", "second", "names"] ["program", "part", "first", "further", "second"] (defScope sEn) := ⟨rfl, rfl, rfl, by decide +kernel, rfl, by decide +kernel, by decide +kernel⟩
theorem scIp : FnScope ["program", "part", "first", "further", "second"] ["program", "part", "first", "further", "second"] (defScope sIp) := ⟨rfl, rfl, rfl, by decide +kernel, rfl, by decide +kernel, by decide +kernel⟩
theorem scNe : FnScope ["program", "place", "first", "further", "second", "part", "index"] ["program", "place", "first", "further", "second"] (defScope sNe) := ⟨rfl, rfl, rfl, by decide +kernel, rfl, by decide +kernel, by decide +kernel⟩
theorem scP1 : FnScope ["self"] ["self"] (defScope (sPt 1)) := ⟨rfl, rfl, rfl, by decide +kernel, rfl, by decide +kernel, by decide +kernel⟩
theorem scP2 : FnScope ["self"] ["self"] (defScope (sPt 2)) := ⟨rfl, rfl, rfl, by decide +kernel, rfl, by decide +kernel, by decide +kernel⟩
theorem scP3 : FnScope ["self"] ["self"] (defScope (sPt 3)) := ⟨rfl, rfl, rfl, by decide +kernel, rfl, by decide +kernel, by decide +kernel⟩
theorem scP4 : FnScope ["self"] ["self"] (defScope (sPt 4)) := ⟨rfl, rfl, rfl, by decide +kernel, rfl, by decide +kernel, by decide +kernel⟩
theorem scRs : FnScope ["self"] ["self"] (defScope sRs) := ⟨rfl, rfl, rfl, by decide +kernel, rfl, by decide +kernel, by decide +kernel⟩
theorem scDof : FnScope ["self", "part"] ["self", "part"] (defScope sDof) := ⟨rfl, rfl, rfl, by decide +kernel, rfl, by decide +kernel, by decide +kernel⟩
theorem scHp : FnScope ["self", "value", "part", "index"] ["self", "value"] (defScope sHp) := ⟨rfl, rfl, rfl, by decide +kernel, rfl, by decide +kernel, by decide +kernel⟩
def HeadW : Option (List Act) → Bool → (Str → Prop) → Str → Prop
  | none, _, W => W
  | some as, c, W => if c = true then Want W as else W
def EndW (g : Prg) (c1 c2 c3 : Bool) (W : Str → Prop) : Nat → Str → Prop
  | 0 => HeadW g.l c1 (Want (HeadW g.s c3 (Want W g.h)) g.b)
  | 1 => HeadW g.l c2 (Want (HeadW g.s c3 (Want W g.h)) g.b)
  | 2 => HeadW g.s c3 (Want W g.h)
  | 3 => HeadW g.s c2 (Want W g.h)
  | _ => W
theorem headIn {W : Str → Prop} {pool : List Str} (hW : ∀ z, W z → z ∈ pool) {o : Option (List Act)} {c : Bool} (h : ∀ z ∈ actsN (o.getD []), z ∈ pool) : ∀ z, HeadW o c W z → z ∈ pool := by
  cases o with
  | none => exact hW
  | some as =>
    cases c with
    | false => exact hW
    | true => exact fun z hz => wantIn hW h z hz
theorem partActs (g : Prg) (i : Nat) (h : i < 5) : ∀ z ∈ actsN ((g.at i).getD []), z ∈ actsN g.acts := by
  have : i = 0 ∨ i = 1 ∨ i = 2 ∨ i = 3 ∨ i = 4 := by omega
  intro z hz
  have e : actsN g.acts = actsN g.a ++ actsN (g.l.getD []) ++ actsN g.b ++ actsN (g.s.getD []) ++ actsN g.h := by
    show actsN (((((([] ++ g.a) ++ g.l.getD []) ++ g.b) ++ g.s.getD []) ++ g.h)) = _
    rw [List.nil_append, actsN_app, actsN_app, actsN_app, actsN_app]
  rw [e]
  simp only [List.mem_append]
  rcases this with rfl | rfl | rfl | rfl | rfl
  · exact .inl (.inl (.inl (.inl hz)))
  · exact .inl (.inl (.inl (.inr hz)))
  · exact .inl (.inl (.inr hz))
  · exact .inl (.inr hz)
  · exact .inr hz
theorem partLe {g : Prg} (h : g.Sizes) (i : Nat) : ((g.at i).getD []).length ≤ 300 := by
  match i with
  | 0 => exact Nat.le_trans h.a (by decide)
  | 1 => exact Nat.le_trans h.l (by decide)
  | 2 => exact Nat.le_trans h.b (by decide)
  | 3 => exact Nat.le_trans h.s (by decide)
  | n + 4 => exact Nat.le_trans h.h (by decide)
/-- a property of the class at C -/
structure Gt (P : Program) (w : World) (K : PySem.W.Frag) (mg : Str → Option Value) (base : Heap) (C : Addr) (f : Str) (sp : Sp) : Prop where
  ex : ∃ (p g : Addr) (fd : FuncData), PropOf K C f p g ∧ FnOk P w K mg base CX0 1 g fd ["self"] sp ∧ Binds K fd ["self"] []
def spPt (K : PySem.W.Frag) (d : D3) (C : Addr) (i : Nat) : Sp := fun vs H Q _ => ∃ (x : Addr) (t : Tol), vs = [.ref x] ∧ IsP K d H x C t ∧ ∀ v, PartA K d H v (t.g.at i) → Q v H
def spRs (K : PySem.W.Frag) (d : D3) (C : Addr) : Sp := fun vs H Q _ => ∃ (x : Addr) (t : Tol), vs = [.ref x] ∧ IsP K d H x C t ∧ ∀ q, NmT H q (fun z => z ∈ t.rs) → Q (.ref q) H
def spDof (K : PySem.W.Frag) (d : D3) (C : Addr) : Sp := fun vs H Q _ => ∃ (x : Addr) (t : Tol) (i : Nat) (z : Str), vs = [.ref x, .str z] ∧ IsP K d H x C t ∧ partN[i]? = some z ∧ ∀ v, PartA K d H v (t.g.at i) → Q v H
def spHp (K : PySem.W.Frag) (d : D3) (C : Addr) : Sp := fun vs H Q _ => ∃ (x pl : Addr) (t : Tol) (i j : Nat) (z : Str) (as : List Act), vs = [.ref x, .ref pl] ∧ IsP K d H x C t ∧ partN[i]? = some z ∧ t.g.at i = some as ∧ j ≤ as.length ∧ H pl = some (.tup [.str z, .int (j : Nat)]) ∧ Q (.bl true) H
def spHd (K : PySem.W.Frag) (d : D3) : Sp := fun vs H Q _ => ∃ (v : V) (c : Bool) (q : Addr) (o : Option (List Act)) (W : Str → Prop) (pool : List Str), vs = [v, .bl c, .ref q] ∧ PartA K d H v o ∧ NmT H q W ∧ (∀ z, W z → z ∈ pool) ∧ (∀ z ∈ actsN (o.getD []), z ∈ pool) ∧ pool.length ≤ 6 ∧ (o.getD []).length ≤ 300 ∧
  ∀ r H', Same H H' → NmT H' r (HeadW o c W) → Q (.ref r) H'
def spEn (K : PySem.W.Frag) (d : D3) (C : Addr) : Sp := fun vs H Q _ => ∃ (x : Addr) (t : Tol) (i : Nat) (z : Str) (c1 c2 c3 : Bool), vs = [.ref x, .str z, .bl c1, .bl c2, .bl c3] ∧ IsP K d H x C t ∧ t.Ok ∧ partN[i]? = some z ∧
  ∀ r H', Same H H' → NmT H' r (EndW t.g c1 c2 c3 (fun z => z ∈ t.rs) i) → Q (.ref r) H'
def spIp (K : PySem.W.Frag) (d : D3) (C : Addr) : Sp := fun vs H Q _ => ∃ (x : Addr) (t : Tol) (i : Nat) (z : Str) (as : List Act) (c1 c2 c3 : Bool), vs = [.ref x, .str z, .bl c1, .bl c2, .bl c3] ∧ IsP K d H x C t ∧ t.Ok ∧ partN[i]? = some z ∧ t.g.at i = some as ∧
  ∀ r H', Same H H' → Rows H' r as (EndW t.g c1 c2 c3 (fun z => z ∈ t.rs) i) → Q (.ref r) H'
def spNe (K : PySem.W.Frag) (d : D3) (C : Addr) : Sp := fun vs H Q _ => ∃ (x pl : Addr) (t : Tol) (i j : Nat) (z : Str) (as : List Act) (c1 c2 c3 : Bool), vs = [.ref x, .ref pl, .bl c1, .bl c2, .bl c3] ∧ IsP K d H x C t ∧ t.Ok ∧ partN[i]? = some z ∧ t.g.at i = some as ∧ j ≤ as.length ∧ H pl = some (.tup [.str z, .int (j : Nat)]) ∧
  ∀ q H', Same H H' → NmT H' q (Want (EndW t.g c1 c2 c3 (fun z => z ∈ t.rs) i) (as.drop j)) → Q (.ref q) H'
section
variable {P : Program} {w : World} {K : PySem.W.Frag} {mg : Str → Option Value} {base : Heap}
theorem Rows.head {H : Hp} {r : Addr} {as : List Act} {W : Str → Prop} (h : Rows H r as W) : ∃ q rest, H r = some (.lst (V.ref q :: rest)) ∧ NmT H q (Want W as) := by
  obtain ⟨qs, a, b, c⟩ := h
  cases qs with
  | nil => cases b
  | cons q l => exact ⟨q, _, a, c 0 q rfl⟩
theorem ok_hd {d : D3} {f : Addr} {fd : FuncData} (F : Fun K "needed_at_head" "needed_at_head" sHd f fd) (cAl : C8.Cal P w K mg base 2 "needed_along" (spAl K d) []) : FnOk P w K mg base CX0 3 f fd ["loop", "comes", "names"] (spHd K d) := by
  refine F.ok scHd (fun vs H Q E h => ?_) (fun cdv A outer s H vs Q E hr h => ?_)
  · obtain ⟨v, c, q, o, W, pool, rfl, _⟩ := h
    rfl
  · obtain ⟨v, c, q, o, W, pool, rfl, ho, hq, hW, hA, h6, h300, k⟩ := h
    refine ⟨_, (pss_cons (ps_if (PW.pt (pw_or (pt_cmpR op_isN (pv 0) pe_non (nomark _)) (pw_or1 (pt_not (pt_val (pv 1)))))) (pss_one (ps_ret (pv 2))) pss_nil)
      (pss_one (ps_ret (pe_ix ix_list (C8.pe_c cAl hr (by decide) rfl (pa_cons (pv 0) (pa_cons (pv 2) pa_nil))) pe_int (fun _ _ => rfl))))), ?_⟩
    refine ⟨_, rfl, rfl, _, rfl, ?_⟩
    rw [ho.isNon]
    cases o with
    | none => exact iteT (iteT ⟨_, rfl, k q H (Same.refl H) hq⟩)
    | some as =>
      refine iteF ⟨_, rfl, c, rfl, ?_⟩
      cases c with
      | false => exact iteT ⟨_, rfl, k q H (Same.refl H) hq⟩
      | true =>
        obtain ⟨p, rfl, hD⟩ := ho
        refine iteF ⟨_, rfl, _, rfl, p, q, as, W, pool, rfl, hD, hq, hW, hA, h6, h300, fun r H' s hr2 rows => ?_⟩
        obtain ⟨q0, rest, g, nq⟩ := rows.head
        exact ⟨r, _, ((0 : Nat) : Int), .ref q0, rfl, rfl, SqL.of g, atI_nat rfl, k q0 H' s nq⟩
theorem ok_p1 {d : D3} {C : Addr} {f : Addr} {fd : FuncData} (F : Fun K "loop" "Program.loop" (sPt 1) f fd) (pc : PCls K C) : FnOk P w K mg base CX0 1 f fd ["self"] (spPt K d C 1) := by
  refine F.ok scP1 (fun vs H Q E h => ?_) (fun cdv A outer s H vs Q E hr h => ?_)
  · obtain ⟨x, t, rfl, _⟩ := h
    rfl
  · obtain ⟨x, t, rfl, ip, k⟩ := h
    obtain ⟨dx, nt, Pd, gt, ag, rt, ns, gs, rs, a, b, c, _⟩ := ip.ex
    obtain ⟨v, g, pa⟩ := c.get 1 (z := "loop") rfl
    exact ⟨_, pss_one (ps_ret (pe_dget (hu_of hr) (pe_fld (pv 0) rfl) pe_str (fun _ _ => rfl))), _, rfl, x, C, dx, _, _, rfl, a, pc.cl, pc.n2, rfl, Pd, v, rfl, g, k v pa⟩
theorem ok_p2 {d : D3} {C : Addr} {f : Addr} {fd : FuncData} (F : Fun K "between" "Program.between" (sPt 2) f fd) (pc : PCls K C) : FnOk P w K mg base CX0 1 f fd ["self"] (spPt K d C 2) := by
  refine F.ok scP2 (fun vs H Q E h => ?_) (fun cdv A outer s H vs Q E hr h => ?_)
  · obtain ⟨x, t, rfl, _⟩ := h
    rfl
  · obtain ⟨x, t, rfl, ip, k⟩ := h
    obtain ⟨dx, nt, Pd, gt, ag, rt, ns, gs, rs, a, b, c, _⟩ := ip.ex
    obtain ⟨v, g, pa⟩ := c.get 2 (z := "between") rfl
    exact ⟨_, pss_one (ps_ret (pe_dget (hu_of hr) (pe_fld (pv 0) rfl) pe_str (fun _ _ => rfl))), _, rfl, x, C, dx, _, _, rfl, a, pc.cl, pc.n2, rfl, Pd, v, rfl, g, k v pa⟩
theorem ok_p3 {d : D3} {C : Addr} {f : Addr} {fd : FuncData} (F : Fun K "second" "Program.second" (sPt 3) f fd) (pc : PCls K C) : FnOk P w K mg base CX0 1 f fd ["self"] (spPt K d C 3) := by
  refine F.ok scP3 (fun vs H Q E h => ?_) (fun cdv A outer s H vs Q E hr h => ?_)
  · obtain ⟨x, t, rfl, _⟩ := h
    rfl
  · obtain ⟨x, t, rfl, ip, k⟩ := h
    obtain ⟨dx, nt, Pd, gt, ag, rt, ns, gs, rs, a, b, c, _⟩ := ip.ex
    obtain ⟨v, g, pa⟩ := c.get 3 (z := "second") rfl
    exact ⟨_, pss_one (ps_ret (pe_dget (hu_of hr) (pe_fld (pv 0) rfl) pe_str (fun _ _ => rfl))), _, rfl, x, C, dx, _, _, rfl, a, pc.cl, pc.n2, rfl, Pd, v, rfl, g, k v pa⟩
theorem ok_p4 {d : D3} {C : Addr} {f : Addr} {fd : FuncData} (F : Fun K "behind" "Program.behind" (sPt 4) f fd) (pc : PCls K C) : FnOk P w K mg base CX0 1 f fd ["self"] (spPt K d C 4) := by
  refine F.ok scP4 (fun vs H Q E h => ?_) (fun cdv A outer s H vs Q E hr h => ?_)
  · obtain ⟨x, t, rfl, _⟩ := h
    rfl
  · obtain ⟨x, t, rfl, ip, k⟩ := h
    obtain ⟨dx, nt, Pd, gt, ag, rt, ns, gs, rs, a, b, c, _⟩ := ip.ex
    obtain ⟨v, g, pa⟩ := c.get 4 (z := "behind") rfl
    exact ⟨_, pss_one (ps_ret (pe_dget (hu_of hr) (pe_fld (pv 0) rfl) pe_str (fun _ _ => rfl))), _, rfl, x, C, dx, _, _, rfl, a, pc.cl, pc.n2, rfl, Pd, v, rfl, g, k v pa⟩
theorem ok_rs {d : D3} {C : Addr} {f : Addr} {fd : FuncData} (F : Fun K "results" "Program.results" sRs f fd) (pc : PCls K C) : FnOk P w K mg base CX0 1 f fd ["self"] (spRs K d C) := by
  refine F.ok scRs (fun vs H Q E h => ?_) (fun cdv A outer s H vs Q E hr h => ?_)
  · obtain ⟨x, t, rfl, _⟩ := h
    rfl
  · obtain ⟨x, t, rfl, ip, k⟩ := h
    obtain ⟨dx, nt, Pd, gt, ag, rt, ns, gs, rs, a, b, c, e, f, g, h1, h2, h3⟩ := ip.ex
    exact ⟨_, pss_one (ps_ret (pe_fld (pv 0) rfl)), _, rfl, x, C, dx, _, _, rfl, a, pc.cl, pc.n5, rfl, k rt ⟨rs, g, h3.1, h3.2.1, h3.2.2⟩⟩
theorem ok_dof {d : D3} {C : Addr} {f : Addr} {fd : FuncData} (F : Fun K "deeds_of" "Program.deeds_of" sDof f fd) (pc : PCls K C) : FnOk P w K mg base CX0 1 f fd ["self", "part"] (spDof K d C) := by
  refine F.ok scDof (fun vs H Q E h => ?_) (fun cdv A outer s H vs Q E hr h => ?_)
  · obtain ⟨x, t, i, z, rfl, _⟩ := h
    rfl
  · obtain ⟨x, t, i, z, rfl, ip, hz, k⟩ := h
    obtain ⟨dx, nt, Pd, gt, ag, rt, ns, gs, rs, a, b, c, _⟩ := ip.ex
    obtain ⟨v, g, pa⟩ := c.get i hz
    exact ⟨_, pss_one (ps_ret (pe_dget (hu_of hr) (pe_fld (pv 0) rfl) (pv 1) (fun _ _ => rfl))), _, rfl, x, C, dx, _, _, rfl, a, pc.cl, pc.n2, rfl, _, rfl, Pd, v, rfl, g, k v pa⟩
theorem ok_hp {d : D3} {C : Addr} {f : Addr} {fd : FuncData} (F : Fun K "has_place" "Program.has_place" sHp f fd) (T : TxtB mg) (TQ : TxtQ mg K) (pc : PCls K C) (cCnt : C8.Cal P w K mg base 2 "is_count" spCnt []) : FnOk P w K mg base CX0 3 f fd ["self", "value"] (spHp K d C) := by
  refine F.ok scHp (fun vs H Q E h => ?_) (fun cdv A outer s H vs Q E hr h => ?_)
  · obtain ⟨x, pl, t, i, j, z, as, rfl, _⟩ := h
    rfl
  · obtain ⟨x, pl, t, i, j, z, as, rfl, ip, hz, ha, hj, hpl, q⟩ := h
    have hu := hu_of hr
    obtain ⟨aP, gP, sP⟩ := TQ.parts
    obtain ⟨dx, nt, Pd, gt, ag, rt, ns, gs, rs, a, b, c, _⟩ := ip.ex
    obtain ⟨v, g, pa⟩ := c.get i hz
    refine ⟨_, (pss_cons (ps_if (PW.pt (pw_or (pt_not (pt_val (pe_callB call_isi (by rfl) T.bisinstance (by decide +kernel) (pa_cons (pv 1) (pa_cons (pe_bltn (v := .ty "tuple") (by rfl) T.btuple (by decide +kernel) rfl) pa_nil))))) (pw_or1 (pt_cmpR op_ne (pe_callB call_len_seq (by rfl) T.blen (by decide +kernel) (pa_cons (pv 1) pa_nil)) pe_int (nomark _))))) pss_never pss_nil)
      (pss_cons (ps_asg (pv 1) (pg_tup rfl (pgs_cons (pg_name (i := 2) scHp.nd rfl (Or.inl rfl)) (pgs_cons (pg_name (i := 3) scHp.nd rfl (Or.inl rfl)) pgs_nil))))
      (pss_cons (ps_if (PW.pt (pw_or (pt_not (pt_val (pe_callB call_isi (by rfl) T.bisinstance (by decide +kernel) (pa_cons (pv 2) (pa_cons (pe_bltn (v := .ty "str") (by rfl) T.bstr (by decide +kernel) rfl) pa_nil))))) (pw_or (pt_cmpR op_notIn_seq (pv 2) (C8.pe_gc (v := .ref aP) rfl ⟨_, gP, rfl⟩) rfl) (pw_or1 (pt_not (pt_val (C8.pe_c cCnt hr (by decide) rfl (pa_cons (pv 3) pa_nil)))))))) pss_never pss_nil)
      (pss_one (ps_ret (pe_and (pe_cmpR op_notN (pe_dget hu (pe_fld (pv 0) rfl) (pv 2) (fun _ _ => rfl)) pe_non (nomark _)) (pe_one (pe_cmpR op_le (pv 3) (pe_callB call_len_seq (by rfl) T.blen (by decide +kernel) (pa_cons (pe_dget hu (pe_fld (pv 0) rfl) (pv 2) (fun _ _ => rfl)) pa_nil)) (nomark _))))))))), ?_⟩
    refine ⟨_, rfl, _, _, _, _, true, rfl, .ty "tuple", .base (.tup hpl), kit_ty (by decide +kernel), true, rfl, ?_⟩
    refine iteF ⟨_, rfl, pl, _, rfl, .inr (SqT.of hpl), rfl, _, rfl, iteF ?_⟩
    refine ⟨_, rfl, pl, _, rfl, SqT.of hpl, rfl, _, _, rfl, _, _, rfl, rfl, ?_⟩
    refine ⟨_, rfl, _, _, _, _, true, rfl, .ty "str", .base (.str _), kit_ty (by decide +kernel), true, rfl, ?_⟩
    refine iteF ⟨_, rfl, aP, _, rfl, .inr (sP _), rfl, by decide +kernel, _, rfl, ?_⟩
    have inp : inV (V.str z) (partN.map V.str) = true := by rw [inV_str, decide_eq_true (List.mem_of_getElem? hz)]
    rw [if_pos rfl, inp]
    refine iteF ⟨_, rfl, (j : Nat), rfl, Int.natCast_nonneg j, true, rfl, iteF ?_⟩
    refine ⟨_, rfl, x, C, dx, _, _, rfl, a, pc.cl, pc.n2, rfl, _, rfl, Pd, v, rfl, g, rfl, _, rfl, ?_⟩
    rw [pa.isNon, ha]
    refine iteT ?_
    rw [ha] at pa
    obtain ⟨p, rfl, xs, hx2, hal⟩ := pa
    refine ⟨_, rfl, _, rfl, x, C, dx, _, _, rfl, a, pc.cl, pc.n2, rfl, _, rfl, Pd, _, rfl, g, p, _, rfl, .inr hx2, _, _, rfl, rfl, ?_⟩
    show Q (.bl (decide ((j : Int) ≤ ((xs.map V.ref).length : Nat)))) H
    rw [decide_eq_true (by rw [List.length_map, hal.1]; omega)]
    exact q
/-- a program's properties -/
structure PGet (P : Program) (w : World) (K : PySem.W.Frag) (mg : Str → Option Value) (base : Heap) (d : D3) (C : Addr) : Prop where
  cl : PCls K C
  l : Gt P w K mg base C "loop" (spPt K d C 1)
  b : Gt P w K mg base C "between" (spPt K d C 2)
  s : Gt P w K mg base C "second" (spPt K d C 3)
  h : Gt P w K mg base C "behind" (spPt K d C 4)
  r : Gt P w K mg base C "results" (spRs K d C)
  dof : C8.Met P w K mg base 1 C "deeds_of" (spDof K d C) []
  hp : C8.Met P w K mg base 3 C "has_place" (spHp K d C) []
theorem partZ {i : Nat} {z : Str} (h : partN[i]? = some z) : i < 5 ∧ decide (V.str z = V.str (Str.ofString "behind")) = decide (i = 4) ∧ decide (V.str z = V.str (Str.ofString "second")) = decide (i = 3) ∧ decide (V.str z = V.str (Str.ofString "between")) = decide (i = 2) ∧ decide (V.str z = V.str (Str.ofString "loop")) = decide (i = 1) := by
  match i, h with
  | 0, h => cases h; decide +kernel
  | 1, h => cases h; decide +kernel
  | 2, h => cases h; decide +kernel
  | 3, h => cases h; decide +kernel
  | 4, h => cases h; decide +kernel
  | n + 5, h => cases h
theorem ok_en {d : D3} {C : Addr} {f : Addr} {fd : FuncData} (F : Fun K "needed_at_end" "needed_at_end" sEn f fd) (G : PGet P w K mg base d C) (cAl : C8.Cal P w K mg base 2 "needed_along" (spAl K d) []) (cHd : C8.Cal P w K mg base 3 "needed_at_head" (spHd K d) []) : FnOk P w K mg base CX0 4 f fd ["program", "part", "first", "further", "second"] (spEn K d C) := by
  refine F.ok scEn (fun vs H Q E h => ?_) (fun cdv A outer s H vs Q E hr h => ?_)
  · obtain ⟨x, t, i, z, c1, c2, c3, rfl, _⟩ := h
    rfl
  · obtain ⟨x, t, i, z, c1, c2, c3, rfl, ip, ok, hz, k⟩ := h
    obtain ⟨pL, gL, fdL, qL, FL, bL⟩ := G.l.ex
    obtain ⟨pB, gB, fdB, qB, FB, bB⟩ := G.b.ex
    obtain ⟨pS, gS, fdS, qS, FS, bS⟩ := G.s.ex
    obtain ⟨pH, gH, fdH, qH, FH, bH⟩ := G.h.ex
    obtain ⟨pR, gR, fdR, qR, FR, bR⟩ := G.r.ex
    refine ⟨_, (pss_cons (ps_set (i := 5) scEn.nd rfl (Or.inl rfl) (NX.pe_propG (pv 0) FR (hr.mono (by decide)) bR pass0 rfl))
      (pss_cons (ps_if (pt_cmpR op_eq (pv 1) pe_str (nomark _)) (pss_one (ps_ret (pv 5))) pss_nil)
      (pss_cons (ps_set (i := 5) scEn.nd rfl (Or.inl rfl) (pe_ix ix_list (C8.pe_c cAl hr (by decide) rfl (pa_cons (NX.pe_propG (pv 0) FH (hr.mono (by decide)) bH pass0 rfl) (pa_cons (pv 5) pa_nil))) pe_int (fun _ _ => rfl)))
      (pss_cons (ps_if (pt_cmpR op_eq (pv 1) pe_str (nomark _)) (pss_one (ps_ret (C8.pe_c cHd hr (by decide) rfl (pa_cons (NX.pe_propG (pv 0) FS (hr.mono (by decide)) bS pass0 rfl) (pa_cons (pv 3) (pa_cons (pv 5) pa_nil)))))) pss_nil)
      (pss_cons (ps_set (i := 5) scEn.nd rfl (Or.inl rfl) (C8.pe_c cHd hr (by decide) rfl (pa_cons (NX.pe_propG (pv 0) FS (hr.mono (by decide)) bS pass0 rfl) (pa_cons (pv 4) (pa_cons (pv 5) pa_nil)))))
      (pss_cons (ps_if (pt_cmpR op_eq (pv 1) pe_str (nomark _)) (pss_one (ps_ret (pv 5))) pss_nil)
      (pss_cons (ps_set (i := 5) scEn.nd rfl (Or.inl rfl) (pe_ix ix_list (C8.pe_c cAl hr (by decide) rfl (pa_cons (NX.pe_propG (pv 0) FB (hr.mono (by decide)) bB pass0 rfl) (pa_cons (pv 5) pa_nil))) pe_int (fun _ _ => rfl)))
      (pss_cons (ps_if (pt_cmpR op_eq (pv 1) pe_str (nomark _)) (pss_one (ps_ret (C8.pe_c cHd hr (by decide) rfl (pa_cons (NX.pe_propG (pv 0) FL (hr.mono (by decide)) bL pass0 rfl) (pa_cons (pv 3) (pa_cons (pv 5) pa_nil)))))) pss_nil)
      (pss_one (ps_ret (C8.pe_c cHd hr (by decide) rfl (pa_cons (NX.pe_propG (pv 0) FL (hr.mono (by decide)) bL pass0 rfl) (pa_cons (pv 2) (pa_cons (pv 5) pa_nil)))))))))))))), ?_⟩
    obtain ⟨i5, z4, z3, z2, z1⟩ := partZ hz
    obtain ⟨pool, hp, h6⟩ := ok.six
    have hwd : ∀ z ∈ t.rs, z ∈ pool := fun z h => hp z (by unfold Tol.words; simp [h])
    have hac : ∀ z ∈ actsN t.g.acts, z ∈ pool := fun z h => hp z (by unfold Tol.words; simp [h])
    have hpt : ∀ i, i < 5 → ∀ z ∈ actsN ((t.g.at i).getD []), z ∈ pool := fun i h z hz => hac z (partActs t.g i h z hz)
    -- the instance, at any later heap
    have inst : ∀ {H' : Hp}, Same H H' → ∃ dx fs, H' x = some (.ins C dx fs) := fun s => by
      obtain ⟨dx, nt, Pd, gt, ag, rt, ns, gs, rs, a, _⟩ := ip.ex
      exact ⟨dx, _, s _ _ a⟩
    obtain ⟨dx, fs, ix⟩ := inst (Same.refl H)
    refine ⟨_, rfl, x, C, dx, fs, pR, rfl, ix, G.cl.cl, qR, x, t, rfl, ip, fun q0 n0 => ?_⟩
    refine ⟨_, rfl, rfl, _, rfl, ?_⟩
    rw [z4]
    by_cases e4 : i = 4
    · subst e4
      rw [decide_eq_true rfl]
      exact iteT ⟨_, rfl, k q0 H (Same.refl H) n0⟩
    rw [decide_eq_false e4]
    refine iteF ⟨_, rfl, x, C, dx, fs, pH, rfl, ix, G.cl.cl, qH, x, t, rfl, ip, fun v4 a4 => ?_⟩
    obtain ⟨p4, rfl, d4⟩ := a4
    refine ⟨_, rfl, p4, q0, t.g.h, _, pool, rfl, d4, n0, hwd, hpt 4 (by decide), h6, partLe ok.sizes 4, fun r1 H1 s1 hr1 rows1 => ?_⟩
    obtain ⟨q1, rest1, g1, n1⟩ := rows1.head
    refine ⟨r1, _, ((0 : Nat) : Int), .ref q1, rfl, rfl, SqL.of g1, atI_nat rfl, ?_⟩
    have w1 : ∀ z, Want (fun z => z ∈ t.rs) t.g.h z → z ∈ pool := wantIn hwd (hpt 4 (by decide))
    obtain ⟨dx1, fs1, ix1⟩ := inst s1
    have ip1 := ip.same s1
    refine ⟨_, rfl, rfl, _, rfl, ?_⟩
    rw [z3]
    by_cases e3 : i = 3
    · subst e3
      rw [decide_eq_true rfl]
      refine iteT ⟨_, rfl, x, C, dx1, fs1, pS, rfl, ix1, G.cl.cl, qS, x, t, rfl, ip1, fun v3 a3 => ?_⟩
      exact ⟨_, rfl, _, rfl, v3, c2, q1, t.g.s, _, pool, rfl, a3, n1, w1, hpt 3 (by decide), h6, partLe ok.sizes 3, fun r H' s' nr => k r H' (s1.trans s') nr⟩
    rw [decide_eq_false e3]
    refine iteF ⟨_, rfl, x, C, dx1, fs1, pS, rfl, ix1, G.cl.cl, qS, x, t, rfl, ip1, fun v3 a3 => ?_⟩
    refine ⟨_, rfl, _, rfl, v3, c3, q1, t.g.s, _, pool, rfl, a3, n1, w1, hpt 3 (by decide), h6, partLe ok.sizes 3, fun q2 H2 s2 n2 => ?_⟩
    have t2 := s1.trans s2
    have w2 : ∀ z, HeadW t.g.s c3 (Want (fun z => z ∈ t.rs) t.g.h) z → z ∈ pool := headIn w1 (hpt 3 (by decide))
    obtain ⟨dx2, fs2, ix2⟩ := inst t2
    have ip2 := ip.same t2
    refine ⟨_, rfl, rfl, _, rfl, ?_⟩
    rw [z2]
    by_cases e2 : i = 2
    · subst e2
      rw [decide_eq_true rfl]
      exact iteT ⟨_, rfl, k q2 H2 t2 n2⟩
    rw [decide_eq_false e2]
    refine iteF ⟨_, rfl, x, C, dx2, fs2, pB, rfl, ix2, G.cl.cl, qB, x, t, rfl, ip2, fun v2 a2 => ?_⟩
    obtain ⟨p2, rfl, d2⟩ := a2
    refine ⟨_, rfl, p2, q2, t.g.b, _, pool, rfl, d2, n2, w2, hpt 2 (by decide), h6, partLe ok.sizes 2, fun r3 H3 s3 hr3 rows3 => ?_⟩
    obtain ⟨q3, rest3, g3, n3⟩ := rows3.head
    refine ⟨r3, _, ((0 : Nat) : Int), .ref q3, rfl, rfl, SqL.of g3, atI_nat rfl, ?_⟩
    have t3 := t2.trans s3
    have w3 : ∀ z, Want (HeadW t.g.s c3 (Want (fun z => z ∈ t.rs) t.g.h)) t.g.b z → z ∈ pool := wantIn w2 (hpt 2 (by decide))
    obtain ⟨dx3, fs3, ix3⟩ := inst t3
    have ip3 := ip.same t3
    refine ⟨_, rfl, rfl, _, rfl, ?_⟩
    rw [z1]
    by_cases e1 : i = 1
    · subst e1
      rw [decide_eq_true rfl]
      refine iteT ⟨_, rfl, x, C, dx3, fs3, pL, rfl, ix3, G.cl.cl, qL, x, t, rfl, ip3, fun v1 a1 => ?_⟩
      exact ⟨_, rfl, _, rfl, v1, c2, q3, t.g.l, _, pool, rfl, a1, n3, w3, hpt 1 (by decide), h6, partLe ok.sizes 1, fun r H' s' nr => k r H' (t3.trans s') nr⟩
    rw [decide_eq_false e1]
    have e0 : i = 0 := by omega
    subst e0
    refine iteF ⟨_, rfl, x, C, dx3, fs3, pL, rfl, ix3, G.cl.cl, qL, x, t, rfl, ip3, fun v1 a1 => ?_⟩
    exact ⟨_, rfl, _, rfl, v1, c1, q3, t.g.l, _, pool, rfl, a1, n3, w3, hpt 1 (by decide), h6, partLe ok.sizes 1, fun r H' s' nr => k r H' (t3.trans s') nr⟩
end
end K33

set_option Elab.async false
set_option linter.all false
set_option maxRecDepth 100000
set_option maxHeartbeats 4000000
/-! needed_in_part, needed. -/
namespace K33
open PySem L2 NX NU
open PyProof.Rows (sortedS)
theorem endIn {t : Tol} {pool : List Str} (hp : ∀ z ∈ t.words, z ∈ pool) (c1 c2 c3 : Bool) (i : Nat) : ∀ z, EndW t.g c1 c2 c3 (fun z => z ∈ t.rs) i z → z ∈ pool := by
  have hwd : ∀ z ∈ t.rs, z ∈ pool := fun z h => hp z (by unfold Tol.words; simp [h])
  have hac : ∀ z ∈ actsN t.g.acts, z ∈ pool := fun z h => hp z (by unfold Tol.words; simp [h])
  have hpt : ∀ i, i < 5 → ∀ z ∈ actsN ((t.g.at i).getD []), z ∈ pool := fun i h z hz => hac z (partActs t.g i h z hz)
  have w1 : ∀ z, Want (fun z => z ∈ t.rs) t.g.h z → z ∈ pool := wantIn hwd (hpt 4 (by decide))
  have w3 : ∀ z, Want (HeadW t.g.s c3 (Want (fun z => z ∈ t.rs) t.g.h)) t.g.b z → z ∈ pool := wantIn (headIn w1 (hpt 3 (by decide))) (hpt 2 (by decide))
  match i with
  | 0 => exact headIn w3 (hpt 1 (by decide))
  | 1 => exact headIn w3 (hpt 1 (by decide))
  | 2 => exact headIn w1 (hpt 3 (by decide))
  | 3 => exact headIn w1 (hpt 3 (by decide))
  | n + 4 => exact hwd
section
variable {P : Program} {w : World} {K : PySem.W.Frag} {mg : Str → Option Value} {base : Heap}
theorem ok_ip {d : D3} {C : Addr} {f : Addr} {fd : FuncData} (F : Fun K "needed_in_part" "needed_in_part" sIp f fd) (G : PGet P w K mg base d C) (cAl : C8.Cal P w K mg base 2 "needed_along" (spAl K d) []) (cEn : C8.Cal P w K mg base 4 "needed_at_end" (spEn K d C) []) : FnOk P w K mg base CX0 5 f fd ["program", "part", "first", "further", "second"] (spIp K d C) := by
  refine F.ok scIp (fun vs H Q E h => ?_) (fun cdv A outer s H vs Q E hr h => ?_)
  · obtain ⟨x, t, i, z, as, c1, c2, c3, rfl, _⟩ := h
    rfl
  · obtain ⟨x, t, i, z, as, c1, c2, c3, rfl, ip, ok, hz, ha, k⟩ := h
    refine ⟨_, pss_one (ps_ret (C8.pe_c cAl hr (by decide) rfl (pa_cons (C8.pe_mt G.dof hr (by decide) (pv 0) (pa_cons (pv 1) pa_nil)) (pa_cons (C8.pe_c cEn hr (by decide) rfl (pa_cons (pv 0) (pa_cons (pv 1) (pa_cons (pv 2) (pa_cons (pv 3) (pa_cons (pv 4) pa_nil)))))) pa_nil)))), ?_⟩
    obtain ⟨dx, nt, Pd, gt, ag, rt, ns, gs, rs, a, _⟩ := id ip.ex
    obtain ⟨pool, hp, h6⟩ := ok.six
    have hac : ∀ z ∈ actsN t.g.acts, z ∈ pool := fun z h => hp z (by unfold Tol.words; simp [h])
    have i5 := (partF hz).1
    refine ⟨_, rfl, x, dx, _, rfl, a, rfl, _, rfl, x, t, i, z, rfl, ip, hz, fun v pa => ?_⟩
    rw [ha] at pa
    obtain ⟨p, rfl, hD⟩ := pa
    refine ⟨_, rfl, _, rfl, _, rfl, _, rfl, _, rfl, x, t, i, z, c1, c2, c3, rfl, ip, ok, hz, fun r H1 s1 nr => ?_⟩
    have le := partLe ok.sizes i
    have pt := partActs t.g i i5
    rw [ha] at le pt
    exact ⟨p, r, as, _, pool, rfl, hD.same s1, nr, endIn hp c1 c2 c3 i, fun z hz => hac z (pt z hz), h6, le, fun r2 H2 s2 hr2 rows => k r2 H2 (s1.trans s2) rows⟩
theorem ok_ne {d : D3} {C : Addr} {dvs : List V} {kws : List (Str × V)} {f : Addr} {fd : FuncData} (F : L2.FunD K "needed" "needed" (defArgs sNe) (defBody sNe) (defScope sNe) dvs kws f fd) (G : PGet P w K mg base d C) (cIp : C8.Cal P w K mg base 5 "needed_in_part" (spIp K d C) []) :
    FnOk P w K mg base CX0 6 f fd ["program", "place", "first", "further", "second"] (spNe K d C) := by
  refine F.ok scNe (fun vs H Q E h => ?_) (fun cdv A outer s H vs Q E hr h => ?_)
  · obtain ⟨x, pl, t, i, j, z, as, c1, c2, c3, rfl, _⟩ := h
    rfl
  · obtain ⟨x, pl, t, i, j, z, as, c1, c2, c3, rfl, ip, ok, hz, ha, hj, hpl, k⟩ := h
    refine ⟨_, (pss_cons (ps_if (pt_not (pt_val (C8.pe_mt G.hp hr (by decide) (pv 0) (pa_cons (pv 1) pa_nil)))) pss_never pss_nil)
      (pss_cons (ps_asg (pv 1) (pg_tup rfl (pgs_cons (pg_name (i := 5) scNe.nd rfl (Or.inl rfl)) (pgs_cons (pg_name (i := 6) scNe.nd rfl (Or.inl rfl)) pgs_nil))))
      (pss_one (ps_ret (pe_ix ix_list (C8.pe_c cIp hr (by decide) rfl (pa_cons (pv 0) (pa_cons (pv 5) (pa_cons (pv 2) (pa_cons (pv 3) (pa_cons (pv 4) pa_nil)))))) (pv 6) (fun _ _ => rfl)))))), ?_⟩
    obtain ⟨dx, nt, Pd, gt, ag, rt, ns, gs, rs, a, _⟩ := id ip.ex
    refine ⟨_, rfl, x, dx, _, rfl, a, rfl, _, rfl, x, pl, t, i, j, z, as, rfl, ip, hz, ha, hj, hpl, true, rfl, iteF ?_⟩
    refine ⟨_, rfl, pl, _, rfl, SqT.of hpl, rfl, _, _, rfl, _, _, rfl, rfl, ?_⟩
    refine ⟨_, rfl, _, rfl, _, rfl, _, rfl, _, rfl, x, t, i, z, as, c1, c2, c3, rfl, ip, ok, hz, ha, fun r H1 s1 rows => ?_⟩
    obtain ⟨qs, g, lq, kq⟩ := rows
    obtain ⟨q, hq⟩ : ∃ q, qs[j]? = some q := ⟨_, List.getElem?_eq_getElem (by omega)⟩
    refine ⟨_, rfl, r, _, (j : Nat), .ref q, rfl, rfl, SqL.of g, atI_nat (by rw [List.getElem?_map, hq]; rfl), k q H1 s1 (kq j q hq)⟩
end
end K33

set_option Elab.async false
set_option linter.all false
set_option maxRecDepth 100000
set_option maxHeartbeats 4000000
/-! The law's deeds. -/
namespace K33
open PySem L2 NX NU
open PyProof.Rows (sortedS)
abbrev sOr : Stmt := top 83
abbrev sDs : Stmt := top 84
abbrev NDs : List Str := ["_law_pen_here", "_law_known", "_law_free", "_law_most", "_law_found", "_law_here", "_law_lap", "_law_way", "_law_used", "_law_made"]
theorem scOr : FnScope [] [] (defScope sOr) := ⟨rfl, rfl, rfl, by decide +kernel, rfl, by decide +kernel, by decide +kernel⟩
theorem scDs : FnScope NDs ["_law_pen_here", "_law_known", "_law_free", "_law_most"] (defScope sDs) := ⟨rfl, rfl, rfl, by decide +kernel, rfl, by decide +kernel, by decide +kernel⟩
/-- lots (made, used) at the addresses ts -/
def LotsT (H : Hp) (ts : List Addr) (as : List Act) : Prop := ts.length = as.length ∧ ∀ (i : Nat) t a, ts[i]? = some t → as[i]? = some a → ∃ u, H t = some (.tup [mkV a.1, .ref u]) ∧ H u = some (.lst (a.2.map V.str))
def LotsAt (H : Hp) (L : Addr) (as : List Act) : Prop := ∃ ts : List Addr, H L = some (.lst (ts.map V.ref)) ∧ LotsT H ts as
theorem LotsT.same {H H' : Hp} {ts : List Addr} {as : List Act} (s : Same H H') (h : LotsT H ts as) : LotsT H' ts as := ⟨h.1, fun i t a e1 e2 => (h.2 i t a e1 e2).imp fun _ q => ⟨s _ _ q.1, s _ _ q.2⟩⟩
theorem LotsAt.same {H H' : Hp} {L : Addr} {as : List Act} (s : Same H H') (h : LotsAt H L as) : LotsAt H' L as := h.imp fun _ q => ⟨s _ _ q.1, q.2.same s⟩
theorem pen_ne {H : Hp} {p c : Addr} {ns : List Int} {x y : Int} {u : Addr} {zs : List Str} (P : Pen H p c ns x y) (h : H u = some (.lst (zs.map V.str))) : u ≠ p := fun e => by
  rw [e, P.hp] at h
  injection h with h
  injection h with h
  cases zs with
  | nil => cases h
  | cons z r => injection h with h; cases h
theorem pen_ne2 {H : Hp} {p c : Addr} {ns : List Int} {x y : Int} {u : Addr} {ts : List Addr} (P : Pen H p c ns x y) (h : H u = some (.lst (ts.map V.ref))) : u ≠ p := fun e => by
  rw [e, P.hp] at h
  injection h with h
  injection h with h
  match ts, h with
  | [], h => cases h
  | [_], h => cases h
  | _ :: _ :: _, h => injection h with _ h; injection h with h; cases h
theorem LotsT.but {H H' : Hp} {p c : Addr} {ns : List Int} {x y : Int} {ts : List Addr} {as : List Act} (P : Pen H p c ns x y) (b : But p H H') (h : LotsT H ts as) : LotsT H' ts as :=
  ⟨h.1, fun i t a e1 e2 => (h.2 i t a e1 e2).imp fun _ q => ⟨b _ _ q.1 (fun e => by have z := q.1; rw [e, P.hp] at z; cases z), b _ _ q.2 (pen_ne P q.2)⟩⟩
theorem LotsAt.but {H H' : Hp} {p c : Addr} {ns : List Int} {x y : Int} {L : Addr} {as : List Act} (P : Pen H p c ns x y) (b : But p H H') (h : LotsAt H L as) : LotsAt H' L as := h.imp fun _ q => ⟨b _ _ q.1 (pen_ne2 P q.1), q.2.but P b⟩
theorem UsesOk.congr {ag : List Str} : ∀ {as : List Act} {kn kn2 : List Str}, (∀ z, z ∈ kn ↔ z ∈ kn2) → UsesOk ag kn as → UsesOk ag kn2 as
  | [], _, _, _, _ => trivial
  | a :: r, kn, kn2, e, h => ⟨fun z hz => (e z).mp (h.1 z hz), h.2.1, UsesOk.congr (fun z => by rw [List.mem_append, List.mem_append, e z]) h.2.2⟩
theorem UsesOk.snoc {ag : List Str} {a : Act} : ∀ {as : List Act} {kn : List Str}, UsesOk ag kn as → (∀ z ∈ a.2, z ∈ aft kn as) → (∀ m, a.1 = some m → m ∉ ag) → UsesOk ag kn (as ++ [a])
  | [], kn, _, h1, h2 => ⟨fun z hz => by have := h1 z hz; rw [aft_nil] at this; exact this, h2, trivial⟩
  | b :: r, kn, h, h1, h2 => ⟨h.1, h.2.1, UsesOk.snoc h.2.2 (by rw [aft_cons] at h1; exact h1) h2⟩
/-- deeds drawn: uses known, what is made free -/
structure Drw (kn fs : List Str) (as : List Act) (hs : List Str) : Prop where
  lot : ∀ a ∈ as, LotOk a.1 a.2
  uses : ∀ ag : List Str, (∀ z ∈ fs, z ∉ ag) → UsesOk ag kn as
  here : Uni hs
  eq : ∀ z, z ∈ hs ↔ z ∈ aft kn as
  hin : ∀ z ∈ hs, z ∈ kn ∨ z ∈ fs
  inn : ∀ z ∈ actsN as, z ∈ kn ∨ z ∈ fs
def spDs (K : PySem.W.Frag) : Sp := fun vs H Q _ => ∃ (p c : Addr) (ns : List Int) (at_ rest : Int) (kn fr : Addr) (ws fs : List Str) (most : Nat), vs = [.ref p, .ref kn, .ref fr, .int (most : Int)] ∧ Pen H p c ns at_ rest ∧ at_ ≤ 700000 ∧ H kn = some (.lst (ws.map V.str)) ∧ H fr = some (.lst (fs.map V.str)) ∧
  Uni ws ∧ 0 < ws.length ∧ Uni fs ∧ (∃ pool : List Str, (∀ z ∈ ws, z ∈ pool) ∧ (∀ z ∈ fs, z ∈ pool) ∧ pool.length ≤ 6) ∧ most ≤ 8 ∧
  ∀ T L Hn as hs H', H' T = some (.tup [.ref L, .ref Hn]) → LotsAt H' L as → H' Hn = some (.lst (hs.map V.str)) → as.length ≤ most → Drw ws fs as hs → Drawn H p c ns (at_ + 100) H' → Q (.ref T) H'
theorem uniLen {ws pool : List Str} (h : Uni ws) (k : ∀ z ∈ ws, z ∈ pool) : ws.length ≤ pool.length := by
  rw [← many_of ws h.1]
  exact many_in ws pool k
theorem mem_ns {a : Act} {z : Str} : z ∈ a.ns ↔ z ∈ a.2 ∨ a.1 = some z := by
  obtain ⟨m, u⟩ := a
  unfold Act.ns
  cases m with
  | none => simp
  | some m => simp only [Option.toList_some, List.singleton_append, List.mem_cons, Option.some.injEq]; exact ⟨fun h => h.elim (fun e => Or.inr e.symm) Or.inl, fun h => h.elim Or.inr (fun e => Or.inl e.symm)⟩
theorem actsN_snoc {as : List Act} {a : Act} {z : Str} : z ∈ actsN (as ++ [a]) ↔ z ∈ actsN as ∨ z ∈ a.ns := by
  rw [actsN_app, List.mem_append]
  unfold actsN
  simp
theorem Drw.start {kn fs : List Str} (u : Uni kn) : Drw kn fs [] kn := ⟨nofun, fun _ _ => trivial, u, fun z => by rw [aft_nil], fun z h => .inl h, nofun⟩
theorem Drw.snoc {kn fs : List Str} {as : List Act} {hs hs2 : List Str} {mk : Option Str} {us : List Str} (h : Drw kn fs as hs) (lo : LotOk mk us) (hu : ∀ z ∈ us, z ∈ hs) (hm : ∀ m, mk = some m → m ∈ fs) (u2 : Uni hs2) (e2 : ∀ z, z ∈ hs2 ↔ z ∈ hs ∨ mk = some z) : Drw kn fs (as ++ [(mk, us)]) hs2 where
  lot := fun a ha => (List.mem_append.mp ha).elim (h.lot a) fun e => by rw [List.mem_singleton.mp e]; exact lo
  uses := fun ag hag => (h.uses ag hag).snoc (fun z hz => (h.eq z).mp (hu z hz)) (fun m e => hag m (hm m e))
  here := u2
  eq := fun z => by
    rw [e2 z, aft_snoc, List.mem_append, h.eq z]
    cases mk with
    | none => simp
    | some m => simp [eq_comm]
  hin := fun z hz => ((e2 z).mp hz).elim (h.hin z) fun e => .inr (hm z e)
  inn := fun z hz => (actsN_snoc.mp hz).elim (h.inn z) fun e => (mem_ns.mp e).elim (fun e => h.hin z (hu z e)) fun e => .inr (hm z e)
theorem uni_sub {ws xs : List Str} (h : Uni ws) (p : Part ws xs) : Uni xs := ⟨p.nodup h.1, fun z hz => h.2 z (p.mem z hz)⟩
theorem uni_snoc {hs : List Str} {m : Str} (h : Uni hs) (n : m ∉ hs) (k : nm m = true) : Uni (hs ++ [m]) := ⟨List.nodup_append.mpr ⟨h.1, by simp, fun a ha b hb e => n (by rw [← List.mem_singleton.mp hb, ← e]; exact ha)⟩, fun z hz => (List.mem_append.mp hz).elim (h.2 z) fun e => by rw [List.mem_singleton.mp e]; exact k⟩
/-- lots that stand apart from L and N -/
def LotsX (L N : Addr) (H : Hp) (ts : List Addr) (as : List Act) : Prop := ts.length = as.length ∧ ∀ (i : Nat) t a, ts[i]? = some t → as[i]? = some a → ∃ u, u ≠ L ∧ u ≠ N ∧ H t = some (.tup [mkV a.1, .ref u]) ∧ H u = some (.lst (a.2.map V.str))
theorem LotsX.toT {L N : Addr} {H : Hp} {ts : List Addr} {as : List Act} (h : LotsX L N H ts as) : LotsT H ts as := ⟨h.1, fun i t a e1 e2 => (h.2 i t a e1 e2).imp fun _ q => q.2.2⟩
theorem LotsX.but {L N : Addr} {H H' : Hp} {p c : Addr} {ns : List Int} {x y : Int} {ts : List Addr} {as : List Act} (P : Pen H p c ns x y) (b : But p H H') (h : LotsX L N H ts as) : LotsX L N H' ts as :=
  ⟨h.1, fun i t a e1 e2 => (h.2 i t a e1 e2).imp fun _ q => ⟨q.1, q.2.1, b _ _ q.2.2.1 (fun e => by have z := q.2.2.1; rw [e, P.hp] at z; cases z), b _ _ q.2.2.2 (pen_ne P q.2.2.2)⟩⟩
theorem LotsX.put {L N : Addr} {H : Hp} {y : Addr} {xs : List V} {o : HO} {ts : List Addr} {as : List Act} (hy : y = L ∨ y = N) (g : H y = some (.lst xs)) (h : LotsX L N H ts as) : LotsX L N (upd H y o) ts as :=
  ⟨h.1, fun i t a e1 e2 => (h.2 i t a e1 e2).imp fun u q => ⟨q.1, q.2.1, (upd_ne (fun e => by have z := q.2.2.1; rw [e, g] at z; cases z)).trans q.2.2.1, (upd_ne (hy.elim (fun e => by rw [e]; exact q.1) (fun e => by rw [e]; exact q.2.1))).trans q.2.2.2⟩⟩
theorem LotsX.snoc {L N : Addr} {H : Hp} {ts : List Addr} {as : List Act} {t u : Addr} {mk : Option Str} {us : List Str} (h : LotsX L N H ts as) (n1 : u ≠ L) (n2 : u ≠ N) (g1 : H t = some (.tup [mkV mk, .ref u])) (g2 : H u = some (.lst (us.map V.str))) : LotsX L N H (ts ++ [t]) (as ++ [(mk, us)]) := by
  refine ⟨by rw [List.length_append, List.length_append, h.1]; rfl, fun i t2 a e1 e2 => ?_⟩
  by_cases hi : i < ts.length
  · rw [List.getElem?_append_left hi] at e1
    rw [List.getElem?_append_left (by rw [← h.1]; exact hi)] at e2
    exact h.2 i t2 a e1 e2
  · obtain ⟨j, rfl⟩ : ∃ j, i = ts.length + j := ⟨i - ts.length, by omega⟩
    have hl := h.1
    rw [List.getElem?_append_right (by omega)] at e1
    rw [List.getElem?_append_right (by omega)] at e2
    rw [Nat.add_sub_cancel_left] at e1
    cases j with
    | zero =>
      rw [← h.1, Nat.add_zero, Nat.sub_self] at e2
      cases e1
      cases e2
      exact ⟨u, n1, n2, g1, g2⟩
    | succ j => cases e1
theorem butPut {p : Addr} {H H' : Hp} {y : Addr} {o : HO} (b : But p H H') (h : H y = none) : But p H (upd H' y o) := fun z u e n => by
  rw [upd_ne (fun q => by rw [q, h] at e; cases e)]
  exact b z u e n
theorem Pen.put {H : Hp} {p c : Addr} {ns : List Int} {a r : Int} {y : Addr} {o : HO} (P : Pen H p c ns a r) (h1 : y ≠ p) (h2 : y ≠ c) : Pen (upd H y o) p c ns a r := ⟨(upd_ne (Ne.symm h1)).trans P.hp, (upd_ne (Ne.symm h2)).trans P.hc, P.la, P.lr⟩
/-- the made name -/
theorem madeR {K : PySem.W.Frag} {H : Hp} {σ : L2.St} {Q : VK} {p c fr : Addr} {ns : List Int} {a r d : Int} {fs : List Str} (h0 : σ[0]? = some (some (.ref p))) (h2 : σ[2]? = some (some (.ref fr))) (h7 : σ[7]? = some (some (.int d))) (Pn : Pen H p c ns a r) (ha : a ≤ 1000000) (gf : H fr = some (.lst (fs.map V.str))) (uf : Uni fs) (f6 : fs.length ≤ 6)
    (k : ∀ mk H', (∀ m, mk = some m → m ∈ fs) → Drawn H p c ns (a + 1) H' → Q (mkV mk) H') :
    tIf (tAnd (tTest (tOp (rI0 fun i j => V.bl (decide (j < i))) (tVar 7) (tC (V.int 1)))) (tTest (tOp (rNeD K) (tVar 2) (tLst tNil)))) (tCall (spPick K) [] C8.E0 (tCons (tVar 0) (tCons (tVar 2) tNil))) (tC V.non) σ H Q := by
  refine ⟨_, h7, d, 1, rfl, rfl, _, rfl, ite2 (fun _ => ?_) (fun _ => iteF (k none H nofun ⟨a, r, Pn, by omega, But.refl⟩))⟩
  refine ⟨_, h2, by show 0 ≤ sizeLine; decide, fun e he => ?_⟩
  have s1 : Same H (upd H e (.lst [])) := Same.new he
  have gf1 := s1 _ _ gf
  have P1 := Pn.same s1
  refine ⟨_, _, .lst (SqL.of gf1) (dpTup fs), .lst (SqL.of upd_same) .nil, shapedTup uf.2, by decide +kernel, _, rfl, ?_⟩
  generalize (upd H e (.lst [])) = H1 at *
  cases fs with
  | nil => exact iteF (k none H1 nofun ⟨a, r, P1, by omega, But.same s1⟩)
  | cons x q =>
    refine iteT ⟨_, h0, _, h2, p, c, ns, a, r, _, rfl, P1, ha, .inl ⟨fr, _, rfl, SqL.of gf1, pen_ne P1 gf1, by rw [List.length_map]; exact Nat.succ_pos _, by rw [List.length_map]; omega, fun v H2 hv hd => ?_⟩⟩
    obtain ⟨m, hm, rfl⟩ := List.mem_map.mp hv
    obtain ⟨a2, r2, P2, l2, B2⟩ := hd
    exact k (some m) H2 (fun _ e => by cases e; exact hm) ⟨a2, r2, P2, l2, (But.same s1).trans B2⟩
/-- the used names -/
theorem usedR {H : Hp} {σ : L2.St} {Q : VK} {l L N : Addr} {d : Int} {mk : Option Str} {xs : List Str} {oL oN : HO} (h7 : σ[7]? = some (some (.int d))) (h9 : σ[9]? = some (some (mkV mk))) (h8 : σ[8]? = some (some (.ref l))) (gl : H l = some (.lst (xs.map V.str))) (gL : H L = some oL) (gN : H N = some oN) (n1 : l ≠ L) (n2 : l ≠ N)
    (k : ∀ u us H', Same H H' → H' u = some (.lst (us.map V.str)) → u ≠ L → u ≠ N → (us = xs ∨ us = [] ∧ mk ≠ none) → Q (.ref u) H') :
    tIf (tAnd (tTest (tOp rEq (tVar 7) (tC (V.int 2)))) (tTest (tOp (fun x y H Q => y = V.non ∧ Q (V.bl !decide (x = V.non)) H) (tVar 9) (tC V.non)))) (tLst tNil) (tVar 8) σ H Q := by
  have old : tVar 8 σ H Q := ⟨_, h8, k l xs H (Same.refl H) gl n1 n2 (.inl rfl)⟩
  refine ⟨_, h7, rfl, _, rfl, ite2 (fun _ => ?_) (fun _ => iteF old)⟩
  refine ⟨_, h9, rfl, _, rfl, ?_⟩
  cases mk with
  | none => exact iteF old
  | some m =>
    refine iteT ⟨by show 0 ≤ sizeLine; decide, fun u hu => ?_⟩
    exact k u [] _ (Same.new hu) upd_same (fun e => by rw [e, gL] at hu; cases hu) (fun e => by rw [e, gN] at hu; cases hu) (.inr ⟨rfl, nofun⟩)
section
variable {P : Program} {w : World} {K : PySem.W.Frag} {mg : Str → Option Value} {base : Heap}
theorem ok_ds {f : Addr} {fd : FuncData} (F : Fun K "_law_deeds" "_law_deeds" sDs f fd) (T : TxtB mg) (cDraw : C8.Cal P w K mg base 1 "_law_draw" spDraw []) (cPick : C8.Cal P w K mg base 2 "_law_pick" (spPick K) []) (cSome : C8.Cal P w K mg base 2 "_law_some" (spSome K) []) :
    FnOk P w K mg base CX0 3 f fd ["_law_pen_here", "_law_known", "_law_free", "_law_most"] (spDs K) := by
  refine F.ok scDs (fun vs H Q E h => ?_) (fun cdv A outer s H vs Q E hr h => ?_)
  · obtain ⟨p, c, ns, a, r, kn, fr, ws, fs, most, rfl, _⟩ := h
    rfl
  · obtain ⟨p, c, ns, at_, rest, kn, fr, ws, fs, most, rfl, Pn, hat, gk, gf, uw, w0, uf, ⟨pool, pw, pf, p6⟩, m8, k⟩ := h
    refine ⟨_, (pss_cons (ps_par (i := 4) (j := 5) (by rfl) scDs.nd rfl rfl (by decide) rfl rfl (pa_cons (pe_lst pa_nil) (pa_cons (pe_callTy call_list_of (by rfl) T.blist (by decide +kernel) (pa_cons (pv 1) pa_nil)) pa_nil)) (by rfl))
      (pss_cons (ps_for PassesOwn.never rfl (pi_range1 (by rfl) T.brange (pa_cons (C8.pe_c cDraw hr (by decide) rfl (pa_cons (pv 0) (pa_cons (pe_op op_add (pv 3) pe_int) pa_nil))) pa_nil)) (pg_name (i := 6) scDs.nd rfl (Or.inl rfl))
        (pss_cons (ps_par (i := 7) (j := 8) (by rfl) scDs.nd rfl rfl (by decide) rfl rfl (pa_cons (C8.pe_c cDraw hr (by decide) rfl (pa_cons (pv 0) (pa_cons pe_int pa_nil))) (pa_cons (C8.pe_c cSome hr (by decide) rfl (pa_cons (pv 0) (pa_cons (pv 5) (pa_cons pe_int (pa_cons pe_int pa_nil))))) pa_nil)) (by rfl))
        (pss_cons (ps_set (i := 9) scDs.nd rfl (Or.inl rfl) (pe_ifExp (PW.pt (pw_and (pt_cmpR op_gt (pv 7) pe_int (nomark _)) (pw_and1 (pt_cmpR (op_neD hr.units) (pv 2) (pe_lst pa_nil) (nomark _))))) (C8.pe_c cPick hr (by decide) rfl (pa_cons (pv 0) (pa_cons (pv 2) pa_nil))) pe_non))
        (pss_cons (ps_expr (pe_bm PySem.F.plainAttrs_list PySem.F.slot_list_append PySem.F.type_list_append mt_append (pv 4) (pa_cons (pe_tup (pa_cons (pv 9) (pa_cons (pe_ifExp (PW.pt (pw_and (pt_cmpR op_eq (pv 7) pe_int (nomark _)) (pw_and1 (pt_cmpR op_notN (pv 9) pe_non (nomark _))))) (pe_lst pa_nil) (pv 8)) pa_nil))) pa_nil)))
        (pss_one (ps_if (PW.pt (pw_and (pt_cmpR op_notN (pv 9) pe_non (nomark _)) (pw_and1 (pt_cmpR op_notIn_seq (pv 9) (pv 5) rfl)))) (pss_one (ps_expr (pe_bm PySem.F.plainAttrs_list PySem.F.slot_list_append PySem.F.type_list_append mt_append (pv 5) (pa_cons (pv 9) pa_nil)))) pss_nil))))))
      (pss_one (ps_ret (pe_tup (pa_cons (pv 4) (pa_cons (pv 5) pa_nil))))))), ?_⟩
    have z8 : (100 : Nat) < sizeLine := by decide
    refine ⟨by show 0 ≤ sizeLine; decide, fun L hL => ?_⟩
    have s1 := Same.new (o := .lst []) hL
    have gL : (upd H L (.lst [])) L = some (.lst []) := upd_same
    refine ⟨_, rfl, kn, _, rfl, .inl (SqL.of (s1 _ _ gk)), fun N hN => ?_⟩
    have hN0 := sameNone s1 hN
    have nLN : L ≠ N := ne_of_none gL hN
    have s2 := s1.trans (Same.new (o := .lst (ws.map V.str)) hN)
    have gL := (Same.new (o := .lst (ws.map V.str)) hN) _ _ gL
    have gN : (upd (upd H L (.lst [])) N (.lst (ws.map V.str))) N = some (.lst (ws.map V.str)) := upd_same
    clear s1 hN
    generalize (upd (upd H L (.lst [])) N (.lst (ws.map V.str))) = H1 at *
    have Lp : L ≠ p := fun e => by rw [e, Pn.hp] at hL; cases hL
    have Lc : L ≠ c := fun e => by rw [e, Pn.hc] at hL; cases hL
    have Np : N ≠ p := fun e => by rw [e, Pn.hp] at hN0; cases hN0
    have Nc : N ≠ c := fun e => by rw [e, Pn.hc] at hN0; cases hN0
    have f6 : fs.length ≤ 6 := Nat.le_trans (uniLen uf pf) p6
    have P1 := Pn.same s2
    refine ⟨_, _, rfl, _, rfl, _, rfl, _, _, rfl, rfl, p, c, ns, at_, rest, _, rfl, P1, by omega, by omega, by omega, fun dn H2 d0 d1 hd => ?_⟩
    obtain ⟨a2, r2, P2, l2, B2⟩ := hd
    obtain ⟨n, rfl⟩ := Int.eq_ofNat_of_zero_le d0
    have gL2 := B2 _ _ gL Lp
    have gN2 := B2 _ _ gN Np
    have B02 : But p H H2 := (But.same s2).trans B2
    refine ⟨(n : Int), rfl, by omega, by omega, ?_⟩
    rw [Int.toNat_natCast]
    refine for_range (n := n) (fun i σ H' => (∃ a r, Pen H' p c ns a r ∧ a ≤ at_ + 1 + 9 * i) ∧ But p H H' ∧ (∃ (ts : List Addr) (as : List Act) (hs : List Str), as.length = i ∧ H' L = some (.lst (ts.map V.ref)) ∧ H' N = some (.lst (hs.map V.str)) ∧ LotsX L N H' ts as ∧ Drw ws fs as hs) ∧ ∃ x6 x7 x8 x9, σ = [some (.ref p), some (.ref kn), some (.ref fr), some (.int (most : Int)), some (.ref L), some (.ref N), x6, x7, x8, x9])
      ⟨⟨a2, r2, P2, by omega⟩, B02, ⟨[], [], ws, rfl, gL2, gN2, ⟨rfl, nofun⟩, Drw.start uw⟩, _, _, _, _, rfl⟩ (fun i σ H3 hi ⟨⟨a3, r3, P3, l3⟩, B3, ⟨ts, as, hs, la, gL3, gN3, X3, D3⟩, x6, x7, x8, x9, eσ⟩ => ?_) (fun σ H3 ⟨⟨a3, r3, P3, l3⟩, B3, ⟨ts, as, hs, la, gL3, gN3, X3, D3⟩, x6, x7, x8, x9, eσ⟩ => ?_)
    · subst eσ
      have h6 : hs.length ≤ 6 := Nat.le_trans (uniLen D3.here fun z hz => (D3.hin z hz).elim (pw z) (pf z)) p6
      have h1 : 0 < hs.length := by
        obtain ⟨z, zr, e⟩ : ∃ z zr, ws = z :: zr := by cases ws with
          | nil => cases w0
          | cons z zr => exact ⟨z, zr, rfl⟩
        exact List.length_pos_of_mem ((D3.eq z).mpr (by unfold aft; rw [e]; simp))
      refine ⟨_, rfl, p, c, ns, a3, r3, 5, rfl, P3, by omega, by decide, by decide, fun d H4 d0 d5 hd => ?_⟩
      obtain ⟨a4, r4, P4, l4, B4⟩ := hd
      have gL4 := B4 _ _ gL3 Lp
      have gN4 := B4 _ _ gN3 Np
      have X4 := X3.but P3 B4
      have B4 := B3.trans B4
      refine ⟨_, rfl, _, rfl, p, c, ns, a4, r4, N, hs, 1, 3, rfl, P4, by omega, SqL.of gN4, by omega, by decide, h1, fun l xs H5 hl0 gl pt x1 x3 hd => ?_⟩
      obtain ⟨a5, r5, P5, l5, B5⟩ := hd
      have gL5 := B5 _ _ gL4 Lp
      have gN5 := B5 _ _ gN4 Np
      have X5 := X4.but P4 B5
      have B5 := B4.trans B5
      have nl1 : l ≠ L := fun e => by rw [e, gL4] at hl0; cases hl0
      have nl2 : l ≠ N := fun e => by rw [e, gN4] at hl0; cases hl0
      refine ⟨_, _, rfl, ?_⟩
      refine madeR rfl rfl rfl P5 (by omega) (B5 _ _ gf (pen_ne Pn gf)) uf f6 fun mk H6 hm hd => ?_
      obtain ⟨a6, r6, P6, l6, B6⟩ := hd
      have gL6 := B6 _ _ gL5 Lp
      have gN6 := B6 _ _ gN5 Np
      have X6 := X5.but P5 B6
      have gl6 := B6 _ _ gl (pen_ne P5 gl)
      have B6 := B5.trans B6
      refine ⟨_, rfl, .inl ⟨rfl, _, SqL.of gL6⟩, _, rfl, usedR (L := L) (N := N) rfl rfl rfl gl6 gL6 gN6 nl1 nl2 fun u us H7 s7 gu nu1 nu2 hus => ?_⟩
      have gL7 := s7 _ _ gL6
      have gN7 := s7 _ _ gN6
      have X7 := X6.but P6 (But.same s7)
      have P7 := P6.same s7
      have B7 := B6.trans (But.same s7)
      refine ⟨by show 2 ≤ sizeLine; decide, fun t ht => ?_⟩
      have s8 := Same.new (o := .tup [mkV mk, .ref u]) ht
      have gt : (upd H7 t (.tup [mkV mk, .ref u])) t = some (.tup [mkV mk, .ref u]) := upd_same
      have gu := s8 _ _ gu
      have gL8 := s8 _ _ gL7
      have gN8 := s8 _ _ gN7
      have X8 := X7.but P7 (But.same s8)
      have P8 := P7.same s8
      have B8 := B7.trans (But.same s8)
      clear s8 ht
      generalize (upd H7 t (.tup [mkV mk, .ref u])) = H8 at *
      have lts := X8.1
      refine ⟨L, _, _, rfl, rfl, gL8, by rw [List.length_map]; omega, ?_⟩
      have X9 := (X8.put (o := .lst (ts.map V.ref ++ [V.ref t])) (.inl rfl) gL8).snoc (mk := mk) (us := us) nu1 nu2 ((upd_ne (fun e => by rw [e, gL8] at gt; cases gt)).trans gt) ((upd_ne nu1).trans gu)
      have gL9 : (upd H8 L (.lst (ts.map V.ref ++ [V.ref t]))) L = some (.lst ((ts ++ [t]).map V.ref)) := by rw [upd_same, List.map_append]; rfl
      have gN9 := (upd_ne (o := .lst (ts.map V.ref ++ [V.ref t])) (Ne.symm nLN)).trans gN8
      have P9 := P8.put (o := .lst (ts.map V.ref ++ [V.ref t])) Lp Lc
      have B9 := butPut (o := .lst (ts.map V.ref ++ [V.ref t])) B8 hL
      generalize (upd H8 L (.lst (ts.map V.ref ++ [V.ref t]))) = H9 at *
      have xh : ∀ z ∈ us, z ∈ hs := fun z hz => by
        rcases hus with e | e
        · rw [e] at hz; exact pt.mem z hz
        · rw [e.1] at hz; cases hz
      have lo : LotOk mk us := by
        rcases hus with e | ⟨e, n⟩
        · rw [e]
          exact ⟨uni_sub D3.here pt, x3, fun z e => uf.2 z (hm z e), fun _ => x1⟩
        · rw [e]
          exact ⟨⟨List.nodup_nil, nofun⟩, by show 0 ≤ 3; decide, fun z e => uf.2 z (hm z e), fun e => absurd e n⟩
      have la9 : (as ++ [(mk, us)]).length = i + 1 := by rw [List.length_append, la]; rfl
      refine ⟨_, rfl, rfl, _, rfl, ?_⟩
      cases mk with
      | none =>
        exact iteF (iteF ⟨⟨_, _, P9, by omega⟩, B9, ⟨_, _, hs, la9, gL9, gN9, X9, D3.snoc lo xh hm D3.here (fun z => by simp)⟩, _, _, _, _, rfl⟩)
      | some m =>
        refine iteT ⟨_, rfl, _, rfl, N, _, rfl, .inl (SqL.of gN9), rfl, flat_strs _, _, rfl, ?_⟩
        have ei : inV (mkV (some m)) (hs.map V.str) = decide (m ∈ hs) := inV_str m hs
        rw [if_pos rfl, ei]
        by_cases hmh : m ∈ hs
        · rw [decide_eq_true hmh]
          exact iteF ⟨⟨_, _, P9, by omega⟩, B9, ⟨_, _, hs, la9, gL9, gN9, X9, D3.snoc lo xh hm D3.here (fun z => by simp; intro e; rw [← e]; exact hmh)⟩, _, _, _, _, rfl⟩
        · rw [decide_eq_false hmh]
          refine iteT ⟨_, rfl, .inl ⟨rfl, _, SqL.of gN9⟩, _, rfl, N, _, _, rfl, rfl, gN9, by rw [List.length_map]; omega, ?_⟩
          refine ⟨⟨_, _, P9.put Np Nc, by omega⟩, butPut B9 hN0, ⟨_, _, hs ++ [m], la9, (upd_ne nLN).trans gL9, by rw [upd_same, List.map_append]; rfl, X9.put (.inr rfl) gN9, D3.snoc lo xh hm (uni_snoc D3.here hmh (uf.2 m (hm m rfl))) (fun z => by simp [eq_comm])⟩, _, _, _, _, rfl⟩
    · subst eσ
      refine ⟨_, rfl, _, rfl, by show 2 ≤ sizeLine; decide, fun t ht => ?_⟩
      have s4 := Same.new (o := .tup [.ref L, .ref N]) ht
      exact k t L N as hs _ upd_same ⟨ts, s4 _ _ gL3, X3.toT.same s4⟩ (s4 _ _ gN3) (by omega) D3 ⟨a3, r3, P3.same s4, by omega, B3.trans (But.same s4)⟩
end
end K33

set_option Elab.async false
set_option linter.all false
set_option maxRecDepth 100000
set_option maxHeartbeats 4000000
/-! The law's programs. -/
namespace K33
open PySem L2 NX NU
open PyProof.Rows (sortedS)
abbrev sSi : Stmt := top 85
abbrev NSi : List Str := ["_law_pen_here", "_law_loops", "_law_most", "_law_words", "_law_prices", "_law_known", "_law_free", "_law_site_here", "_law_word"]
theorem scSi : FnScope NSi ["_law_pen_here", "_law_loops", "_law_most"] (defScope sSi) := ⟨rfl, rfl, rfl, by decide +kernel, rfl, by decide +kernel, by decide +kernel⟩
def spOr : Sp := fun vs H Q _ => vs = [] ∧ ∀ a H', Same H H' → H a = none → H' a = some (.lst (partN.map V.str)) → Q (.ref a) H'
theorem scOr0 : FnScope [] [] (defScope sOr) := scOr
def siteK (gv ag b h L r : Addr) : List (Key × V) := [(.inr "given", .ref gv), (.inr "again", .ref ag), (.inr "loop", .non), (.inr "between", .ref b), (.inr "second", .non), (.inr "behind", .ref h), (.inr "ahead", .ref L), (.inr "results", .ref r)]
/-- a drawn program without loops at S -/
structure SiteAt (H : Hp) (S : Addr) (t : Tol) : Prop where
  ex : ∃ gv ag b h L r, H S = some (.dK (siteK gv ag b h L r)) ∧ H gv = some (.lst (t.us.map V.str)) ∧ AgD H ag t.ag ∧ H b = some (.lst []) ∧ H h = some (.lst []) ∧ LotsAt H L t.g.a ∧ H r = some (.lst (t.rs.map V.str))
  g : t.g = ⟨t.g.a, none, [], none, []⟩
  lot : ∀ a ∈ t.g.a, LotOk a.1 a.2
def spSi : Sp := fun vs H Q _ => ∃ (p c : Addr) (ns : List Int) (at_ rest : Int), vs = [.ref p, .int 0, .int 8] ∧ Pen H p c ns at_ rest ∧ at_ ≤ 600000 ∧
  ∀ S t H', SiteAt H' S t → t.Ok → t.g.a.length ≤ 8 → Drawn H p c ns (at_ + 200) H' → Q (.ref S) H'
theorem gNm {i : Nat} {x : V} {σ : L2.St} {H : Hp} {N : L2.St → Hp → Prop} (h : N (σ.set i (some x)) H) : gName i x σ H N := h
theorem sqA {te : TE} {g : TG} {tr : TS} {D : L2.Ends} {σ : L2.St} {H : Hp} (h : te σ H fun x H1 => g x σ H1 (tr D)) : tSeq (tAsg te g) tr D σ H := h
theorem cb1 {r : List V → Hp → VK → Prop} {t : TE} {σ : L2.St} {H : Hp} {Q : VK} (h : t σ H fun x H1 => r [x] H1 Q) : tCB r (tCons t tNil) σ H Q := h
theorem lcOf {wi : TI} {g : TG} {tt : TT} {te : TE} {vs : List Nat} {σ : L2.St} {H : Hp} {Q : VK} (h : wi σ H fun J H1 => tLc (fun _ H R => R J H) g tt te vs σ H1 Q) : tLc wi g tt te vs σ H Q := h
theorem takeSub {xs : List Str} {i : Nat} {z : Str} {ys : List Str} (hz : xs[i]? = some z) (h : ys.Sublist (xs.take i)) : ys.Sublist (xs.take (i + 1)) ∧ (ys ++ [z]).Sublist (xs.take (i + 1)) := by
  rw [takeSnoc hz]
  exact ⟨h.trans (List.sublist_append_left _ _), h.append (List.Sublist.refl _)⟩
theorem Drawn.trans {H H1 H2 : Hp} {p c : Addr} {ns : List Int} {m n : Int} (h : But p H H1) (k : Drawn H1 p c ns m H2) (l : m ≤ n) : Drawn H p c ns n H2 := by
  obtain ⟨a, r, P, e, B⟩ := k
  exact ⟨a, r, P, by omega, h.trans B⟩
/-- [w for w in l if a draw] -/
theorem lcD {K : PySem.W.Frag} {H : Hp} {l p c : Addr} {ns : List Int} {a r : Int} {s1 s2 s3 s4 s5 s6 s7 s8 : Option V} {xs : List Str} {tt : TT} {Q : VK} (gl : H l = some (.lst (xs.map V.str))) (Pn : Pen H p c ns a r) (ha : a + xs.length ≤ 900000) (h100 : xs.length ≤ 100)
    (htt : ∀ z H2 a2 r2 (R : Bool → Hp → Prop), Pen H2 p c ns a2 r2 → a2 ≤ 900000 → (∀ b H3, Drawn H2 p c ns (a2 + 1) H3 → R b H3) → tt [some (.ref p), s1, s2, s3, s4, s5, s6, s7, some (.str z)] H2 R)
    (k : ∀ (D : Addr) (ys : List Str) H', H D = none → H' D = some (.lst (ys.map V.str)) → ys.Sublist xs → Drawn H p c ns (a + xs.length) H' → Q (.ref D) H') :
    tLc (fun _ H R => R (Itl K l) H) (gName 8) tt (tVar 8) [8] [some (.ref p), s1, s2, s3, s4, s5, s6, s7, s8] H Q := by
  intro D hD
  have Dp : D ≠ p := fun z => by rw [z, Pn.hp] at hD; cases hD
  have Dc : D ≠ c := fun z => by rw [z, Pn.hc] at hD; cases hD
  have lp := pen_ne Pn gl
  have z100 : (200 : Nat) ≤ sizeLine := by decide
  refine lc_list (xs := xs.map V.str) (fun j H' => Drawn H p c ns (a + j) H' ∧ ∃ ys : List Str, H' D = some (.lst (ys.map V.str)) ∧ ys.Sublist (xs.take j)) ⟨⟨a, r, Pn.put Dp Dc, by omega, butPut But.refl hD⟩, [], upd_same, List.nil_sublist _⟩ (fun j H' _ z => SqL.of (by obtain ⟨⟨a2, r2, P2, l2, B2⟩, _⟩ := z; exact B2 _ _ gl lp)) ?_ ?_
  · rintro j y H2 hy ⟨⟨a2, r2, P2, l2, B2⟩, ys, gD, sb⟩
    rw [List.getElem?_map] at hy
    obtain ⟨z, hz, rfl⟩ := Option.map_eq_some_iff.mp hy
    have hj : j < xs.length := (List.getElem?_eq_some_iff.mp hz).1
    refine ⟨rfl, htt z H2 a2 r2 _ P2 (by omega) fun b H3 hd => ?_⟩
    obtain ⟨a3, r3, P3, l3, B3⟩ := hd
    have gD3 := B3 _ _ gD Dp
    have B3 := B2.trans B3
    obtain ⟨sb1, sb2⟩ := takeSub hz sb
    have ly := sb.length_le
    rw [List.length_take] at ly
    cases b with
    | false => exact iteF ⟨⟨a3, r3, P3, by omega, B3⟩, ys, gD3, sb1⟩
    | true => exact iteT ⟨_, rfl, _, gD3, by rw [List.length_map]; omega, ⟨a3, r3, P3.put Dp Dc, by omega, butPut B3 hD⟩, ys ++ [z], by rw [upd_same, List.map_append]; rfl, sb2⟩
  · rintro H2 ⟨hd, ys, gD, sb⟩
    rw [List.length_map] at hd sb
    rw [List.take_length] at sb
    exact k D ys H2 hD gD sb hd
/-- [w for w in l if ..], nothing drawn -/
theorem lcP {K : PySem.W.Frag} {H : Hp} {l : Addr} {s0 s1 s2 s3 s4 s5 s6 s7 s8 : Option V} {xs : List Str} (fl : Str → Bool) {tt : TT} {Q : VK} (gl : H l = some (.lst (xs.map V.str))) (h100 : xs.length ≤ 100)
    (htt : ∀ z H2 (R : Bool → Hp → Prop), Same H H2 → R (fl z) H2 → tt [s0, s1, s2, s3, s4, s5, s6, s7, some (.str z)] H2 R)
    (k : ∀ D H', H D = none → H' D = some (.lst ((xs.filter fl).map V.str)) → Same H H' → Q (.ref D) H') :
    tLc (fun _ H R => R (Itl K l) H) (gName 8) tt (tVar 8) [8] [s0, s1, s2, s3, s4, s5, s6, s7, s8] H Q := by
  intro D hD
  have z100 : (200 : Nat) ≤ sizeLine := by decide
  refine lc_list (xs := xs.map V.str) (fun j H' => Same H H' ∧ H' D = some (.lst (((xs.take j).filter fl).map V.str))) ⟨Same.new hD, upd_same⟩ (fun j H' _ z => SqL.of (z.1 _ _ gl)) ?_ ?_
  · rintro j y H4 hy ⟨sj, gD⟩
    rw [List.getElem?_map] at hy
    obtain ⟨z, hz, rfl⟩ := Option.map_eq_some_iff.mp hy
    refine ⟨rfl, htt z H4 _ sj ?_⟩
    cases hb : fl z with
    | false =>
      refine iteF ⟨sj, ?_⟩
      rw [takeSnoc hz, List.filter_append, List.filter_cons_of_neg (by rw [hb]; exact Bool.false_ne_true), List.filter_nil, List.append_nil]
      exact gD
    | true =>
      refine iteT ⟨_, rfl, _, gD, ?_, sameUpd sj hD, ?_⟩
      · rw [List.length_map]
        have := List.length_filter_le fl (xs.take j)
        rw [List.length_take] at this
        omega
      · rw [takeSnoc hz, List.filter_append, List.filter_cons_of_pos hb, List.filter_nil, List.map_append]
        exact upd_same
  · rintro H4 ⟨sj, gD⟩
    rw [List.length_map, List.take_length] at gD
    exact k D H4 hD gD sj
/-- pairs (name, price) at the addresses ps -/
def PrT (H : Hp) : List Addr → List (Str × Int) → Prop
  | [], [] => True
  | p :: ps, q :: l => H p = some (.tup [.str q.1, .int q.2]) ∧ PrT H ps l
  | _, _ => False
theorem PrT.keep {H H' : Hp} (s : ∀ t xs, H t = some (.tup xs) → H' t = some (.tup xs)) : ∀ {ps : List Addr} {l : List (Str × Int)}, PrT H ps l → PrT H' ps l
  | [], [], _ => trivial
  | [], _ :: _, h => h
  | _ :: _, [], h => h
  | _ :: _, _ :: _, h => ⟨s _ _ h.1, h.2.keep s⟩
theorem PrT.snoc {H : Hp} {t : Addr} {z : Str} {n : Int} (g : H t = some (.tup [.str z, .int n])) : ∀ {ps : List Addr} {l : List (Str × Int)}, PrT H ps l → PrT H (ps ++ [t]) (l ++ [(z, n)])
  | [], [], _ => ⟨g, trivial⟩
  | [], _ :: _, h => h.elim
  | _ :: _, [], h => h.elim
  | _ :: _, _ :: _, h => ⟨h.1, h.2.snoc g⟩
theorem PrT.paired {K : PySem.W.Frag} {H : Hp} : ∀ {ps : List Addr} {l : List (Str × Int)}, PrT H ps l → Paired (fun p (kv : Key × V) => SqT K H p [kV kv.1, kv.2]) ps (agK l)
  | [], [], _ => .nil
  | [], _ :: _, h => h.elim
  | _ :: _, [], h => h.elim
  | _ :: _, _ :: _, h => .cons (SqT.of h.1) h.2.paired
theorem merge_ag : ∀ {l l0 : List (Str × Int)}, ((l0 ++ l).map (·.1)).Nodup → mergeK (agK l0) (agK l) = agK (l0 ++ l)
  | [], l0, _ => by rw [List.append_nil]; rfl
  | q :: r, l0, h => by
    have e : putK (agK l0) (Sum.inr q.1) (V.int q.2) = agK (l0 ++ [q]) := by
      rw [putK_new _ (agOut (fun hm => ?_))]
      · unfold agK
        rw [List.map_append]
        rfl
      · rw [List.map_append, List.nodup_append] at h
        exact h.2.2 _ hm q.1 (by simp) rfl
    show mergeK (putK (agK l0) (Sum.inr q.1) (V.int q.2)) (agK r) = _
    rw [e, merge_ag (by rw [List.append_assoc]; exact h), List.append_assoc]
    rfl
/-- [(w, price) for w in l if a draw] -/
theorem lcPr {K : PySem.W.Frag} {H : Hp} {l p c : Addr} {ns : List Int} {a r : Int} {s1 s2 s3 s4 s5 s6 s7 s8 : Option V} {xs : List Str} {Q : VK} (gl : H l = some (.lst (xs.map V.str))) (Pn : Pen H p c ns a r) (ha : a + 2 * xs.length ≤ 900000) (h100 : xs.length ≤ 100)
    (k : ∀ (D : Addr) (ps : List Addr) (l : List (Str × Int)) H', H' D = some (.lst (ps.map V.ref)) → PrT H' ps l → (l.map (·.1)).Sublist xs → (∀ q ∈ l, 0 ≤ q.2 ∧ q.2 ≤ 9) → Drawn H p c ns (a + 2 * xs.length) H' → Q (.ref D) H') :
    tLc (fun _ H R => R (Itl K l) H) (gName 8) (tTest (tOp rEq (tCall spDraw [] C8.E0 (tCons (tVar 0) (tCons (tC (V.int 5)) tNil))) (tC (V.int 0)))) (tTup (tCons (tVar 8) (tCons (tCall spDraw [] C8.E0 (tCons (tVar 0) (tCons (tC (V.int 10)) tNil))) tNil))) [8] [some (.ref p), s1, s2, s3, s4, s5, s6, s7, s8] H Q := by
  intro D hD
  have P1 := Pn
  have Dp : D ≠ p := fun z => by rw [z, P1.hp] at hD; cases hD
  have Dc : D ≠ c := fun z => by rw [z, P1.hc] at hD; cases hD
  have lp := pen_ne P1 gl
  have z100 : (200 : Nat) ≤ sizeLine := by decide
  refine lc_list (xs := xs.map V.str) (fun j H' => Drawn H p c ns (a + 2 * j) H' ∧ ∃ (ps : List Addr) (l : List (Str × Int)), H' D = some (.lst (ps.map V.ref)) ∧ PrT H' ps l ∧ ps.length ≤ j ∧ (l.map (·.1)).Sublist (xs.take j) ∧ ∀ q ∈ l, 0 ≤ q.2 ∧ q.2 ≤ 9)
    ⟨⟨a, r, P1.put Dp Dc, by omega, butPut But.refl hD⟩, [], [], upd_same, trivial, Nat.le_refl _, List.nil_sublist _, nofun⟩ (fun j H' _ z => SqL.of (by obtain ⟨⟨a2, r2, P2, l2, B2⟩, _⟩ := z; exact B2 _ _ gl lp)) ?_ ?_
  · rintro j y H2 hy ⟨⟨a2, r2, P2, l2, B2⟩, ps, l, gD, pr, lps, sb, hq⟩
    rw [List.getElem?_map] at hy
    obtain ⟨z, hz, rfl⟩ := Option.map_eq_some_iff.mp hy
    have hj : j < xs.length := (List.getElem?_eq_some_iff.mp hz).1
    have kp : ∀ {H3 : Hp} {x y : Int}, Pen H2 p c ns x y → But p H2 H3 → PrT H3 ps l := fun P B => pr.keep fun t q e => B _ _ e (fun n => by rw [n, P.hp] at e; cases e)
    refine ⟨rfl, _, rfl, p, c, ns, a2, r2, _, rfl, P2, by omega, by decide, by decide, fun d H3 d0 d5 hd => ?_⟩
    obtain ⟨a3, r3, P3, l3, B3⟩ := hd
    have gD3 := B3 _ _ gD Dp
    have pr3 := kp P2 B3
    have B3 := B2.trans B3
    obtain ⟨sb1, sb2⟩ := takeSub hz sb
    refine ⟨rfl, _, rfl, ite2 (fun _ => ?_) (fun _ => ⟨⟨a3, r3, P3, by omega, B3⟩, ps, l, gD3, pr3, by omega, sb1, hq⟩)⟩
    refine ⟨_, rfl, _, rfl, p, c, ns, a3, r3, _, rfl, P3, by omega, by decide, by decide, fun n H4 n0 n9 hd => ?_⟩
    obtain ⟨a4, r4, P4, l4, B4⟩ := hd
    have gD4 := B4 _ _ gD3 Dp
    have pr4 : PrT H4 ps l := pr3.keep fun t q e => B4 _ _ e (fun n => by rw [n, P3.hp] at e; cases e)
    have B4 := B3.trans B4
    refine ⟨by show 2 ≤ sizeLine; decide, fun t ht => ?_⟩
    have s5 : Same H4 (upd H4 t (.tup [.str z, .int n])) := Same.new ht
    have gt : (upd H4 t (.tup [.str z, .int n])) t = some (.tup [.str z, .int n]) := upd_same
    have gD5 := s5 _ _ gD4
    have pr5 := (pr4.keep fun t q e => s5 _ _ e).snoc gt
    have P5 := P4.same s5
    have B5 := B4.trans (But.same s5)
    generalize (upd H4 t (.tup [.str z, .int n])) = H5 at *
    refine ⟨_, gD5, by rw [List.length_map]; omega, ⟨a4, r4, P5.put Dp Dc, by omega, butPut B5 hD⟩, ps ++ [t], l ++ [(z, n)], by rw [upd_same, List.map_append]; rfl, pr5.keep (fun t q e => (upd_ne (fun n => by rw [n, gD5] at e; cases e)).trans e), by rw [List.length_append]; show ps.length + 1 ≤ j + 1; omega, by rw [List.map_append]; exact sb2, fun q hm => (List.mem_append.mp hm).elim (hq q) fun e => by rw [List.mem_singleton.mp e]; exact ⟨n0, by omega⟩⟩
  · rintro H2 ⟨hd, ps, l, gD, pr, lps, sb, hq⟩
    rw [List.length_map] at hd sb
    rw [List.take_length] at sb
    exact k D ps l H2 gD pr sb hq hd
theorem cut1 (xs : List Str) (h : 1 ≤ xs.length) : cutV (xs.map V.str) (some 1) none = (xs.drop 1).map V.str := by
  have e1 : ∀ n : Nat, 1 ≤ n → HT.sIx n 0 (some 1) = 1 := fun n h => by
    show HT.sIx n 0 (some ((1 : Nat) : Int)) = 1
    rw [HT.sIx_nat]
    omega
  unfold cutV
  rw [List.length_map, e1 _ h, HT.sIx_none, ← List.map_drop, List.take_of_length_le]
  rw [List.length_map, List.length_drop]
  exact Nat.le_refl _
theorem cutT (xs : List Str) (h : 1 ≤ xs.length) : cutV (xs.map V.str) none (some 1) = (xs.take 1).map V.str := by
  have e1 : ∀ n : Nat, 1 ≤ n → HT.sIx n n (some 1) = 1 := fun n h => by
    show HT.sIx n n (some ((1 : Nat) : Int)) = 1
    rw [HT.sIx_nat]
    omega
  unfold cutV
  rw [List.length_map, e1 _ h, HT.sIx_none, ← List.map_drop, ← List.map_take]
  rfl
theorem opv {r : R2} {i : Nat} {x : V} {tb : TE} {σ : L2.St} {H : Hp} {Q : VK} (e : σ[i]? = some (some x)) (h : tb σ H fun y H2 => r x y H2 Q) : tOp r (tVar i) tb σ H Q := ⟨x, e, h⟩
theorem nxT {D : L2.Ends} {σ : L2.St} {H : Hp} (h : D.nx σ H) : tNext D σ H := h
theorem sdp {i : Nat} {k : V} {tv : TE} {tr : TS} {D : L2.Ends} {σ : L2.St} {H : Hp} (h : tv σ H fun v H1 => tVar i σ H1 fun x H2 => ∃ a H4, x = .ref a ∧ DPut H2 a k v H4 ∧ tr D σ H4) : tSeq (sDPut (tVar i) (tC k) tv) tr D σ H := h
theorem agSome {l : List (Str × Int)} {z : Str} : (valV (agK l) (.inr z)).isSome = decide (z ∈ l.map (·.1)) := by
  by_cases h : z ∈ l.map (·.1)
  · obtain ⟨n, e, _⟩ := agIn h
    rw [e, decide_eq_true h]
    rfl
  · rw [agOut h, decide_eq_false h]
    rfl
theorem fresh0 {p S : Addr} {H H' : Hp} (b : But p H H') (h : H' S = none) (n : S ≠ p) : H S = none := by
  cases e : H S with
  | none => rfl
  | some o => rw [b _ _ e n] at h; cases h
theorem LotsAt.putD {H : Hp} {S L : Addr} {kvs : List (Key × V)} {o : HO} {as : List Act} (g : H S = some (.dK kvs)) (h : LotsAt H L as) : LotsAt (upd H S o) L as := by
  obtain ⟨ts, e, l, q⟩ := h
  have ne : ∀ {a : Addr} {u : HO}, H a = some u → (∀ k, u ≠ .dK k) → (upd H S o) a = some u := fun {a u} e n => (upd_ne (fun z => by rw [z, g] at e; exact n _ (Option.some.inj e).symm)).trans e
  exact ⟨ts, ne e (fun _ z => nomatch z), l, fun i t a e1 e2 => (q i t a e1 e2).imp fun u r => ⟨ne r.1 (fun _ z => nomatch z), ne r.2 (fun _ z => nomatch z)⟩⟩
theorem tolOk {ws us ks2 fs hs rs : List Str} {l : List (Str × Int)} {as : List Act} (uw : Uni ws) (w6 : ws.length ≤ 6) (sbu : us.Sublist ws) (sbl : (l.map (·.1)).Sublist ws) (hq : ∀ q ∈ l, 0 ≤ q.2 ∧ q.2 ≤ 9) (hk2 : ∀ z, z ∈ ks2 ↔ z ∈ us ∨ z ∈ l.map (·.1)) (hfs : ∀ z ∈ fs, z ∈ ws ∧ z ∉ l.map (·.1)) (dr : Drw ks2 fs as hs) (las : as.length ≤ 8) (sbr : rs.Sublist hs) : Tol.Ok ⟨⟨as, none, [], none, []⟩, us, l, rs⟩ := by
  have kw : ∀ z ∈ ks2, z ∈ ws := fun z hz => ((hk2 z).mp hz).elim (fun h => sbu.subset h) (fun h => sbl.subset h)
  have hw : ∀ z ∈ hs, z ∈ ws := fun z hz => (dr.hin z hz).elim (kw z) fun h => (hfs z h).1
  have lu := sbu.length_le
  have ll := sbl.length_le
  rw [List.length_map] at ll
  have lr := sbr.length_le
  have lh : hs.length ≤ 6 := Nat.le_trans (uniLen dr.here hw) w6
  have ea : Prg.acts ⟨as, none, [], none, []⟩ = as := by simp [Prg.acts, Prg.upto, Prg.at]
  have el : ∀ bs, Prg.lastAt ⟨as, none, [], none, []⟩ bs 5 = aft bs as := fun bs => by
    show aft (aft (aft bs as) []) [] = _
    rw [aft_nil, aft_nil]
  refine ⟨⟨fun _ => ⟨rfl, rfl, rfl⟩, fun _ => rfl⟩, ⟨?_, ?_, ?_, ?_, ?_, ?_⟩, ⟨fun z h => uw.2 z (sbu.subset h), uw.1.sublist sbu, ?_⟩, ⟨fun q h => uw.2 q.1 (sbl.subset (List.mem_map_of_mem h)), fun q h => (hq q h).1, fun q h => (hq q h).2, ?_⟩, ⟨fun z h => dr.here.2 z (sbr.subset h), dr.here.1.sublist sbr, ?_⟩, ⟨ws, fun z hz => ?_, w6⟩, ?_, ⟨fun i i5 => ?_, fun z hz => ?_⟩⟩
  · show as.length ≤ 200; omega
  · show 0 ≤ 24; omega
  · show 0 ≤ 24; omega
  · show 0 ≤ 24; omega
  · show 0 ≤ 24; omega
  · show as.length + 0 + 0 ≤ 200; omega
  · show us.length < 60; omega
  · show l.length < 60; omega
  · show rs.length < 60; omega
  · unfold Tol.words at hz
    dsimp only at hz
    rw [ea, List.mem_append, List.mem_append, List.mem_append] at hz
    rcases hz with ((h | h) | h) | h
    · exact sbu.subset h
    · exact sbl.subset h
    · exact hw z (sbr.subset h)
    · exact (dr.inn z h).elim (kw z) fun h => (hfs z h).1
  · show us.length + l.length + rs.length + 4 * (Prg.acts ⟨as, none, [], none, []⟩).length ≤ 1000
    rw [ea]
    omega
  · have : i = 0 ∨ i = 1 ∨ i = 2 ∨ i = 3 ∨ i = 4 := by omega
    rcases this with rfl | rfl | rfl | rfl | rfl
    · exact (dr.uses _ fun z h => (hfs z h).2).congr fun z => (hk2 z).trans List.mem_append.symm
    · exact trivial
    · exact trivial
    · exact trivial
    · exact trivial
  · show z ∈ Prg.lastAt ⟨as, none, [], none, []⟩ _ 5
    rw [el]
    have h := (dr.eq z).mp (sbr.subset hz)
    unfold aft at h ⊢
    rw [List.mem_append] at h ⊢
    exact h.imp (fun h => List.mem_append.mpr ((hk2 z).mp h)) id
section
variable {P : Program} {w : World} {K : PySem.W.Frag} {mg : Str → Option Value} {base : Heap}
theorem ok_or {f : Addr} {fd : FuncData} (F : Fun K "_law_order" "_law_order" sOr f fd) : FnOk P w K mg base CX0 1 f fd [] spOr := by
  refine F.ok scOr (fun vs H Q E h => ?_) (fun cdv A outer s H vs Q E hr h => ?_)
  · obtain ⟨rfl, _⟩ := h
    rfl
  · obtain ⟨rfl, k⟩ := h
    refine ⟨_, (pss_one (ps_ret (pe_lst (pa_cons pe_str (pa_cons pe_str (pa_cons pe_str (pa_cons pe_str (pa_cons pe_str pa_nil)))))))), ?_⟩
    refine ⟨by show 5 ≤ sizeLine; decide, fun a ha => ?_⟩
    exact k a _ (Same.new ha) ha upd_same
theorem ok_si {f : Addr} {fd : FuncData} (F : Fun K "_law_site" "_law_site" sSi f fd) (T : TxtB mg) (N : TxtP mg) (cDraw : C8.Cal P w K mg base 1 "_law_draw" spDraw []) (cNames : C8.Cal P w K mg base 3 "_law_names" spLNames []) (cDs : C8.Cal P w K mg base 3 "_law_deeds" (spDs K) []) :
    FnOk P w K mg base CX0 4 f fd ["_law_pen_here", "_law_loops", "_law_most"] spSi := by
  refine F.ok scSi (fun vs H Q E h => ?_) (fun cdv A outer s H vs Q E hr h => ?_)
  · obtain ⟨p, c, ns, a, r, rfl, _⟩ := h
    rfl
  · obtain ⟨p, c, ns, at_, rest, rfl, Pn, hat, k⟩ := h
    have hu := hu_of hr
    refine ⟨_, (pss_cons (ps_set (i := 3) scSi.nd rfl (Or.inl rfl) (C8.pe_c cNames hr (by decide) rfl (pa_cons (pv 0) (pa_cons (pe_op op_add pe_int (C8.pe_c cDraw hr (by decide) rfl (pa_cons (pv 0) (pa_cons pe_int pa_nil)))) pa_nil))))
      (pss_cons (ps_set (i := 4) scSi.nd rfl (Or.inr rfl) (pe_callTy (call_dictP rfl) (by rfl) N.bdict (by decide +kernel) (pa_cons
          (pe_lc (own := [("_law_word", 8)]) (g := gName 8) rfl scSi.nd (pi_list (pe_slice sl_list (pv 3) (po_some pe_int) po_none)) (blkOk_by (own := [("_law_word", 8)]) (N := NSi) (sc := defScope sSi) (by decide +kernel)) (fun _ _ _ _ _ => (pg_name (i := 8) scSi.nd rfl (Or.inl rfl))) (fun _ _ _ _ _ => (pts_one (pt_cmpR op_eq (C8.pe_c cDraw hr (by decide) rfl (pa_cons (pv 0) (pa_cons pe_int pa_nil))) pe_int (nomark _)))) (fun _ _ _ _ _ => (pe_tup (pa_cons (pv 8) (pa_cons (C8.pe_c cDraw hr (by decide) rfl (pa_cons (pv 0) (pa_cons pe_int pa_nil))) pa_nil))))) pa_nil)))
      (pss_cons (ps_set (i := 5) scSi.nd rfl (Or.inr rfl) (pe_lc (own := [("_law_word", 8)]) (g := gName 8) rfl scSi.nd (pi_list (pv 3)) (blkOk_by (own := [("_law_word", 8)]) (N := NSi) (sc := defScope sSi) (by decide +kernel)) (fun _ _ _ _ _ => (pg_name (i := 8) scSi.nd rfl (Or.inl rfl))) (fun _ _ _ _ _ => (pts_one (pt_cmpR op_gt (C8.pe_c cDraw hr (by decide) rfl (pa_cons (pv 0) (pa_cons pe_int pa_nil))) pe_int (nomark _)))) (fun _ _ _ _ _ => (pv 8))))
      (C8.pss_cut (ps_if (PW.pt (pw_and (pt_cmpR (op_eqD hr.units) (pv 5) (pe_lst pa_nil) (nomark _)) (pw_and1 (pt_cmpR op_eq (pe_callB call_lenD (by rfl) T.blen (by decide +kernel) (pa_cons (pv 4) pa_nil)) pe_int (nomark _))))) (pss_one (ps_set (i := 5) scSi.nd rfl (Or.inr rfl) (pe_slice sl_list (pv 3) po_none (po_some pe_int)))) pss_nil)
      (pss_cons (ps_setLc (i := 6) (own := [("_law_word", 8)]) (g := gName 8) rfl scSi.nd rfl rfl (sw_true rfl rfl rfl (by decide +kernel)) (pi_list (pv 3)) (blkOk_by (own := [("_law_word", 8)]) (N := NSi) (sc := defScope sSi) (by decide +kernel)) (fun _ _ _ _ _ => (pg_name (i := 8) scSi.nd rfl (Or.inl rfl))) (fun _ _ _ _ _ => (pts_one (pt_cmp (pc_dnotin hu (pv 8) (pv 4))))) (fun _ _ _ _ _ => (pv 8)))
      (pss_cons (ps_set (i := 7) scSi.nd rfl (Or.inl rfl) (pe_disp (pps_cons pe_str (pv 5) (pps_cons pe_str (pv 4) (pps_cons pe_str pe_non (pps_cons pe_str (pe_lst pa_nil) (pps_cons pe_str pe_non pps_nil))))) rfl rfl (by intro h; cases h) (by decide)))
      (pss_cons (ps_dput hu (pv 7) pe_str (pe_lst pa_nil) rfl)
      (pss_cons (ps_set (i := 5) scSi.nd rfl (Or.inr rfl) (pe_op op_cat (pv 5) (pe_lc (own := [("_law_word", 8)]) (g := gName 8) rfl scSi.nd (pi_list (pv 3)) (blkOk_by (own := [("_law_word", 8)]) (N := NSi) (sc := defScope sSi) (by decide +kernel)) (fun _ _ _ _ _ => (pg_name (i := 8) scSi.nd rfl (Or.inl rfl))) (fun _ _ _ _ _ => (pts_one (PW.pt (pw_and (pt_cmp (pc_din hu (pv 8) (pv 4))) (pw_and1 (show PT _ _ (tTest (tOp (rIn K true) (tVar 8) (tVar 5))) from pt_cmpR op_notIn_seq (pv 8) (pv 5) rfl)))))) (fun _ _ _ _ _ => (pv 8)))))
      (pss_cons (ps_asg (C8.pe_c cDs hr (by decide) rfl (pa_cons (pv 0) (pa_cons (pv 5) (pa_cons (pv 6) (pa_cons (pv 2) pa_nil))))) (pg_tup rfl (pgs_cons (pg_sub (pv 7) pe_str (set_dict hu)) (pgs_cons (pg_name (i := 5) scSi.nd rfl (Or.inr rfl)) pgs_nil))))
      (pss_cons (ps_if (pt_cmpR op_gt (pv 1) pe_int (nomark _)) pss_never pss_nil)
      (pss_cons (ps_if (pt_cmpR op_gt (pv 1) pe_int (nomark _)) pss_never pss_nil)
      (pss_cons (ps_if (pt_cmpR op_gt (pv 1) pe_int (nomark _)) pss_never pss_nil)
      (pss_cons (ps_dput hu (pv 7) pe_str (pe_lc (own := [("_law_word", 8)]) (g := gName 8) rfl scSi.nd (pi_list (pv 5)) (blkOk_by (own := [("_law_word", 8)]) (N := NSi) (sc := defScope sSi) (by decide +kernel)) (fun _ _ _ _ _ => (pg_name (i := 8) scSi.nd rfl (Or.inl rfl))) (fun _ _ _ _ _ => (pts_one (pt_cmpR op_eq (C8.pe_c cDraw hr (by decide) rfl (pa_cons (pv 0) (pa_cons pe_int pa_nil))) pe_int (nomark _)))) (fun _ _ _ _ _ => (pv 8))) rfl)
      (pss_one (ps_ret (pv 7)))))))))))))))), ?_⟩
    have z100 : (200 : Nat) ≤ sizeLine := by decide
    refine ⟨_, rfl, _, rfl, p, c, ns, at_, rest, 6, rfl, Pn, by omega, by decide, by decide, fun d H1 d0 d6 hd => ?_⟩
    obtain ⟨dn, rfl⟩ := Int.eq_ofNat_of_zero_le d0
    obtain ⟨a1, r1, P1, l1, B1⟩ := hd
    refine ⟨_, _, rfl, rfl, p, c, ns, a1, r1, 1 + dn, rfl, by omega, by omega, P1, by omega, fun lw ws H2 hlw gw uw lws hd => ?_⟩
    obtain ⟨a2, r2, P2, l2, B2⟩ := hd
    have B2 := B1.trans B2
    have w6 : ws.length ≤ 6 := by omega
    have w1 : 1 ≤ ws.length := by omega
    clear d0 d6 P1 B1 hlw
    refine gNm ?_
    dsimp only
    refine sqA (cb1 (lcOf ?_))
    refine ⟨_, rfl, 1, rfl, lw, _, rfl, SqL.of gw, fun q hq => ?_⟩
    rw [cut1 ws w1]
    have s3 := Same.new (o := .lst ((ws.drop 1).map V.str)) hq
    have gq : (upd H2 q (.lst ((ws.drop 1).map V.str))) q = some (.lst ((ws.drop 1).map V.str)) := upd_same
    have gw := s3 _ _ gw
    have P2 := P2.same s3
    have B2 := B2.trans (But.same s3)
    clear s3 hq
    generalize (upd H2 q (.lst ((ws.drop 1).map V.str))) = H2 at *
    refine ⟨q, rfl, ⟨_, SqL.of gq⟩, ?_⟩
    refine lcPr (xs := ws.drop 1) gq P2 (by rw [List.length_drop]; omega) (by rw [List.length_drop]; omega) fun D ps l H3 gD pr sb hq hd => ?_
    obtain ⟨a3, r3, P3, l3, B3⟩ := hd
    rw [List.length_drop] at l3
    have gw3 := B3 _ _ gw (pen_ne P2 gw)
    have B3 := B2.trans B3
    have sb : (l.map (·.1)).Sublist ws := sb.trans (List.drop_sublist 1 ws)
    have nk : (l.map (·.1)).Nodup := uw.1.sublist sb
    have ll : l.length ≤ 6 := by have := sb.length_le; rw [List.length_map] at this; omega
    refine ⟨D, ps, agK l, rfl, SqL.of gD, pr.paired, fun pd hpd => ?_⟩
    have em : mergeK [] (agK l) = agK l := merge_ag (l0 := []) nk
    rw [em]
    have s4 : Same H3 (upd H3 pd (.dK (agK l))) := Same.new hpd
    have gd4 : AgD (upd H3 pd (.dK (agK l))) pd l := upd_same
    have gw4 := s4 _ _ gw3
    have P4 := P3.same s4
    have B4 := B3.trans (But.same s4)
    clear s4 pr gD gw3 P3 B3 hpd P2 B2
    generalize (upd H3 pd (.dK (agK l))) = H4 at *
    refine gNm ?_
    refine sqA (lcOf ⟨_, rfl, lw, rfl, ⟨_, SqL.of gw4⟩, ?_⟩)
    refine lcD (xs := ws) gw4 P4 (by omega) (by omega) (fun z G a5 r5 R P5 l5 hR => ⟨_, rfl, p, c, ns, a5, r5, _, rfl, P5, by omega, by decide, by decide, fun e G2 _ _ hd => ⟨_, _, rfl, rfl, _, rfl, hR _ G2 hd⟩⟩) fun kn0 us0 H5 hk gk sbk hd => ?_
    obtain ⟨a5, r5, P5, l5, B5⟩ := hd
    have gw5 := B5 _ _ gw4 (pen_ne P4 gw4)
    have pdp : pd ≠ p := fun e => by unfold AgD at gd4; rw [e, P4.hp] at gd4; cases gd4
    have gd5 : AgD H5 pd l := B5 _ _ gd4 pdp
    have B5 := B4.trans B5
    refine ⟨fun σ H' => ∃ kn us, σ = [some (.ref p), some (.int 0), some (.int 8), some (.ref lw), some (.ref pd), some (.ref kn), none, none, none] ∧ Pen H' p c ns a5 r5 ∧ But p H H' ∧ H' lw = some (.lst (ws.map V.str)) ∧ AgD H' pd l ∧ H' kn = some (.lst (us.map V.str)) ∧ us.Sublist ws ∧ (us = [] → l ≠ []), ?_, ?_⟩
    · refine ⟨_, rfl, by show 0 ≤ sizeLine; decide, fun e he => ?_⟩
      have s6 : Same H5 (upd H5 e (.lst [])) := Same.new he
      have ge : (upd H5 e (.lst [])) e = some (.lst []) := upd_same
      have gw6 := s6 _ _ gw5
      have gd6 : AgD (upd H5 e (.lst [])) pd l := s6 _ _ gd5
      have gk6 := s6 _ _ gk
      have P6 := P5.same s6
      have B6 := B5.trans (But.same s6)
      generalize (upd H5 e (.lst [])) = H6 at *
      refine ⟨_, _, .lst (SqL.of gk6) (dpTup us0), .lst (SqL.of ge) .nil, shapedTup (fun z hz => uw.2 z (sbk.subset hz)), by decide +kernel, _, rfl, ?_⟩
      cases us0 with
      | cons z zs => exact iteF (iteF ⟨kn0, z :: zs, rfl, P6, B6, gw6, gd6, gk6, sbk, nofun⟩)
      | nil =>
        refine iteT ⟨_, rfl, pd, _, rfl, gd6, rfl, _, rfl, ?_⟩
        cases l with
        | cons q r => exact iteF ⟨kn0, [], rfl, P6, B6, gw6, gd6, gk6, sbk, fun _ => nofun⟩
        | nil =>
          refine iteT ⟨_, rfl, 1, rfl, lw, _, rfl, SqL.of gw6, fun q hq => ?_⟩
          have s7 := Same.new (o := .lst (cutV (ws.map V.str) none (some 1))) hq
          refine ⟨q, ws.take 1, rfl, P6.same s7, B6.trans (But.same s7), s7 _ _ gw6, s7 _ _ gd6, by rw [upd_same, cutT ws w1], List.take_sublist 1 ws, fun e => ?_⟩
          have := congrArg List.length e
          rw [List.length_take] at this
          rw [List.length_nil] at this
          omega
    · clear gd5 gw5 gk B5 P5 sbk hk
      rintro σ H6 ⟨kn, us, rfl, P6, B6, gw6, gd6, gk6, sbu, hne⟩
      obtain ⟨ks, hks⟩ : ∃ ks, ks = l.map (·.1) := ⟨_, rfl⟩
      refine sqA (lcOf ⟨_, rfl, lw, rfl, ⟨_, SqL.of gw6⟩, ?_⟩)
      refine lcP (fun z => !decide (z ∈ ks)) gw6 (by omega) (fun z G R sG hR => ⟨_, rfl, _, rfl, pd, _, rfl, DGet.k (k := .inr z) (sG _ _ gd6), _, rfl, (by rw [agSome, ← hks]; exact hR)⟩) fun fr H7 hfr gfr s7 => ?_
      have P7 := P6.same s7
      have B7 := B6.trans (But.same s7)
      have gw7 := s7 _ _ gw6
      have gd7 : AgD H7 pd l := s7 _ _ gd6
      have gk7 := s7 _ _ gk6
      clear s7 P6 B6 gw6 gd6 gk6 hfr
      intro S hS
      have nk := ne_of_none gk7 hS
      have nd := ne_of_none gd7 hS
      have nw := ne_of_none gw7 hS
      have nf := ne_of_none gfr hS
      have np := ne_of_none P7.hp hS
      have nc := ne_of_none P7.hc hS
      have hS0 := fresh0 B7 hS (Ne.symm np)
      have s8 : Same H7 (upd H7 S (.dK [])) := Same.new hS
      have gS : (upd H7 S (.dK [])) S = some (.dK []) := upd_same
      dsimp only [tPairs, tC]
      refine ⟨_, rfl, _, rfl, by show 0 ≤ sizeLine; decide, fun b hb => ?_⟩
      have nb : b ≠ S := fun e => by rw [e, gS] at hb; cases hb
      have s9 := s8.trans (Same.new (o := .lst []) hb)
      have gS := (upd_ne (o := .lst []) (Ne.symm nb)).trans gS
      have gb : (upd (upd H7 S (.dK [])) b (.lst [])) b = some (.lst []) := upd_same
      have P9 := P7.same s9
      have B9 := B7.trans (But.same s9)
      have gw9 := s9 _ _ gw7
      have gd9 : AgD _ pd l := s9 _ _ gd7
      have gk9 := s9 _ _ gk7
      have gf9 := s9 _ _ gfr
      clear s9 s8 hb P7 B7 gw7 gd7 gk7 gfr hS
      generalize (upd (upd H7 S (.dK [])) b (.lst [])) = H9 at *
      refine ⟨gS, [(.inr "given", .ref kn), (.inr "again", .ref pd), (.inr "loop", .non), (.inr "between", .ref b), (.inr "second", .non)], rfl, by show 5 ≤ 15; decide, ?_⟩
      have e5 : mergeK [] [((.inr "given" : Key), V.ref kn), (.inr "again", .ref pd), (.inr "loop", .non), (.inr "between", .ref b), (.inr "second", .non)] = [((.inr "given" : Key), V.ref kn), (.inr "again", .ref pd), (.inr "loop", .non), (.inr "between", .ref b), (.inr "second", .non)] := rfl
      rw [e5]
      clear e5
      have gb := (upd_ne (o := .dK [((.inr "given" : Key), V.ref kn), (.inr "again", .ref pd), (.inr "loop", .non), (.inr "between", .ref b), (.inr "second", .non)]) nb).trans gb
      have gw10 := (upd_ne (o := .dK [((.inr "given" : Key), V.ref kn), (.inr "again", .ref pd), (.inr "loop", .non), (.inr "between", .ref b), (.inr "second", .non)]) nw).trans gw9
      have gd10 : AgD _ pd l := (upd_ne (o := .dK [((.inr "given" : Key), V.ref kn), (.inr "again", .ref pd), (.inr "loop", .non), (.inr "between", .ref b), (.inr "second", .non)]) nd).trans gd9
      have gk10 := (upd_ne (o := .dK [((.inr "given" : Key), V.ref kn), (.inr "again", .ref pd), (.inr "loop", .non), (.inr "between", .ref b), (.inr "second", .non)]) nk).trans gk9
      have gf10 := (upd_ne (o := .dK [((.inr "given" : Key), V.ref kn), (.inr "again", .ref pd), (.inr "loop", .non), (.inr "between", .ref b), (.inr "second", .non)]) nf).trans gf9
      have P10 := P9.put (o := .dK [((.inr "given" : Key), V.ref kn), (.inr "again", .ref pd), (.inr "loop", .non), (.inr "between", .ref b), (.inr "second", .non)]) (Ne.symm np) (Ne.symm nc)
      have B10 := butPut (o := .dK [((.inr "given" : Key), V.ref kn), (.inr "again", .ref pd), (.inr "loop", .non), (.inr "between", .ref b), (.inr "second", .non)]) B9 hS0
      have gS : (upd H9 S (.dK [((.inr "given" : Key), V.ref kn), (.inr "again", .ref pd), (.inr "loop", .non), (.inr "between", .ref b), (.inr "second", .non)])) S = _ := upd_same
      clear P9 B9 gw9 gd9 gk9 gf9
      generalize (upd H9 S (.dK [((.inr "given" : Key), V.ref kn), (.inr "again", .ref pd), (.inr "loop", .non), (.inr "between", .ref b), (.inr "second", .non)])) = H10 at *
      refine ⟨by show 0 ≤ sizeLine; decide, fun h hh => ?_⟩
      have nh : h ≠ S := fun e => by rw [e, gS] at hh; cases hh
      have s11 := Same.new (o := .lst []) hh
      have gh : (upd H10 h (.lst [])) h = some (.lst []) := upd_same
      refine ⟨_, rfl, S, _, rfl, DPut.k (k := .inr "behind") (s11 _ _ gS) (by show 5 < sizeLine; decide), ?_⟩
      have e6 : putK [((.inr "given" : Key), V.ref kn), (.inr "again", .ref pd), (.inr "loop", .non), (.inr "between", .ref b), (.inr "second", .non)] (.inr "behind") (.ref h) = [((.inr "given" : Key), V.ref kn), (.inr "again", .ref pd), (.inr "loop", .non), (.inr "between", .ref b), (.inr "second", .non), (.inr "behind", .ref h)] := rfl
      rw [e6]
      clear e6
      obtain ⟨k6, hk6⟩ : ∃ k6, k6 = [((.inr "given" : Key), V.ref kn), (.inr "again", .ref pd), (.inr "loop", .non), (.inr "between", .ref b), (.inr "second", .non), (.inr "behind", .ref h)] := ⟨_, rfl⟩
      rw [← hk6]
      have gb := (upd_ne (o := .dK k6) nb).trans (s11 _ _ gb)
      have gh := (upd_ne (o := .dK k6) nh).trans gh
      have gw12 := (upd_ne (o := .dK k6) nw).trans (s11 _ _ gw10)
      have gd12 : AgD _ pd l := (upd_ne (o := .dK k6) nd).trans (s11 _ _ gd10)
      have gk12 := (upd_ne (o := .dK k6) nk).trans (s11 _ _ gk10)
      have gf12 := (upd_ne (o := .dK k6) nf).trans (s11 _ _ gf10)
      have P12 := (P10.same s11).put (o := .dK k6) (Ne.symm np) (Ne.symm nc)
      have B12 := butPut (o := .dK k6) (B10.trans (But.same s11)) hS0
      have gS : (upd (upd H10 h (.lst [])) S (.dK k6)) S = some (.dK k6) := upd_same
      clear P10 B10 gw10 gd10 gk10 gf10 s11 hh
      generalize (upd (upd H10 h (.lst [])) S (.dK k6)) = H12 at *
      refine sqA (opv rfl (lcOf ⟨_, rfl, lw, rfl, ⟨_, SqL.of gw12⟩, ?_⟩))
      refine lcP (fun z => decide (z ∈ ks) && !decide (z ∈ us)) gw12 (by omega) (fun z G R sG hR => ⟨_, rfl, _, rfl, pd, _, rfl, DGet.k (k := .inr z) (sG _ _ gd12), _, rfl, ?_⟩) fun ex H13 hex gex s13 => ?_
      · rw [agSome, ← hks]
        by_cases hz : z ∈ ks
        · rw [decide_eq_true hz] at hR ⊢
          refine iteT ⟨_, rfl, _, rfl, kn, _, rfl, .inl (SqL.of (sG _ _ gk12)), rfl, flat_strs _, _, rfl, ?_⟩
          rw [if_pos rfl, inV_str]
          exact hR
        · rw [decide_eq_false hz] at hR ⊢
          exact iteF hR
      obtain ⟨xs, hxs⟩ : ∃ xs, xs = ws.filter (fun z => decide (z ∈ ks) && !decide (z ∈ us)) := ⟨_, rfl⟩
      rw [← hxs] at gex
      have lxs : xs.length ≤ 6 := by rw [hxs]; exact Nat.le_trans (List.length_filter_le _ _) w6
      have lus := sbu.length_le
      refine ⟨kn, ex, _, _, rfl, rfl, s13 _ _ gk12, gex, by rw [List.length_map, List.length_map]; omega, fun kn2 hkn2 => ?_⟩
      rw [← List.map_append]
      have s14 := s13.trans (Same.new (o := .lst ((us ++ xs).map V.str)) hkn2)
      have gn : (upd H13 kn2 (.lst ((us ++ xs).map V.str))) kn2 = some (.lst ((us ++ xs).map V.str)) := upd_same
      have gb := s14 _ _ gb
      have gh := s14 _ _ gh
      have gd14 : AgD _ pd l := s14 _ _ gd12
      have gk14 := s14 _ _ gk12
      have gf14 := s14 _ _ gf12
      have gS := s14 _ _ gS
      have P14 := P12.same s14
      have B14 := B12.trans (But.same s14)
      clear s14 s13 P12 B12 gw12 gd12 gk12 gf12 hkn2 gex hex
      generalize (upd H13 kn2 (.lst ((us ++ xs).map V.str))) = H14 at *
      have mx : ∀ z, z ∈ xs ↔ z ∈ ws ∧ z ∈ ks ∧ z ∉ us := fun z => by rw [hxs, List.mem_filter, Bool.and_eq_true, decide_eq_true_eq, Bool.not_eq_true', decide_eq_false_iff_not]
      have hk2 : ∀ z, z ∈ us ++ xs ↔ z ∈ us ∨ z ∈ l.map (·.1) := fun z => by
        rw [List.mem_append, mx z, ← hks]
        exact ⟨fun h => h.imp id fun h => h.2.1, fun h => h.elim .inl fun h => (Classical.em (z ∈ us)).imp id fun n => ⟨sb.subset (by rw [← hks]; exact h), h, n⟩⟩
      have uk : Uni (us ++ xs) := ⟨List.nodup_append.mpr ⟨uw.1.sublist sbu, by rw [hxs]; exact uw.1.sublist List.filter_sublist, fun z hz y hy e => ((mx y).mp hy).2.2 (e ▸ hz)⟩, fun z hz => uw.2 z ((List.mem_append.mp hz).elim (fun h => sbu.subset h) fun h => ((mx z).mp h).1)⟩
      have mf : ∀ z ∈ ws.filter (fun z => !decide (z ∈ ks)), z ∈ ws ∧ z ∉ l.map (·.1) := fun z hz => by
        rw [List.mem_filter, Bool.not_eq_true', decide_eq_false_iff_not, hks] at hz
        exact hz
      have u0 : 0 < (us ++ xs).length := by
        cases us with
        | cons z r => exact Nat.succ_pos _
        | nil =>
          cases l with
          | nil => exact absurd rfl (hne rfl)
          | cons q r => exact List.length_pos_of_mem ((hk2 q.1).mpr (.inr (by simp)))
      refine ⟨_, rfl, _, rfl, _, rfl, _, rfl, p, c, ns, a5, r5, kn2, fr, us ++ xs, _, 8, rfl, P14, by omega, gn, gf14, uk, u0, ⟨uw.1.sublist List.filter_sublist, fun z h => uw.2 z (mf z h).1⟩, ⟨ws, fun z hz => ((hk2 z).mp hz).elim (fun h => sbu.subset h) (fun h => sb.subset h), fun z h => (mf z h).1, w6⟩, by decide, fun T' L Hn as hs H15 gT lots ghs las dr hd => ?_⟩
      obtain ⟨a15, r15, P15, l15, B15⟩ := hd
      have gb := B15 _ _ gb (pen_ne (zs := []) P14 gb)
      have gh := B15 _ _ gh (pen_ne (zs := []) P14 gh)
      have gd15 : AgD H15 pd l := B15 _ _ gd14 pdp
      have gk15 := B15 _ _ gk14 (pen_ne P14 gk14)
      have gS := B15 _ _ gS (Ne.symm np)
      have B15 := B14.trans B15
      have hs6 : hs.length ≤ 6 := Nat.le_trans (uniLen dr.here fun z hz => (dr.hin z hz).elim (fun h => ((hk2 z).mp h).elim (fun h => sbu.subset h) (fun h => sb.subset h)) fun h => (mf z h).1) w6
      refine ⟨T', _, rfl, SqT.of gT, rfl, _, _, rfl, _, rfl, S, _, rfl, DPut.k (k := .inr "ahead") gS (by rw [hk6]; show 6 < sizeLine; decide), _, _, rfl, rfl, ?_⟩
      have e7 : putK k6 (.inr "ahead") (.ref L) = [((.inr "given" : Key), V.ref kn), (.inr "again", .ref pd), (.inr "loop", .non), (.inr "between", .ref b), (.inr "second", .non), (.inr "behind", .ref h), (.inr "ahead", .ref L)] := by rw [hk6]; rfl
      obtain ⟨k7, hk7⟩ : ∃ k7, k7 = putK k6 (.inr "ahead") (.ref L) := ⟨_, rfl⟩
      rw [← hk7] at e7 ⊢
      have lots := lots.putD (o := .dK k7) gS
      have nHn : Hn ≠ S := fun e => by rw [e, gS] at ghs; cases ghs
      have ghs := (upd_ne (o := .dK k7) nHn).trans ghs
      have gb := (upd_ne (o := .dK k7) nb).trans gb
      have gh := (upd_ne (o := .dK k7) nh).trans gh
      have gd16 : AgD _ pd l := (upd_ne (o := .dK k7) nd).trans gd15
      have gk16 := (upd_ne (o := .dK k7) nk).trans gk15
      have P16 := P15.put (o := .dK k7) (Ne.symm np) (Ne.symm nc)
      have B16 := butPut (o := .dK k7) B15 hS0
      have gS : (upd H15 S (.dK k7)) S = some (.dK k7) := upd_same
      clear P14 P15 B14 B15 gd14 gd15 gk14 gk15 gT gn gf14
      generalize (upd H15 S (.dK k7)) = H16 at *
      refine ⟨_, rfl, _, _, rfl, rfl, _, rfl, ite2 (fun h => absurd (of_decide_eq_true h) (by decide)) (fun _ => ?_)⟩
      refine ⟨_, rfl, _, _, rfl, rfl, _, rfl, ite2 (fun h => absurd (of_decide_eq_true h) (by decide)) (fun _ => ?_)⟩
      refine ⟨_, rfl, _, _, rfl, rfl, _, rfl, ite2 (fun h => absurd (of_decide_eq_true h) (by decide)) (fun _ => ?_)⟩
      refine nxT ?_
      dsimp only
      refine sdp (lcOf ?_)
      refine ⟨_, rfl, Hn, rfl, ⟨_, SqL.of ghs⟩, ?_⟩
      refine lcD ghs P16 (by omega) (by omega) (fun z G a7 r7 R P7 l7 hR => ⟨_, rfl, p, c, ns, a7, r7, _, rfl, P7, by omega, by decide, by decide, fun e G2 _ _ hd => ⟨rfl, _, rfl, hR _ G2 hd⟩⟩) fun rl rs H17 hr0 gr sbr hd => ?_
      obtain ⟨a17, r17, P17, l17, B17⟩ := hd
      have gb := B17 _ _ gb (pen_ne (zs := []) P16 gb)
      have gh := B17 _ _ gh (pen_ne (zs := []) P16 gh)
      have gd17 : AgD H17 pd l := B17 _ _ gd16 pdp
      have gk17 := B17 _ _ gk16 (pen_ne P16 gk16)
      have nr : rl ≠ S := fun e => by rw [e, gS] at hr0; cases hr0
      have gS := B17 _ _ gS (Ne.symm np)
      have lots := lots.but P16 B17
      have B17 := B16.trans B17
      refine ⟨_, rfl, S, _, rfl, DPut.k (k := .inr "results") gS (by rw [e7]; show 7 < sizeLine; decide), ?_⟩
      have e8 : putK k7 (.inr "results") (.ref rl) = siteK kn pd b h L rl := by rw [e7]; rfl
      rw [e8]
      refine ⟨_, rfl, k S ⟨⟨as, none, [], none, []⟩, us, l, rs⟩ _ ⟨⟨kn, pd, b, h, L, rl, upd_same, (upd_ne nk).trans gk17, (upd_ne nd).trans gd17, (upd_ne nb).trans gb, (upd_ne nh).trans gh, lots.putD gS, (upd_ne nr).trans gr⟩, rfl, dr.lot⟩ (tolOk uw w6 sbu sb hq hk2 mf dr las sbr) las ⟨a17, r17, P17.put (Ne.symm np) (Ne.symm nc), by omega, butPut B17 hS0⟩⟩
end
end K33

set_option Elab.async false
set_option linter.all false
set_option maxRecDepth 100000
set_option maxHeartbeats 4000000
/-! The law's program made. -/
namespace K33
open PySem L2 NX NU
open PyProof.Rows (sortedS)
abbrev sRp : Stmt := top 86
abbrev sRl : Stmt := top 87
abbrev NRp : List Str := ["_law_deeds_here", "_law_made", "_law_used"]
abbrev NRl : List Str := ["_law_site_here", "_law_parts", "_law_some_here", "_law_part"]
theorem scRp : FnScope NRp ["_law_deeds_here"] (defScope sRp) := ⟨rfl, rfl, rfl, by decide +kernel, rfl, by decide +kernel, by decide +kernel⟩
theorem scRl : FnScope NRl ["_law_site_here"] (defScope sRl) := ⟨rfl, rfl, rfl, by decide +kernel, rfl, by decide +kernel, by decide +kernel⟩
abbrev dvsP (t0 t1 t2 : Addr) : List V := [.ref t0, .non, .ref t1, .non, .ref t2]
abbrev kwsP (t3 t4 : Addr) : List (Str × V) := [("given", .ref t3), ("again", .non), ("results", .ref t4)]
section
variable {K : PySem.W.Frag} {f : Addr} {fd : FuncData} {t0 t1 t2 t3 t4 : Addr}
theorem kb6 (F : L2.FunD K "__init__" "Program.__init__" (defArgs sPi) (defBody sPi) (defScope sPi) (dvsP t0 t1 t2) (kwsP t3 t4) f fd) : KBn K fd pPi 6 ["given", "again", "results"] (fun us ws => us ++ ws) (fun vs zs => vs ++ zs) := by
  obtain ⟨its, mv, h⟩ := F.kbinds (ps := pPi) 6 ["given", "again", "results"] [] (fun us its mv ws => us ++ ws) (by intro h; cases h) (by intro h; cases h) nofun (fun r1 _ _ r2 => r1.append r2) (fun T D doc pm an cdv ct us its mv ws l1 l2 l3 l4 => by
    match us, its, mv, ws, l1, l2, l3, l4 with
    | [_, _, _, _, _, _], [_, _, _, _, _], [], [_, _, _], _, _, _, _ => exact ⟨_, rfl, rfl⟩)
  exact h
theorem kb2 (F : L2.FunD K "__init__" "Program.__init__" (defArgs sPi) (defBody sPi) (defScope sPi) (dvsP t0 t1 t2) (kwsP t3 t4) f fd) : ∃ its mv : List Value, KBn K fd pPi 2 ["given", "results"] (fun us ws => us ++ its.drop 1 ++ ws.take 1 ++ mv ++ ws.drop 1) (fun vs zs => vs ++ (dvsP t0 t1 t2).drop 1 ++ zs.take 1 ++ [.non] ++ zs.drop 1) :=
  F.kbinds (ps := pPi) 2 ["given", "results"] [("again", .non)] (fun us its mv ws => us ++ its.drop 1 ++ ws.take 1 ++ mv ++ ws.drop 1) (by intro h; cases h) (by intro h; cases h) (fun q h => by rw [List.mem_singleton.mp h]; simp) (fun r1 r2 r3 r4 => (((r1.append (r2.drop 1)).append (r4.take 1)).append r3).append (r4.drop 1)) (fun T D doc pm an cdv ct us its mv ws l1 l2 l3 l4 => by
    match us, its, mv, ws, l1, l2, l3, l4 with
    | [_, _], [_, _, _, _, _], [_], [_, _], _, _, _, _ => exact ⟨_, rfl, _, _, _, _, _, _, rfl, rfl, rfl⟩)
end
/-- a part as it is drawn -/
def PtI (H : Hp) (v : V) : Option (List Act) → Prop
  | none => v = .non
  | some as => ∃ L, v = .ref L ∧ LotsAt H L as ∧ as.length ≤ 200 ∧ ∀ a ∈ as, LotOk a.1 a.2
/-- a part of the package's deeds, in a new list -/
def PtR (d : D3) (H H' : Hp) (v : V) : Option (List Act) → Prop
  | none => v = .non
  | some as => ∃ (p : Addr) (xs : List Addr), v = .ref p ∧ H p = none ∧ H' p = some (.lst (xs.map V.ref)) ∧ AllAt d H' xs as
def spRp (K : PySem.W.Frag) (d : D3) : Sp := fun vs H Q _ => ∃ (v : V) (o : Option (List Act)), vs = [v] ∧ PtI H v o ∧ ∀ v' H', Same H H' → PtR d H H' v' o → Q v' H'
section
variable {P : Program} {w : World} {K : PySem.W.Frag} {mg : Str → Option Value} {base : Heap}
theorem ok_rp {d : D3} {f : Addr} {fd : FuncData} (F : Fun K "_law_real_part" "_law_real_part" sRp f fd) (cReal : C8.Cal P w K mg base 7 "_law_real_deed" (spReal K d) []) : FnOk P w K mg base CX0 8 f fd ["_law_deeds_here"] (spRp K d) := by
  refine F.ok scRp (fun vs H Q E h => ?_) (fun cdv A outer s H vs Q E hr h => ?_)
  · obtain ⟨v, o, rfl, _⟩ := h
    rfl
  · obtain ⟨v, o, rfl, h, k⟩ := h
    refine ⟨_, (pss_cons (ps_if (pt_cmpR op_isN (pv 0) pe_non (nomark _)) (pss_one (ps_ret pe_non)) pss_nil)
      (pss_one (ps_ret (pe_lc (own := [("_law_made", 1), ("_law_used", 2)]) (g := gTup K 2 (gCons (gName 1) (gCons (gName 2) gNil))) rfl scRp.nd (pi_list (pv 0)) (blkOk_by (own := [("_law_made", 1), ("_law_used", 2)]) (N := NRp) (sc := defScope sRp) (by decide +kernel)) (fun _ _ _ _ _ => (pg_tup (n := 2) rfl (pgs_cons (pg_name (i := 1) scRp.nd rfl (Or.inl rfl)) (pgs_cons (pg_name (i := 2) scRp.nd rfl (Or.inl rfl)) pgs_nil)))) (fun _ _ _ _ _ => pts_nil) (fun _ _ _ _ _ => (C8.pe_c cReal hr (by decide) rfl (pa_cons (pv 1) (pa_cons (pv 2) pa_nil)))))))), ?_⟩
    cases o with
    | none =>
      obtain rfl : v = .non := h
      exact ⟨_, rfl, rfl, _, rfl, iteT (k _ H (Same.refl H) rfl)⟩
    | some as =>
      obtain ⟨L, rfl, ⟨ts, gL, lt⟩, h200, lo⟩ := h
      refine ⟨_, rfl, rfl, _, rfl, iteF ?_⟩
      refine ⟨_, rfl, L, rfl, ⟨_, SqL.of gL⟩, fun D hD => ?_⟩
      have z200 : (300 : Nat) ≤ sizeLine := by decide
      refine lc_list (xs := ts.map V.ref) (fun j H' => Same H H' ∧ ∃ xs : List Addr, H' D = some (.lst (xs.map V.ref)) ∧ AllAt d H' xs (as.take j)) ⟨Same.new hD, [], upd_same, rfl, nofun⟩ (fun j H' _ z => SqL.of (z.1 _ _ gL)) ?_ ?_
      · rintro j y H2 hy ⟨s2, xs, gD, al⟩
        rw [List.getElem?_map] at hy
        obtain ⟨t, ht, rfl⟩ := Option.map_eq_some_iff.mp hy
        have hj : j < as.length := by rw [← lt.1]; exact (List.getElem?_eq_some_iff.mp ht).1
        obtain ⟨a, ha⟩ : ∃ a, as[j]? = some a := ⟨_, List.getElem?_eq_getElem hj⟩
        obtain ⟨u, g1, g2⟩ := lt.2 j t a ht ha
        refine ⟨t, _, rfl, SqT.of (s2 _ _ g1), rfl, _, _, rfl, _, _, rfl, rfl, ?_⟩
        refine ⟨rfl, ?_⟩
        unfold tYes
        dsimp only
        rw [if_pos rfl]
        refine ⟨_, rfl, _, rfl, u, a.1, a.2, rfl, SqL.of (s2 _ _ g2), lo a (List.mem_of_getElem? ha), fun x H3 hn => ?_⟩
        obtain ⟨s3, hx, ys, isd⟩ := hn
        have gD3 := s3 _ _ gD
        have lx := al.1
        rw [List.length_take] at lx
        have put : ∀ {x' mk us ys}, IsD d H3 x' mk us ys → IsD d (upd H3 D (.lst (xs.map V.ref ++ [V.ref x]))) x' mk us ys := fun {x' mk us ys} h => h.kl (fun b o e n => (upd_ne (fun z => by rw [z, gD3] at e; exact n _ (Option.some.inj e).symm)).trans e)
        refine ⟨_, gD3, by rw [List.length_map]; omega, sameUpd (s2.trans s3) hD, xs ++ [x], by rw [upd_same, List.map_append]; rfl, ?_⟩
        rw [takeSnoc ha]
        refine ⟨by rw [List.length_append, List.length_append, al.1]; rfl, fun i x2 a2 e1 e2 => ?_⟩
        by_cases hi : i < xs.length
        · rw [List.getElem?_append_left hi] at e1
          rw [List.getElem?_append_left (by rw [← al.1]; exact hi)] at e2
          exact (al.2 i x2 a2 e1 e2).imp fun ys h => put (h.same s3)
        · obtain ⟨q, rfl⟩ : ∃ q, i = xs.length + q := ⟨i - xs.length, by omega⟩
          have hl := al.1
          rw [List.getElem?_append_right (by omega)] at e1
          rw [List.getElem?_append_right (by omega)] at e2
          rw [Nat.add_sub_cancel_left] at e1
          cases q with
          | zero =>
            rw [← hl, Nat.add_zero, Nat.sub_self] at e2
            cases e1
            cases e2
            exact ⟨ys, put isd⟩
          | succ q => cases e1
      · rintro H2 ⟨s2, xs, gD, al⟩
        rw [List.length_map, lt.1, List.take_length] at al
        exact k _ H2 s2 ⟨D, xs, rfl, hD, gD, al⟩
end
end K33

set_option Elab.async false
set_option linter.all false
set_option maxRecDepth 100000
set_option maxHeartbeats 4000000
/-! The law's program made, 2. -/
namespace K33
open PySem L2 NX NU
open PyProof.Rows (sortedS)
/-- a part in the list of parts at D -/
def PL (d : D3) (H : Hp) (D : Addr) (v : V) : Option (List Act) → Prop
  | none => v = .non
  | some as => ∃ (p : Addr) (xs : List Addr), v = .ref p ∧ p ≠ D ∧ H p = some (.lst (xs.map V.ref)) ∧ AllAt d H xs as
theorem AllAt.kl {d : D3} {H H' : Hp} {xs : List Addr} {as : List Act} (s : KL H H') (h : AllAt d H xs as) : AllAt d H' xs as := ⟨h.1, fun i x a e1 e2 => (h.2 i x a e1 e2).imp fun _ q => q.kl s⟩
theorem PL.but {d : D3} {H H' : Hp} {D : Addr} {v : V} {ys : List V} (g : H D = some (.lst ys)) (B : But D H H') : ∀ {o : Option (List Act)}, PL d H D v o → PL d H' D v o
  | none, h => h
  | some _, ⟨p, xs, e, n, a, b⟩ => ⟨p, xs, e, n, B _ _ a n, b.kl fun c u h k => B c u h fun z => by rw [z, g] at h; exact k _ (Option.some.inj h).symm⟩
theorem PL.inO {K : PySem.W.Frag} {d : D3} {H : Hp} {D : Addr} {v : V} : ∀ {o : Option (List Act)}, PL d H D v o → InO K d H v o
  | none, h => h
  | some _, ⟨p, xs, e, _, a, b⟩ => ⟨p, xs, e, .inl (SqL.of a), b⟩
theorem PtR.pl {d : D3} {H H' : Hp} {D : Addr} {v : V} {o' : HO} (g : H D = some o') : ∀ {o : Option (List Act)}, PtR d H H' v o → PL d H' D v o
  | none, h => h
  | some _, ⟨p, xs, e, n, a, b⟩ => ⟨p, xs, e, (fun z => by rw [z, g] at n; cases n), a, b⟩
theorem SiteAt.same {H H' : Hp} {S : Addr} {t : Tol} (s : Same H H') (h : SiteAt H S t) : SiteAt H' S t := by
  obtain ⟨⟨gv, ag, b, hh, L, r, e, e1, e2, e3, e4, e5, e6⟩, g, lo⟩ := h
  exact ⟨⟨gv, ag, b, hh, L, r, s _ _ e, s _ _ e1, s _ _ e2, s _ _ e3, s _ _ e4, e5.same s, s _ _ e6⟩, g, lo⟩
theorem lots0 {H : Hp} {b : Addr} (h : H b = some (.lst [])) : LotsAt H b [] := ⟨[], h, rfl, nofun⟩
theorem SiteAt.part {H : Hp} {S : Addr} {t : Tol} (h : SiteAt H S t) (ok : t.Ok) {j : Nat} {z : Str} (hz : partN[j]? = some z) : ∃ v, DGet H S (.str z) (some v) ∧ PtI H v (t.g.at j) := by
  obtain ⟨⟨gv, ag, b, hh, L, r, e, e1, e2, e3, e4, e5, e6⟩, g, lo⟩ := h
  have gl : t.g.l = none := by rw [g]
  have gs : t.g.s = none := by rw [g]
  have gb : t.g.b = [] := by rw [g]
  have gh : t.g.h = [] := by rw [g]
  match j, hz with
  | 0, hz => cases hz; exact ⟨.ref L, DGet.k (k := .inr "ahead") e, L, rfl, e5, ok.sizes.a, lo⟩
  | 1, hz => cases hz; exact ⟨.non, DGet.k (k := .inr "loop") e, by show PtI H _ t.g.l; rw [gl]; exact rfl⟩
  | 2, hz => cases hz; exact ⟨.ref b, DGet.k (k := .inr "between") e, by show PtI H _ (some t.g.b); rw [gb]; exact ⟨b, rfl, lots0 e3, Nat.zero_le _, nofun⟩⟩
  | 3, hz => cases hz; exact ⟨.non, DGet.k (k := .inr "second") e, by show PtI H _ t.g.s; rw [gs]; exact rfl⟩
  | 4, hz => cases hz; exact ⟨.ref hh, DGet.k (k := .inr "behind") e, by show PtI H _ (some t.g.h); rw [gh]; exact ⟨hh, rfl, lots0 e4, Nat.zero_le _, nofun⟩⟩
  | n + 5, hz => cases hz
/-- Program(..) is made -/
structure PM (P : Program) (w : World) (K : PySem.W.Frag) (mg : Str → Option Value) (base : Heap) (d : D3) (C f : Addr) (fd : FuncData) (t0 t1 t2 t3 t4 : Addr) : Prop where
  mak : Mk K C f
  fn : FnOk P w K mg base CX0 5 f fd pPi (spPi K d)
  g : mg "Program" = some (.ref C)
  fd_ : L2.FunD K "__init__" "Program.__init__" (defArgs sPi) (defBody sPi) (defScope sPi) (dvsP t0 t1 t2) (kwsP t3 t4) f fd
  cls : PCls K C
  e1 : ∀ H, SqT K H t1 []
  e2 : ∀ H, SqT K H t2 []
def spRl (K : PySem.W.Frag) (d : D3) (C : Addr) : Sp := fun vs H Q _ => ∃ (S : Addr) (t : Tol), vs = [.ref S] ∧ SiteAt H S t ∧ t.Ok ∧ ∀ x H', Same H H' → IsP K d H' x C t → Q (.ref x) H'
section
variable {P : Program} {w : World} {K : PySem.W.Frag} {mg : Str → Option Value} {base : Heap}
theorem pe_c0 {X : Cx} {k j : Nat} {x : Str} {sp : Sp} {dvs : List V} {p pos : Pos} (c : C8.Cal X.prog X.w X.K X.mg X.base k x sp dvs) (hr : Room j X.A) (hk : k ≤ j) (hg : Gl X x)
    (hdb : (x == ("__debug__" : Str)) = false := by decide) : PE X (.Call (.Name x p) [] [] pos) (tCall sp dvs C8.E0 tNil) := by
  obtain ⟨f, fd, ps, ds, F, hm, kp, b, d⟩ := c.ex
  exact pe_call0 F (hr.mono hk) hg hm kp b d C8.pass0 hdb
theorem ok_rl {d : D3} {C fP : Addr} {fdP : FuncData} {t0 t1 t2 t3 t4 : Addr} {f : Addr} {fd : FuncData} (F : Fun K "_law_real" "_law_real" sRl f fd) (M : PM P w K mg base d C fP fdP t0 t1 t2 t3 t4) (cOr : C8.Cal P w K mg base 1 "_law_order" spOr []) (cRp : C8.Cal P w K mg base 8 "_law_real_part" (spRp K d) []) : FnOk P w K mg base CX0 9 f fd ["_law_site_here"] (spRl K d C) := by
  refine F.ok scRl (fun vs H Q E h => ?_) (fun cdv A outer s H vs Q E hr h => ?_)
  · obtain ⟨S, t, rfl, _⟩ := h
    rfl
  · obtain ⟨S, t, rfl, hS, ok, k⟩ := h
    have hu := hu_of hr
    refine ⟨_, (pss_cons (ps_setLc (i := 1) (own := [("_law_part", 3)]) (g := gName 3) rfl scRl.nd rfl rfl (sw_true rfl rfl rfl (by decide +kernel)) (pi_list (pe_c0 cOr hr (by decide) rfl)) (blkOk_by (own := [("_law_part", 3)]) (N := NRl) (sc := defScope sRl) (by decide +kernel)) (fun _ _ _ _ _ => (pg_name (i := 3) scRl.nd rfl (Or.inl rfl))) (fun _ _ _ _ _ => pts_nil) (fun _ _ _ _ _ => (C8.pe_c cRp hr (by decide) rfl (pa_cons (pe_dget hu (pv 0) (pv 3) (fun _ _ => rfl)) pa_nil))))
      (pss_cons (ps_set (i := 2) scRl.nd rfl (Or.inl rfl) (pe_lst (pa_cons (pe_dget hu (pv 0) pe_str (fun _ _ => rfl)) (pa_cons (pe_dget hu (pv 0) pe_str (fun _ _ => rfl)) (pa_cons (pe_dget hu (pv 0) pe_str (fun _ _ => rfl)) pa_nil)))))
      (pss_one (ps_ret (pe_makeK (E := C8.E0) (ks := ["given", "again", "results"]) M.mak M.fn (hr.mono (by decide)) rfl M.g (kb6 M.fd_) pass0 (pa_cons (pe_ix ix_list (pv 1) pe_int (fun _ _ => rfl)) (pa_cons (pe_ix ix_list (pv 1) pe_int (fun _ _ => rfl)) (pa_cons (pe_ix ix_list (pv 1) pe_int (fun _ _ => rfl)) (pa_cons (pe_ix ix_list (pv 1) pe_int (fun _ _ => rfl)) (pa_cons (pe_ix ix_list (pv 1) pe_int (fun _ _ => rfl)) pa_nil))))) (pk_cons (pe_ix ix_list (pv 2) pe_int (fun _ _ => rfl)) (pk_cons (pe_ix ix_list (pv 2) pe_int (fun _ _ => rfl)) (pk_cons (pe_ix ix_list (pv 2) pe_int (fun _ _ => rfl)) pk_nil)))))))), ?_⟩
    refine ⟨rfl, fun o H1 s1 ho go => ?_⟩
    refine ⟨o, rfl, ⟨_, SqL.of go⟩, fun D hD => ?_⟩
    have hS1 := hS.same s1
    have n1 : o ≠ D := ne_of_none go hD
    refine lc_list (xs := partN.map V.str) (fun j H' => Same H1 H' ∧ ∃ vs : List V, H' D = some (.lst vs) ∧ vs.length = j ∧ ∀ i v, vs[i]? = some v → PL d H' D v (t.g.at i)) ⟨Same.new hD, [], upd_same, rfl, nofun⟩ (fun j H' _ z => SqL.of (z.1 _ _ go)) ?_ ?_
    · rintro j y H2 hy ⟨s2, vs, gD, lv, hv⟩
      rw [List.getElem?_map] at hy
      obtain ⟨z, hz, rfl⟩ := Option.map_eq_some_iff.mp hy
      have j5 := (partF hz).1
      obtain ⟨v, dg, pi⟩ := (hS1.same s2).part ok hz
      refine ⟨rfl, ?_⟩
      unfold tYes
      dsimp only
      rw [if_pos rfl]
      refine ⟨_, rfl, _, rfl, S, v, rfl, dg, v, _, rfl, pi, fun v' H3 s3 pr => ?_⟩
      have gD3 := s3 _ _ gD
      have B : But D H3 (upd H3 D (.lst (vs ++ [v']))) := fun b u e n => (upd_ne n).trans e
      refine ⟨_, gD3, by rw [lv]; exact Nat.lt_trans j5 (by decide), sameUpd (s2.trans s3) hD, vs ++ [v'], upd_same, by rw [List.length_append, lv]; rfl, fun i x e => ?_⟩
      by_cases hi : i < vs.length
      · rw [List.getElem?_append_left hi] at e
        exact ((hv i x e).but gD (But.same s3)).but gD3 B
      · obtain ⟨q, rfl⟩ : ∃ q, i = vs.length + q := ⟨i - vs.length, by omega⟩
        rw [List.getElem?_append_right (by omega), Nat.add_sub_cancel_left] at e
        cases q with
        | zero =>
          cases e
          rw [Nat.add_zero, lv]
          exact (pr.pl gD).but gD3 B
        | succ q => cases e
    · rintro H2 ⟨s2, vs, gD, lv, hv⟩
      have lv : vs.length = 5 := lv
      obtain ⟨v0, v1, v2, v3, v4, rfl⟩ : ∃ v0 v1 v2 v3 v4, vs = [v0, v1, v2, v3, v4] := by
        match vs, lv with
        | [v0, v1, v2, v3, v4], _ => exact ⟨v0, v1, v2, v3, v4, rfl⟩
      have hS2 := hS1.same s2
      have s2 := s1.trans s2
      obtain ⟨gv, ag, b, hh, L, r, e, e1, e2, e3, e4, e5, e6⟩ := hS2.ex
      refine ⟨_, rfl, S, _, rfl, DGet.k (k := .inr "given") e, _, rfl, S, _, rfl, DGet.k (k := .inr "again") e, _, rfl, S, _, rfl, DGet.k (k := .inr "results") e, by show 3 ≤ sizeLine; decide, fun w hw => ?_⟩
      have s3 := Same.new (o := .lst [.ref gv, .ref ag, .ref r]) hw
      have gw : (upd H2 w (.lst [.ref gv, .ref ag, .ref r])) w = some (.lst [.ref gv, .ref ag, .ref r]) := upd_same
      have hv : ∀ i v, ([v0, v1, v2, v3, v4] : List V)[i]? = some v → InO K d _ v (t.g.at i) := fun i v e => ((hv i v e).but gD (But.same s3)).inO (K := K)
      have gD := s3 _ _ gD
      have e1 := s3 _ _ e1
      have e2 : AgD _ ag t.ag := s3 _ _ e2
      have e6 := s3 _ _ e6
      have s2 := s2.trans s3
      have P0 : InA K d _ v0 t.g.a := hv 0 v0 rfl
      have P1 : InO K d _ v1 t.g.l := hv 1 v1 rfl
      have P2 : InA K d _ v2 t.g.b := hv 2 v2 rfl
      have P3 : InO K d _ v3 t.g.s := hv 3 v3 rfl
      have P4 : InA K d _ v4 t.g.h := hv 4 v4 rfl
      clear hv
      generalize (upd H2 w (.lst [.ref gv, .ref ag, .ref r])) = H3 at *
      refine ⟨_, rfl, D, _, ((0 : Nat) : Int), _, rfl, rfl, SqL.of gD, atI_nat rfl, _, rfl, D, _, ((1 : Nat) : Int), _, rfl, rfl, SqL.of gD, atI_nat rfl, _, rfl, D, _, ((2 : Nat) : Int), _, rfl, rfl, SqL.of gD, atI_nat rfl, _, rfl, D, _, ((3 : Nat) : Int), _, rfl, rfl, SqL.of gD, atI_nat rfl, _, rfl, D, _, ((4 : Nat) : Int), _, rfl, rfl, SqL.of gD, atI_nat rfl, ?_⟩
      refine ⟨_, rfl, w, _, ((0 : Nat) : Int), _, rfl, rfl, SqL.of gw, atI_nat rfl, _, rfl, w, _, ((1 : Nat) : Int), _, rfl, rfl, SqL.of gw, atI_nat rfl, _, rfl, w, _, ((2 : Nat) : Int), _, rfl, rfl, SqL.of gw, atI_nat rfl, ?_⟩
      refine ⟨rfl, rfl, fun x dx h1 h2 h3 => ?_⟩
      have sm := made2 (C := C) h1 h2 h3
      exact ⟨x, C, dx, v0, v1, v2, v3, v4, .ref gv, .ref ag, .ref r, t, rfl, upd_same, M.cls, ⟨P0.same sm, P1.same sm, P2.same sm, P3.same sm, P4.same sm, ⟨gv, rfl, .inl (SqL.of (sm _ _ e1))⟩, .inr ⟨ag, rfl, sm _ _ e2⟩, ⟨r, rfl, .inl (SqL.of (sm _ _ e6))⟩⟩, ok, fun H' bt ip => ⟨rfl, k x H' (s2.trans fun b o e => bt b o (fun z => by rw [z, h1] at e; cases e) (sm _ _ e)) ip⟩⟩
end
end K33

set_option Elab.async false
set_option linter.all false
set_option maxRecDepth 100000
set_option maxHeartbeats 4000000
/-! The law's programs, with loops. -/
namespace K33
open PySem L2 NX NU
open PyProof.Rows (sortedS)
def sk7 (gv ag vl vb vx vh vL : V) : List (Key × V) := [(.inr "given", gv), (.inr "again", ag), (.inr "loop", vl), (.inr "between", vb), (.inr "second", vx), (.inr "behind", vh), (.inr "ahead", vL)]
def sk8 (gv ag vl vb vx vh vL r : V) : List (Key × V) := [(.inr "given", gv), (.inr "again", ag), (.inr "loop", vl), (.inr "between", vb), (.inr "second", vx), (.inr "behind", vh), (.inr "ahead", vL), (.inr "results", r)]
/-- a drawn program at S -/
structure SiteG (H : Hp) (S : Addr) (t : Tol) : Prop where
  ex : ∃ (gv ag r : Addr) (vl vb vx vh vL : V), H S = some (.dK (sk8 (.ref gv) (.ref ag) vl vb vx vh vL (.ref r))) ∧ H gv = some (.lst (t.us.map V.str)) ∧ AgD H ag t.ag ∧ H r = some (.lst (t.rs.map V.str)) ∧
    PtI H vL (some t.g.a) ∧ PtI H vl t.g.l ∧ PtI H vb (some t.g.b) ∧ PtI H vx t.g.s ∧ PtI H vh (some t.g.h)
/-- what is there of a program with so many loops -/
def Loops (nl : Nat) (g : Prg) : Prop := (g.l.isSome = decide (0 < nl)) ∧ (g.s.isSome = decide (1 < nl)) ∧ (nl ≤ 1 → g.b = []) ∧ (nl = 0 → g.h = [])
theorem PtI.but {H H' : Hp} {p c : Addr} {ns : List Int} {x y : Int} {v : V} (P : Pen H p c ns x y) (B : But p H H') : ∀ {o : Option (List Act)}, PtI H v o → PtI H' v o
  | none, h => h
  | some _, ⟨L, e, l, a, b⟩ => ⟨L, e, l.but P B, a, b⟩
theorem PtI.putD {H : Hp} {S : Addr} {kvs : List (Key × V)} {o' : HO} {v : V} (g : H S = some (.dK kvs)) : ∀ {o : Option (List Act)}, PtI H v o → PtI (upd H S o') v o
  | none, h => h
  | some _, ⟨L, e, l, a, b⟩ => ⟨L, e, l.putD g, a, b⟩
/-- what stands while the parts are drawn -/
structure SiS (H0 H : Hp) (p c : Addr) (ns : List Int) (m : Int) (most : Nat) (gv ag : Addr) (vl vb vx vh vL : V) (S kn fr : Addr) (us : List Str) (l : List (Str × Int)) (ws fs hs : List Str) (g : Prg) : Prop where
  pen : ∃ a r, Pen H p c ns a r ∧ a ≤ m
  but : But p H0 H
  s0 : H0 S = none
  site : H S = some (.dK (sk7 (.ref gv) (.ref ag) vl vb vx vh vL))
  gv_ : H gv = some (.lst (us.map V.str))
  ag_ : AgD H ag l
  kn_ : H kn = some (.lst (hs.map V.str))
  fr_ : H fr = some (.lst (fs.map V.str))
  pa : PtI H vL (some g.a)
  pl : PtI H vl g.l
  pb : PtI H vb (some g.b)
  px : PtI H vx g.s
  ph : PtI H vh (some g.h)
  uses : ∀ i, i < 5 → UsesOk (l.map (·.1)) (g.lastAt (us ++ l.map (·.1)) i) ((g.at i).getD [])
  eq : ∀ z, z ∈ hs ↔ z ∈ g.lastAt (us ++ l.map (·.1)) 5
  uni : Uni hs
  pos : 0 < hs.length
  hin : ∀ z ∈ hs, z ∈ ws
  inn : ∀ z ∈ actsN g.acts, z ∈ ws
  len : ∀ i, i < 5 → ((g.at i).getD []).length ≤ most
theorem agD_ne {H : Hp} {p c ag : Addr} {ns : List Int} {x y : Int} {l : List (Str × Int)} (P : Pen H p c ns x y) (h : AgD H ag l) : ag ≠ p := fun e => by unfold AgD at h; rw [e, P.hp] at h; cases h
section
variable {H0 H H' : Hp} {p c : Addr} {ns : List Int} {m m' : Int} {most : Nat} {gv ag : Addr} {vl vb vx vh vL : V} {S kn fr : Addr} {us : List Str} {l : List (Str × Int)} {ws fs hs : List Str} {g : Prg}
theorem SiS.sp (h : SiS H0 H p c ns m most gv ag vl vb vx vh vL S kn fr us l ws fs hs g) : S ≠ p := fun e => by
  obtain ⟨a, r, P, _⟩ := h.pen
  have z := h.site
  rw [e, P.hp] at z
  cases z
/-- behind some draws, and new things -/
theorem SiS.step (h : SiS H0 H p c ns m most gv ag vl vb vx vh vL S kn fr us l ws fs hs g) (hd : ∃ a r, Pen H' p c ns a r ∧ a ≤ m') (B : But p H H') : SiS H0 H' p c ns m' most gv ag vl vb vx vh vL S kn fr us l ws fs hs g := by
  obtain ⟨a, r, P, _⟩ := h.pen
  exact { h with pen := hd, but := h.but.trans B, site := B _ _ h.site h.sp, gv_ := B _ _ h.gv_ (pen_ne P h.gv_), ag_ := B _ _ h.ag_ (agD_ne P h.ag_), kn_ := B _ _ h.kn_ (pen_ne P h.kn_), fr_ := B _ _ h.fr_ (pen_ne P h.fr_), pa := h.pa.but P B, pl := h.pl.but P B, pb := h.pb.but P B, px := h.px.but P B, ph := h.ph.but P B }
theorem lst_ne {a : Addr} {xs : List V} {kvs : List (Key × V)} (e : H a = some (.lst xs)) (g : H S = some (.dK kvs)) : a ≠ S := fun z => by rw [z, g] at e; cases e
/-- a part is put to the dict -/
theorem SiS.put {vl' vb' vx' vh' : V} {kn' : Addr} {hs' : List Str} {g' : Prg} (h : SiS H0 H p c ns m most gv ag vl vb vx vh vL S kn fr us l ws fs hs g) (hag : ag ≠ S) (gk : H kn' = some (.lst (hs'.map V.str))) (pa : PtI H vL (some g'.a)) (pl : PtI H vl' g'.l) (pb : PtI H vb' (some g'.b)) (px : PtI H vx' g'.s) (ph : PtI H vh' (some g'.h))
    (uses : ∀ i, i < 5 → UsesOk (l.map (·.1)) (g'.lastAt (us ++ l.map (·.1)) i) ((g'.at i).getD [])) (eq : ∀ z, z ∈ hs' ↔ z ∈ g'.lastAt (us ++ l.map (·.1)) 5) (uni : Uni hs') (pos : 0 < hs'.length) (hin : ∀ z ∈ hs', z ∈ ws) (inn : ∀ z ∈ actsN g'.acts, z ∈ ws) (len : ∀ i, i < 5 → ((g'.at i).getD []).length ≤ most) :
    SiS H0 (upd H S (.dK (sk7 (.ref gv) (.ref ag) vl' vb' vx' vh' vL))) p c ns m most gv ag vl' vb' vx' vh' vL S kn' fr us l ws fs hs' g' := by
  obtain ⟨a, r, P, e⟩ := h.pen
  have Sp := h.sp
  have Sc : S ≠ c := fun z => by have q := h.site; rw [z, P.hc] at q; cases q
  exact ⟨⟨a, r, P.put Sp Sc, e⟩, butPut h.but h.s0, h.s0, upd_same, (upd_ne (lst_ne h.gv_ h.site)).trans h.gv_, (upd_ne hag).trans h.ag_, (upd_ne (lst_ne gk h.site)).trans gk, (upd_ne (lst_ne h.fr_ h.site)).trans h.fr_,
    pa.putD h.site, pl.putD h.site, pb.putD h.site, px.putD h.site, ph.putD h.site, uses, eq, uni, pos, hin, inn, len⟩
theorem aft_congr {A B : List Str} {as : List Act} (h : ∀ z, z ∈ A ↔ z ∈ B) : ∀ z, z ∈ aft A as ↔ z ∈ aft B as := fun z => by
  unfold aft
  rw [List.mem_append, List.mem_append, h z]
theorem last5 (g : Prg) (bs : List Str) : g.lastAt bs 5 = aft (aft (aft bs g.a) g.b) g.h := rfl
theorem acts5 (g : Prg) (z : Str) : z ∈ actsN g.acts ↔ z ∈ actsN g.a ∨ z ∈ actsN (g.l.getD []) ∨ z ∈ actsN g.b ∨ z ∈ actsN (g.s.getD []) ∨ z ∈ actsN g.h := by
  have e : actsN g.acts = actsN g.a ++ actsN (g.l.getD []) ++ actsN g.b ++ actsN (g.s.getD []) ++ actsN g.h := by
    show actsN (((((([] ++ g.a) ++ g.l.getD []) ++ g.b) ++ g.s.getD []) ++ g.h)) = _
    rw [List.nil_append, actsN_app, actsN_app, actsN_app, actsN_app]
  rw [e]
  simp only [List.mem_append, or_assoc]
/-- what a further lot of deeds keeps -/
theorem drw_in {as : List Act} {hs hs2 : List Str} (dr : Drw hs fs as hs2) (hin : ∀ z ∈ hs, z ∈ ws) (hf : ∀ z ∈ fs, z ∈ ws) : (∀ z ∈ hs2, z ∈ ws) ∧ ∀ z ∈ actsN as, z ∈ ws := ⟨fun z hz => (dr.hin z hz).elim (hin z) (hf z), fun z hz => (dr.inn z hz).elim (hin z) (hf z)⟩
theorem pos_of {A B : List Str} (h : 0 < A.length) (k : ∀ z ∈ A, z ∈ B) : 0 < B.length := by
  cases A with
  | nil => cases h
  | cons z r => exact List.length_pos_of_mem (k z List.mem_cons_self)
theorem five {i : Nat} (h : i < 5) : i = 0 ∨ i = 1 ∨ i = 2 ∨ i = 3 ∨ i = 4 := by omega
/-- the first loop -/
theorem SiS.loop {as : List Act} {hs2 : List Str} {L : Addr} (h : SiS H0 H p c ns m most gv ag vl vb vx vh vL S kn fr us l ws fs hs g) (hag : ag ≠ S) (gb : g.b = []) (gh : g.h = []) (lots : LotsAt H L as) (dr : Drw hs fs as hs2) (hf : ∀ z ∈ fs, z ∈ ws ∧ z ∉ l.map (·.1)) (la : as.length ≤ most) (m8 : most ≤ 8) :
    SiS H0 (upd H S (.dK (sk7 (.ref gv) (.ref ag) (.ref L) vb vx vh vL))) p c ns m most gv ag (.ref L) vb vx vh vL S kn fr us l ws fs hs { g with l := some as } := by
  have di := drw_in dr h.hin (fun z hz => (hf z hz).1)
  refine h.put hag h.kn_ h.pa ⟨L, rfl, lots, (show as.length ≤ 200 by omega), dr.lot⟩ h.pb h.px h.ph (fun i i5 => ?_) h.eq h.uni h.pos h.hin (fun z hz => ?_) (fun i i5 => ?_)
  · rcases five i5 with rfl | rfl | rfl | rfl | rfl
    · exact h.uses 0 (by decide)
    · refine (dr.uses _ fun z hz => (hf z hz).2).congr fun z => ?_
      rw [h.eq z, last5, gb, gh, aft_nil, aft_nil]
      exact Iff.rfl
    · exact h.uses 2 (by decide)
    · exact h.uses 3 (by decide)
    · exact h.uses 4 (by decide)
  · rw [acts5] at hz
    have q := fun k => h.inn z ((acts5 g z).mpr k)
    rcases hz with k | k | k | k | k
    · exact q (.inl k)
    · exact di.2 z k
    · exact q (.inr (.inr (.inl k)))
    · exact q (.inr (.inr (.inr (.inl k))))
    · exact q (.inr (.inr (.inr (.inr k))))
  · rcases five i5 with rfl | rfl | rfl | rfl | rfl
    · exact h.len 0 (by decide)
    · exact la
    · exact h.len 2 (by decide)
    · exact h.len 3 (by decide)
    · exact h.len 4 (by decide)
/-- the deeds between -/
theorem SiS.between {as : List Act} {hs2 : List Str} {L N : Addr} (h : SiS H0 H p c ns m most gv ag vl vb vx vh vL S kn fr us l ws fs hs g) (hag : ag ≠ S) (gb : g.b = []) (gs : g.s = none) (gh : g.h = []) (lots : LotsAt H L as) (gN : H N = some (.lst (hs2.map V.str))) (dr : Drw hs fs as hs2) (hf : ∀ z ∈ fs, z ∈ ws ∧ z ∉ l.map (·.1)) (la : as.length ≤ most) (m8 : most ≤ 8) :
    SiS H0 (upd H S (.dK (sk7 (.ref gv) (.ref ag) vl (.ref L) vx vh vL))) p c ns m most gv ag vl (.ref L) vx vh vL S N fr us l ws fs hs2 { g with b := as } := by
  have di := drw_in dr h.hin (fun z hz => (hf z hz).1)
  have e1 : ∀ z, z ∈ hs ↔ z ∈ aft (us ++ l.map (·.1)) g.a := fun z => by
    rw [h.eq z, last5, gb, gh, aft_nil, aft_nil]
  refine h.put hag gN h.pa h.pl ⟨L, rfl, lots, (show as.length ≤ 200 by omega), dr.lot⟩ h.px h.ph (fun i i5 => ?_) (fun z => ?_) dr.here (pos_of h.pos fun z hz => (dr.eq z).mpr (by unfold aft; exact List.mem_append_left _ hz)) di.1 (fun z hz => ?_) (fun i i5 => ?_)
  · rcases five i5 with rfl | rfl | rfl | rfl | rfl
    · exact h.uses 0 (by decide)
    · exact h.uses 1 (by decide)
    · exact (dr.uses _ fun z hz => (hf z hz).2).congr e1
    · show UsesOk _ _ (g.s.getD [])
      rw [gs]
      exact trivial
    · show UsesOk _ _ g.h
      rw [gh]
      exact trivial
  · rw [dr.eq z, last5]
    show _ ↔ z ∈ aft (aft (aft _ g.a) as) g.h
    rw [gh, aft_nil]
    exact aft_congr e1 z
  · rw [acts5] at hz
    have q := fun k => h.inn z ((acts5 g z).mpr k)
    rcases hz with k | k | k | k | k
    · exact q (.inl k)
    · exact q (.inr (.inl k))
    · exact di.2 z k
    · exact q (.inr (.inr (.inr (.inl k))))
    · exact q (.inr (.inr (.inr (.inr k))))
  · rcases five i5 with rfl | rfl | rfl | rfl | rfl
    · exact h.len 0 (by decide)
    · exact h.len 1 (by decide)
    · exact la
    · exact h.len 3 (by decide)
    · exact h.len 4 (by decide)
/-- the second loop -/
theorem SiS.second {as : List Act} {hs2 : List Str} {L : Addr} (h : SiS H0 H p c ns m most gv ag vl vb vx vh vL S kn fr us l ws fs hs g) (hag : ag ≠ S) (gh : g.h = []) (lots : LotsAt H L as) (dr : Drw hs fs as hs2) (hf : ∀ z ∈ fs, z ∈ ws ∧ z ∉ l.map (·.1)) (la : as.length ≤ most) (m8 : most ≤ 8) :
    SiS H0 (upd H S (.dK (sk7 (.ref gv) (.ref ag) vl vb (.ref L) vh vL))) p c ns m most gv ag vl vb (.ref L) vh vL S kn fr us l ws fs hs { g with s := some as } := by
  have di := drw_in dr h.hin (fun z hz => (hf z hz).1)
  refine h.put hag h.kn_ h.pa h.pl h.pb ⟨L, rfl, lots, (show as.length ≤ 200 by omega), dr.lot⟩ h.ph (fun i i5 => ?_) h.eq h.uni h.pos h.hin (fun z hz => ?_) (fun i i5 => ?_)
  · rcases five i5 with rfl | rfl | rfl | rfl | rfl
    · exact h.uses 0 (by decide)
    · exact h.uses 1 (by decide)
    · exact h.uses 2 (by decide)
    · refine (dr.uses _ fun z hz => (hf z hz).2).congr fun z => ?_
      rw [h.eq z, last5, gh, aft_nil]
      exact Iff.rfl
    · exact h.uses 4 (by decide)
  · rw [acts5] at hz
    have q := fun k => h.inn z ((acts5 g z).mpr k)
    rcases hz with k | k | k | k | k
    · exact q (.inl k)
    · exact q (.inr (.inl k))
    · exact q (.inr (.inr (.inl k)))
    · exact di.2 z k
    · exact q (.inr (.inr (.inr (.inr k))))
  · rcases five i5 with rfl | rfl | rfl | rfl | rfl
    · exact h.len 0 (by decide)
    · exact h.len 1 (by decide)
    · exact h.len 2 (by decide)
    · exact la
    · exact h.len 4 (by decide)
/-- the deeds behind -/
theorem SiS.behind {as : List Act} {hs2 : List Str} {L N : Addr} (h : SiS H0 H p c ns m most gv ag vl vb vx vh vL S kn fr us l ws fs hs g) (hag : ag ≠ S) (gh : g.h = []) (lots : LotsAt H L as) (gN : H N = some (.lst (hs2.map V.str))) (dr : Drw hs fs as hs2) (hf : ∀ z ∈ fs, z ∈ ws ∧ z ∉ l.map (·.1)) (la : as.length ≤ most) (m8 : most ≤ 8) :
    SiS H0 (upd H S (.dK (sk7 (.ref gv) (.ref ag) vl vb vx (.ref L) vL))) p c ns m most gv ag vl vb vx (.ref L) vL S N fr us l ws fs hs2 { g with h := as } := by
  have di := drw_in dr h.hin (fun z hz => (hf z hz).1)
  have e1 : ∀ z, z ∈ hs ↔ z ∈ aft (aft (us ++ l.map (·.1)) g.a) g.b := fun z => by
    rw [h.eq z, last5, gh, aft_nil]
  refine h.put hag gN h.pa h.pl h.pb h.px ⟨L, rfl, lots, (show as.length ≤ 200 by omega), dr.lot⟩ (fun i i5 => ?_) (fun z => ?_) dr.here (pos_of h.pos fun z hz => (dr.eq z).mpr (by unfold aft; exact List.mem_append_left _ hz)) di.1 (fun z hz => ?_) (fun i i5 => ?_)
  · rcases five i5 with rfl | rfl | rfl | rfl | rfl
    · exact h.uses 0 (by decide)
    · exact h.uses 1 (by decide)
    · exact h.uses 2 (by decide)
    · exact h.uses 3 (by decide)
    · exact (dr.uses _ fun z hz => (hf z hz).2).congr e1
  · rw [dr.eq z, last5]
    exact aft_congr e1 z
  · rw [acts5] at hz
    have q := fun k => h.inn z ((acts5 g z).mpr k)
    rcases hz with k | k | k | k | k
    · exact q (.inl k)
    · exact q (.inr (.inl k))
    · exact q (.inr (.inr (.inl k)))
    · exact q (.inr (.inr (.inr (.inl k))))
    · exact di.2 z k
  · rcases five i5 with rfl | rfl | rfl | rfl | rfl
    · exact h.len 0 (by decide)
    · exact h.len 1 (by decide)
    · exact h.len 2 (by decide)
    · exact h.len 3 (by decide)
    · exact la
end
end K33

set_option Elab.async false
set_option linter.all false
set_option maxRecDepth 100000
set_option maxHeartbeats 4000000
/-! The law's programs, with loops, 2. -/
namespace K33
open PySem L2 NX NU
open PyProof.Rows (sortedS)
def spSg : Sp := fun vs H Q _ => ∃ (p c : Addr) (ns : List Int) (at_ rest : Int) (nl most : Nat), vs = [.ref p, .int (nl : Int), .int (most : Int)] ∧ Pen H p c ns at_ rest ∧ at_ ≤ 600000 ∧ nl ≤ 2 ∧ most ≤ 8 ∧
  ∀ S t H', SiteG H' S t → t.Ok → Loops nl t.g → (∀ i, i < 5 → ((t.g.at i).getD []).length ≤ most) → Drawn H p c ns (at_ + 1000) H' → Q (.ref S) H'
theorem tolOkG {H0 H : Hp} {p c : Addr} {ns : List Int} {m : Int} {most : Nat} {gv ag : Addr} {vl vb vx vh vL : V} {S kn fr : Addr} {us : List Str} {l : List (Str × Int)} {ws fs hs rs : List Str} {g : Prg} {nl : Nat} (h : SiS H0 H p c ns m most gv ag vl vb vx vh vL S kn fr us l ws fs hs g) (lp : Loops nl g) (uw : Uni ws) (w6 : ws.length ≤ 6) (sbu : us.Sublist ws) (sbl : (l.map (·.1)).Sublist ws) (hq : ∀ q ∈ l, 0 ≤ q.2 ∧ q.2 ≤ 9) (m8 : most ≤ 8) (sbr : rs.Sublist hs) : Tol.Ok ⟨g, us, l, rs⟩ := by
  have lu := sbu.length_le
  have ll := sbl.length_le
  rw [List.length_map] at ll
  have lr := sbr.length_le
  have lh : hs.length ≤ 6 := Nat.le_trans (uniLen h.uni h.hin) w6
  obtain ⟨l1, l2, l3, l4⟩ := lp
  have n0 := h.len 0 (by decide)
  have n1 := h.len 1 (by decide)
  have n2 := h.len 2 (by decide)
  have n3 := h.len 3 (by decide)
  have n4 := h.len 4 (by decide)
  have n0 : g.a.length ≤ most := n0
  have n1 : (g.l.getD []).length ≤ most := n1
  have n2 : g.b.length ≤ most := n2
  have n3 : (g.s.getD []).length ≤ most := n3
  have n4 : g.h.length ≤ most := n4
  have al : g.acts.length = g.a.length + (g.l.getD []).length + g.b.length + (g.s.getD []).length + g.h.length := by
    show (((((([] ++ g.a) ++ g.l.getD []) ++ g.b) ++ g.s.getD []) ++ g.h)).length = _
    simp only [List.nil_append, List.length_append]
  refine ⟨⟨fun e => ?_, fun e => ?_⟩, ⟨(show g.a.length ≤ 200 by omega), (show (g.l.getD []).length ≤ 24 by omega), (show g.b.length ≤ 24 by omega), (show (g.s.getD []).length ≤ 24 by omega), (show g.h.length ≤ 24 by omega), (show g.a.length + g.b.length + g.h.length ≤ 200 by omega)⟩, ⟨fun z h => uw.2 z (sbu.subset h), uw.1.sublist sbu, (show us.length < 60 by omega)⟩, ⟨fun q h => uw.2 q.1 (sbl.subset (List.mem_map_of_mem h)), fun q h => (hq q h).1, fun q h => (hq q h).2, (show l.length < 60 by omega)⟩, ⟨fun z hz => h.uni.2 z (sbr.subset hz), h.uni.1.sublist sbr, (show rs.length < 60 by omega)⟩, ⟨ws, fun z hz => ?_, w6⟩, ?_, ⟨h.uses, fun z hz => (h.eq z).mp (sbr.subset hz)⟩⟩
  · rw [show g.l = none from e] at l1
    have n : ¬ 0 < nl := of_decide_eq_false l1.symm
    have z : nl = 0 := by omega
    refine ⟨l3 (by omega), ?_, l4 z⟩
    rw [decide_eq_false (by omega)] at l2
    cases hs : g.s with
    | none => rfl
    | some q => rw [hs] at l2; cases l2
  · rw [show g.s = none from e] at l2
    have n : ¬ 1 < nl := of_decide_eq_false l2.symm
    exact l3 (by omega)
  · unfold Tol.words at hz
    dsimp only at hz
    rw [List.mem_append, List.mem_append, List.mem_append] at hz
    rcases hz with ((k | k) | k) | k
    · exact sbu.subset k
    · exact sbl.subset k
    · exact h.hin z (sbr.subset k)
    · exact h.inn z k
  · show us.length + l.length + rs.length + 4 * g.acts.length ≤ 1000
    omega
section
variable {P : Program} {w : World} {K : PySem.W.Frag} {mg : Str → Option Value} {base : Heap}
theorem ok_sg {f : Addr} {fd : FuncData} (F : Fun K "_law_site" "_law_site" sSi f fd) (T : TxtB mg) (N : TxtP mg) (cDraw : C8.Cal P w K mg base 1 "_law_draw" spDraw []) (cNames : C8.Cal P w K mg base 3 "_law_names" spLNames []) (cDs : C8.Cal P w K mg base 3 "_law_deeds" (spDs K) []) :
    FnOk P w K mg base CX0 4 f fd ["_law_pen_here", "_law_loops", "_law_most"] spSg := by
  refine F.ok scSi (fun vs H Q E h => ?_) (fun cdv A outer s H vs Q E hr h => ?_)
  · obtain ⟨p, c, ns, a, r, nl, most, rfl, _⟩ := h
    rfl
  · obtain ⟨p, c, ns, at_, rest, nl, most, rfl, Pn, hat, n2, m8, k⟩ := h
    have hu := hu_of hr
    refine ⟨_, (pss_cons (ps_set (i := 3) scSi.nd rfl (Or.inl rfl) (C8.pe_c cNames hr (by decide) rfl (pa_cons (pv 0) (pa_cons (pe_op op_add pe_int (C8.pe_c cDraw hr (by decide) rfl (pa_cons (pv 0) (pa_cons pe_int pa_nil)))) pa_nil))))
      (pss_cons (ps_set (i := 4) scSi.nd rfl (Or.inr rfl) (pe_callTy (call_dictP rfl) (by rfl) N.bdict (by decide +kernel) (pa_cons
          (pe_lc (own := [("_law_word", 8)]) (g := gName 8) rfl scSi.nd (pi_list (pe_slice sl_list (pv 3) (po_some pe_int) po_none)) (blkOk_by (own := [("_law_word", 8)]) (N := NSi) (sc := defScope sSi) (by decide +kernel)) (fun _ _ _ _ _ => (pg_name (i := 8) scSi.nd rfl (Or.inl rfl))) (fun _ _ _ _ _ => (pts_one (pt_cmpR op_eq (C8.pe_c cDraw hr (by decide) rfl (pa_cons (pv 0) (pa_cons pe_int pa_nil))) pe_int (nomark _)))) (fun _ _ _ _ _ => (pe_tup (pa_cons (pv 8) (pa_cons (C8.pe_c cDraw hr (by decide) rfl (pa_cons (pv 0) (pa_cons pe_int pa_nil))) pa_nil))))) pa_nil)))
      (pss_cons (ps_set (i := 5) scSi.nd rfl (Or.inr rfl) (pe_lc (own := [("_law_word", 8)]) (g := gName 8) rfl scSi.nd (pi_list (pv 3)) (blkOk_by (own := [("_law_word", 8)]) (N := NSi) (sc := defScope sSi) (by decide +kernel)) (fun _ _ _ _ _ => (pg_name (i := 8) scSi.nd rfl (Or.inl rfl))) (fun _ _ _ _ _ => (pts_one (pt_cmpR op_gt (C8.pe_c cDraw hr (by decide) rfl (pa_cons (pv 0) (pa_cons pe_int pa_nil))) pe_int (nomark _)))) (fun _ _ _ _ _ => (pv 8))))
      (C8.pss_cut (ps_if (PW.pt (pw_and (pt_cmpR (op_eqD hr.units) (pv 5) (pe_lst pa_nil) (nomark _)) (pw_and1 (pt_cmpR op_eq (pe_callB call_lenD (by rfl) T.blen (by decide +kernel) (pa_cons (pv 4) pa_nil)) pe_int (nomark _))))) (pss_one (ps_set (i := 5) scSi.nd rfl (Or.inr rfl) (pe_slice sl_list (pv 3) po_none (po_some pe_int)))) pss_nil)
      (pss_cons (ps_setLc (i := 6) (own := [("_law_word", 8)]) (g := gName 8) rfl scSi.nd rfl rfl (sw_true rfl rfl rfl (by decide +kernel)) (pi_list (pv 3)) (blkOk_by (own := [("_law_word", 8)]) (N := NSi) (sc := defScope sSi) (by decide +kernel)) (fun _ _ _ _ _ => (pg_name (i := 8) scSi.nd rfl (Or.inl rfl))) (fun _ _ _ _ _ => (pts_one (pt_cmp (pc_dnotin hu (pv 8) (pv 4))))) (fun _ _ _ _ _ => (pv 8)))
      (pss_cons (ps_set (i := 7) scSi.nd rfl (Or.inl rfl) (pe_disp (pps_cons pe_str (pv 5) (pps_cons pe_str (pv 4) (pps_cons pe_str pe_non (pps_cons pe_str (pe_lst pa_nil) (pps_cons pe_str pe_non pps_nil))))) rfl rfl (by intro h; cases h) (by decide)))
      (pss_cons (ps_dput hu (pv 7) pe_str (pe_lst pa_nil) rfl)
      (pss_cons (ps_set (i := 5) scSi.nd rfl (Or.inr rfl) (pe_op op_cat (pv 5) (pe_lc (own := [("_law_word", 8)]) (g := gName 8) rfl scSi.nd (pi_list (pv 3)) (blkOk_by (own := [("_law_word", 8)]) (N := NSi) (sc := defScope sSi) (by decide +kernel)) (fun _ _ _ _ _ => (pg_name (i := 8) scSi.nd rfl (Or.inl rfl))) (fun _ _ _ _ _ => (pts_one (PW.pt (pw_and (pt_cmp (pc_din hu (pv 8) (pv 4))) (pw_and1 (show PT _ _ (tTest (tOp (rIn K true) (tVar 8) (tVar 5))) from pt_cmpR op_notIn_seq (pv 8) (pv 5) rfl)))))) (fun _ _ _ _ _ => (pv 8)))))
      (pss_cons (ps_asg (C8.pe_c cDs hr (by decide) rfl (pa_cons (pv 0) (pa_cons (pv 5) (pa_cons (pv 6) (pa_cons (pv 2) pa_nil))))) (pg_tup rfl (pgs_cons (pg_sub (pv 7) pe_str (set_dict hu)) (pgs_cons (pg_name (i := 5) scSi.nd rfl (Or.inr rfl)) pgs_nil))))
      (C8.pss_cut (ps_if (pt_cmpR op_gt (pv 1) pe_int (nomark _)) (pss_one (ps_dput hu (pv 7) pe_str (pe_ix ix_tup (C8.pe_c cDs hr (by decide) rfl (pa_cons (pv 0) (pa_cons (pv 5) (pa_cons (pv 6) (pa_cons (pv 2) pa_nil))))) pe_int (fun _ _ => rfl)) rfl)) pss_nil)
      (C8.pss_cut (ps_if (pt_cmpR op_gt (pv 1) pe_int (nomark _)) (pss_cons (ps_asg (C8.pe_c cDs hr (by decide) rfl (pa_cons (pv 0) (pa_cons (pv 5) (pa_cons (pv 6) (pa_cons (pv 2) pa_nil))))) (pg_tup rfl (pgs_cons (pg_sub (pv 7) pe_str (set_dict hu)) (pgs_cons (pg_name (i := 5) scSi.nd rfl (Or.inr rfl)) pgs_nil)))) (pss_one (ps_dput hu (pv 7) pe_str (pe_ix ix_tup (C8.pe_c cDs hr (by decide) rfl (pa_cons (pv 0) (pa_cons (pv 5) (pa_cons (pv 6) (pa_cons (pv 2) pa_nil))))) pe_int (fun _ _ => rfl)) rfl))) pss_nil)
      (C8.pss_cut (ps_if (pt_cmpR op_gt (pv 1) pe_int (nomark _)) (pss_one (ps_asg (C8.pe_c cDs hr (by decide) rfl (pa_cons (pv 0) (pa_cons (pv 5) (pa_cons (pv 6) (pa_cons (pv 2) pa_nil))))) (pg_tup rfl (pgs_cons (pg_sub (pv 7) pe_str (set_dict hu)) (pgs_cons (pg_name (i := 5) scSi.nd rfl (Or.inr rfl)) pgs_nil))))) pss_nil)
      (pss_cons (ps_dput hu (pv 7) pe_str (pe_lc (own := [("_law_word", 8)]) (g := gName 8) rfl scSi.nd (pi_list (pv 5)) (blkOk_by (own := [("_law_word", 8)]) (N := NSi) (sc := defScope sSi) (by decide +kernel)) (fun _ _ _ _ _ => (pg_name (i := 8) scSi.nd rfl (Or.inl rfl))) (fun _ _ _ _ _ => (pts_one (pt_cmpR op_eq (C8.pe_c cDraw hr (by decide) rfl (pa_cons (pv 0) (pa_cons pe_int pa_nil))) pe_int (nomark _)))) (fun _ _ _ _ _ => (pv 8))) rfl)
      (pss_one (ps_ret (pv 7)))))))))))))))), ?_⟩
    have z100 : (200 : Nat) ≤ sizeLine := by decide
    refine ⟨_, rfl, _, rfl, p, c, ns, at_, rest, 6, rfl, Pn, by omega, by decide, by decide, fun d H1 d0 d6 hd => ?_⟩
    obtain ⟨dn, rfl⟩ := Int.eq_ofNat_of_zero_le d0
    obtain ⟨a1, r1, P1, l1, B1⟩ := hd
    refine ⟨_, _, rfl, rfl, p, c, ns, a1, r1, 1 + dn, rfl, by omega, by omega, P1, by omega, fun lw ws H2 hlw gw uw lws hd => ?_⟩
    obtain ⟨a2, r2, P2, l2, B2⟩ := hd
    have B2 := B1.trans B2
    have w6 : ws.length ≤ 6 := by omega
    have w1 : 1 ≤ ws.length := by omega
    clear d0 d6 P1 B1 hlw
    refine gNm ?_
    dsimp only
    refine sqA (cb1 (lcOf ?_))
    refine ⟨_, rfl, 1, rfl, lw, _, rfl, SqL.of gw, fun q hq => ?_⟩
    rw [cut1 ws w1]
    have s3 := Same.new (o := .lst ((ws.drop 1).map V.str)) hq
    have gq : (upd H2 q (.lst ((ws.drop 1).map V.str))) q = some (.lst ((ws.drop 1).map V.str)) := upd_same
    have gw := s3 _ _ gw
    have P2 := P2.same s3
    have B2 := B2.trans (But.same s3)
    clear s3 hq
    generalize (upd H2 q (.lst ((ws.drop 1).map V.str))) = H2 at *
    refine ⟨q, rfl, ⟨_, SqL.of gq⟩, ?_⟩
    refine lcPr (xs := ws.drop 1) gq P2 (by rw [List.length_drop]; omega) (by rw [List.length_drop]; omega) fun D ps l H3 gD pr sb hq hd => ?_
    obtain ⟨a3, r3, P3, l3, B3⟩ := hd
    rw [List.length_drop] at l3
    have gw3 := B3 _ _ gw (pen_ne P2 gw)
    have B3 := B2.trans B3
    have sb : (l.map (·.1)).Sublist ws := sb.trans (List.drop_sublist 1 ws)
    have nk : (l.map (·.1)).Nodup := uw.1.sublist sb
    have ll : l.length ≤ 6 := by have := sb.length_le; rw [List.length_map] at this; omega
    refine ⟨D, ps, agK l, rfl, SqL.of gD, pr.paired, fun pd hpd => ?_⟩
    have em : mergeK [] (agK l) = agK l := merge_ag (l0 := []) nk
    rw [em]
    have s4 : Same H3 (upd H3 pd (.dK (agK l))) := Same.new hpd
    have gd4 : AgD (upd H3 pd (.dK (agK l))) pd l := upd_same
    have gw4 := s4 _ _ gw3
    have P4 := P3.same s4
    have B4 := B3.trans (But.same s4)
    clear s4 pr gD gw3 P3 B3 hpd P2 B2
    generalize (upd H3 pd (.dK (agK l))) = H4 at *
    refine gNm ?_
    refine sqA (lcOf ⟨_, rfl, lw, rfl, ⟨_, SqL.of gw4⟩, ?_⟩)
    refine lcD (xs := ws) gw4 P4 (by omega) (by omega) (fun z G a5 r5 R P5 l5 hR => ⟨_, rfl, p, c, ns, a5, r5, _, rfl, P5, by omega, by decide, by decide, fun e G2 _ _ hd => ⟨_, _, rfl, rfl, _, rfl, hR _ G2 hd⟩⟩) fun kn0 us0 H5 hk gk sbk hd => ?_
    obtain ⟨a5, r5, P5, l5, B5⟩ := hd
    have gw5 := B5 _ _ gw4 (pen_ne P4 gw4)
    have pdp : pd ≠ p := fun e => by unfold AgD at gd4; rw [e, P4.hp] at gd4; cases gd4
    have gd5 : AgD H5 pd l := B5 _ _ gd4 pdp
    have B5 := B4.trans B5
    refine ⟨fun σ H' => ∃ kn us, σ = [some (.ref p), some (.int (nl : Int)), some (.int (most : Int)), some (.ref lw), some (.ref pd), some (.ref kn), none, none, none] ∧ Pen H' p c ns a5 r5 ∧ But p H H' ∧ H' lw = some (.lst (ws.map V.str)) ∧ AgD H' pd l ∧ H' kn = some (.lst (us.map V.str)) ∧ us.Sublist ws ∧ (us = [] → l ≠ []), ?_, ?_⟩
    · refine ⟨_, rfl, by show 0 ≤ sizeLine; decide, fun e he => ?_⟩
      have s6 : Same H5 (upd H5 e (.lst [])) := Same.new he
      have ge : (upd H5 e (.lst [])) e = some (.lst []) := upd_same
      have gw6 := s6 _ _ gw5
      have gd6 : AgD (upd H5 e (.lst [])) pd l := s6 _ _ gd5
      have gk6 := s6 _ _ gk
      have P6 := P5.same s6
      have B6 := B5.trans (But.same s6)
      generalize (upd H5 e (.lst [])) = H6 at *
      refine ⟨_, _, .lst (SqL.of gk6) (dpTup us0), .lst (SqL.of ge) .nil, shapedTup (fun z hz => uw.2 z (sbk.subset hz)), by decide +kernel, _, rfl, ?_⟩
      cases us0 with
      | cons z zs => exact iteF (iteF ⟨kn0, z :: zs, rfl, P6, B6, gw6, gd6, gk6, sbk, nofun⟩)
      | nil =>
        refine iteT ⟨_, rfl, pd, _, rfl, gd6, rfl, _, rfl, ?_⟩
        cases l with
        | cons q r => exact iteF ⟨kn0, [], rfl, P6, B6, gw6, gd6, gk6, sbk, fun _ => nofun⟩
        | nil =>
          refine iteT ⟨_, rfl, 1, rfl, lw, _, rfl, SqL.of gw6, fun q hq => ?_⟩
          have s7 := Same.new (o := .lst (cutV (ws.map V.str) none (some 1))) hq
          refine ⟨q, ws.take 1, rfl, P6.same s7, B6.trans (But.same s7), s7 _ _ gw6, s7 _ _ gd6, by rw [upd_same, cutT ws w1], List.take_sublist 1 ws, fun e => ?_⟩
          have := congrArg List.length e
          rw [List.length_take] at this
          rw [List.length_nil] at this
          omega
    · clear gd5 gw5 gk B5 P5 sbk hk
      rintro σ H6 ⟨kn, us, rfl, P6, B6, gw6, gd6, gk6, sbu, hne⟩
      obtain ⟨ks, hks⟩ : ∃ ks, ks = l.map (·.1) := ⟨_, rfl⟩
      refine sqA (lcOf ⟨_, rfl, lw, rfl, ⟨_, SqL.of gw6⟩, ?_⟩)
      refine lcP (fun z => !decide (z ∈ ks)) gw6 (by omega) (fun z G R sG hR => ⟨_, rfl, _, rfl, pd, _, rfl, DGet.k (k := .inr z) (sG _ _ gd6), _, rfl, (by rw [agSome, ← hks]; exact hR)⟩) fun fr H7 hfr gfr s7 => ?_
      have P7 := P6.same s7
      have B7 := B6.trans (But.same s7)
      have gw7 := s7 _ _ gw6
      have gd7 : AgD H7 pd l := s7 _ _ gd6
      have gk7 := s7 _ _ gk6
      clear s7 P6 B6 gw6 gd6 gk6 hfr
      intro S hS
      have nk := ne_of_none gk7 hS
      have nd := ne_of_none gd7 hS
      have nw := ne_of_none gw7 hS
      have nf := ne_of_none gfr hS
      have np := ne_of_none P7.hp hS
      have nc := ne_of_none P7.hc hS
      have hS0 := fresh0 B7 hS (Ne.symm np)
      have s8 : Same H7 (upd H7 S (.dK [])) := Same.new hS
      have gS : (upd H7 S (.dK [])) S = some (.dK []) := upd_same
      dsimp only [tPairs, tC]
      refine ⟨_, rfl, _, rfl, by show 0 ≤ sizeLine; decide, fun b hb => ?_⟩
      have nb : b ≠ S := fun e => by rw [e, gS] at hb; cases hb
      have s9 := s8.trans (Same.new (o := .lst []) hb)
      have gS := (upd_ne (o := .lst []) (Ne.symm nb)).trans gS
      have gb : (upd (upd H7 S (.dK [])) b (.lst [])) b = some (.lst []) := upd_same
      have P9 := P7.same s9
      have B9 := B7.trans (But.same s9)
      have gw9 := s9 _ _ gw7
      have gd9 : AgD _ pd l := s9 _ _ gd7
      have gk9 := s9 _ _ gk7
      have gf9 := s9 _ _ gfr
      clear s9 s8 hb P7 B7 gw7 gd7 gk7 gfr hS
      generalize (upd (upd H7 S (.dK [])) b (.lst [])) = H9 at *
      refine ⟨gS, [(.inr "given", .ref kn), (.inr "again", .ref pd), (.inr "loop", .non), (.inr "between", .ref b), (.inr "second", .non)], rfl, by show 5 ≤ 15; decide, ?_⟩
      have e5 : mergeK [] [((.inr "given" : Key), V.ref kn), (.inr "again", .ref pd), (.inr "loop", .non), (.inr "between", .ref b), (.inr "second", .non)] = [((.inr "given" : Key), V.ref kn), (.inr "again", .ref pd), (.inr "loop", .non), (.inr "between", .ref b), (.inr "second", .non)] := rfl
      rw [e5]
      clear e5
      have gb := (upd_ne (o := .dK [((.inr "given" : Key), V.ref kn), (.inr "again", .ref pd), (.inr "loop", .non), (.inr "between", .ref b), (.inr "second", .non)]) nb).trans gb
      have gw10 := (upd_ne (o := .dK [((.inr "given" : Key), V.ref kn), (.inr "again", .ref pd), (.inr "loop", .non), (.inr "between", .ref b), (.inr "second", .non)]) nw).trans gw9
      have gd10 : AgD _ pd l := (upd_ne (o := .dK [((.inr "given" : Key), V.ref kn), (.inr "again", .ref pd), (.inr "loop", .non), (.inr "between", .ref b), (.inr "second", .non)]) nd).trans gd9
      have gk10 := (upd_ne (o := .dK [((.inr "given" : Key), V.ref kn), (.inr "again", .ref pd), (.inr "loop", .non), (.inr "between", .ref b), (.inr "second", .non)]) nk).trans gk9
      have gf10 := (upd_ne (o := .dK [((.inr "given" : Key), V.ref kn), (.inr "again", .ref pd), (.inr "loop", .non), (.inr "between", .ref b), (.inr "second", .non)]) nf).trans gf9
      have P10 := P9.put (o := .dK [((.inr "given" : Key), V.ref kn), (.inr "again", .ref pd), (.inr "loop", .non), (.inr "between", .ref b), (.inr "second", .non)]) (Ne.symm np) (Ne.symm nc)
      have B10 := butPut (o := .dK [((.inr "given" : Key), V.ref kn), (.inr "again", .ref pd), (.inr "loop", .non), (.inr "between", .ref b), (.inr "second", .non)]) B9 hS0
      have gS : (upd H9 S (.dK [((.inr "given" : Key), V.ref kn), (.inr "again", .ref pd), (.inr "loop", .non), (.inr "between", .ref b), (.inr "second", .non)])) S = _ := upd_same
      clear P9 B9 gw9 gd9 gk9 gf9
      generalize (upd H9 S (.dK [((.inr "given" : Key), V.ref kn), (.inr "again", .ref pd), (.inr "loop", .non), (.inr "between", .ref b), (.inr "second", .non)])) = H10 at *
      refine ⟨by show 0 ≤ sizeLine; decide, fun h hh => ?_⟩
      have nh : h ≠ S := fun e => by rw [e, gS] at hh; cases hh
      have s11 := Same.new (o := .lst []) hh
      have gh : (upd H10 h (.lst [])) h = some (.lst []) := upd_same
      refine ⟨_, rfl, S, _, rfl, DPut.k (k := .inr "behind") (s11 _ _ gS) (by show 5 < sizeLine; decide), ?_⟩
      have e6 : putK [((.inr "given" : Key), V.ref kn), (.inr "again", .ref pd), (.inr "loop", .non), (.inr "between", .ref b), (.inr "second", .non)] (.inr "behind") (.ref h) = [((.inr "given" : Key), V.ref kn), (.inr "again", .ref pd), (.inr "loop", .non), (.inr "between", .ref b), (.inr "second", .non), (.inr "behind", .ref h)] := rfl
      rw [e6]
      clear e6
      obtain ⟨k6, hk6⟩ : ∃ k6, k6 = [((.inr "given" : Key), V.ref kn), (.inr "again", .ref pd), (.inr "loop", .non), (.inr "between", .ref b), (.inr "second", .non), (.inr "behind", .ref h)] := ⟨_, rfl⟩
      rw [← hk6]
      have gb := (upd_ne (o := .dK k6) nb).trans (s11 _ _ gb)
      have gh := (upd_ne (o := .dK k6) nh).trans gh
      have gw12 := (upd_ne (o := .dK k6) nw).trans (s11 _ _ gw10)
      have gd12 : AgD _ pd l := (upd_ne (o := .dK k6) nd).trans (s11 _ _ gd10)
      have gk12 := (upd_ne (o := .dK k6) nk).trans (s11 _ _ gk10)
      have gf12 := (upd_ne (o := .dK k6) nf).trans (s11 _ _ gf10)
      have P12 := (P10.same s11).put (o := .dK k6) (Ne.symm np) (Ne.symm nc)
      have B12 := butPut (o := .dK k6) (B10.trans (But.same s11)) hS0
      have gS : (upd (upd H10 h (.lst [])) S (.dK k6)) S = some (.dK k6) := upd_same
      clear P10 B10 gw10 gd10 gk10 gf10 s11 hh
      generalize (upd (upd H10 h (.lst [])) S (.dK k6)) = H12 at *
      refine sqA (opv rfl (lcOf ⟨_, rfl, lw, rfl, ⟨_, SqL.of gw12⟩, ?_⟩))
      refine lcP (fun z => decide (z ∈ ks) && !decide (z ∈ us)) gw12 (by omega) (fun z G R sG hR => ⟨_, rfl, _, rfl, pd, _, rfl, DGet.k (k := .inr z) (sG _ _ gd12), _, rfl, ?_⟩) fun ex H13 hex gex s13 => ?_
      · rw [agSome, ← hks]
        by_cases hz : z ∈ ks
        · rw [decide_eq_true hz] at hR ⊢
          refine iteT ⟨_, rfl, _, rfl, kn, _, rfl, .inl (SqL.of (sG _ _ gk12)), rfl, flat_strs _, _, rfl, ?_⟩
          rw [if_pos rfl, inV_str]
          exact hR
        · rw [decide_eq_false hz] at hR ⊢
          exact iteF hR
      obtain ⟨xs, hxs⟩ : ∃ xs, xs = ws.filter (fun z => decide (z ∈ ks) && !decide (z ∈ us)) := ⟨_, rfl⟩
      rw [← hxs] at gex
      have lxs : xs.length ≤ 6 := by rw [hxs]; exact Nat.le_trans (List.length_filter_le _ _) w6
      have lus := sbu.length_le
      refine ⟨kn, ex, _, _, rfl, rfl, s13 _ _ gk12, gex, by rw [List.length_map, List.length_map]; omega, fun kn2 hkn2 => ?_⟩
      rw [← List.map_append]
      have s14 := s13.trans (Same.new (o := .lst ((us ++ xs).map V.str)) hkn2)
      have gn : (upd H13 kn2 (.lst ((us ++ xs).map V.str))) kn2 = some (.lst ((us ++ xs).map V.str)) := upd_same
      have gb := s14 _ _ gb
      have gh := s14 _ _ gh
      have gd14 : AgD _ pd l := s14 _ _ gd12
      have gk14 := s14 _ _ gk12
      have gf14 := s14 _ _ gf12
      have gS := s14 _ _ gS
      have P14 := P12.same s14
      have B14 := B12.trans (But.same s14)
      clear s14 s13 P12 B12 gw12 gd12 gk12 gf12 hkn2 gex hex
      generalize (upd H13 kn2 (.lst ((us ++ xs).map V.str))) = H14 at *
      have mx : ∀ z, z ∈ xs ↔ z ∈ ws ∧ z ∈ ks ∧ z ∉ us := fun z => by rw [hxs, List.mem_filter, Bool.and_eq_true, decide_eq_true_eq, Bool.not_eq_true', decide_eq_false_iff_not]
      have hk2 : ∀ z, z ∈ us ++ xs ↔ z ∈ us ∨ z ∈ l.map (·.1) := fun z => by
        rw [List.mem_append, mx z, ← hks]
        exact ⟨fun h => h.imp id fun h => h.2.1, fun h => h.elim .inl fun h => (Classical.em (z ∈ us)).imp id fun n => ⟨sb.subset (by rw [← hks]; exact h), h, n⟩⟩
      have uk : Uni (us ++ xs) := ⟨List.nodup_append.mpr ⟨uw.1.sublist sbu, by rw [hxs]; exact uw.1.sublist List.filter_sublist, fun z hz y hy e => ((mx y).mp hy).2.2 (e ▸ hz)⟩, fun z hz => uw.2 z ((List.mem_append.mp hz).elim (fun h => sbu.subset h) fun h => ((mx z).mp h).1)⟩
      have mf : ∀ z ∈ ws.filter (fun z => !decide (z ∈ ks)), z ∈ ws ∧ z ∉ l.map (·.1) := fun z hz => by
        rw [List.mem_filter, Bool.not_eq_true', decide_eq_false_iff_not, hks] at hz
        exact hz
      have u0 : 0 < (us ++ xs).length := by
        cases us with
        | cons z r => exact Nat.succ_pos _
        | nil =>
          cases l with
          | nil => exact absurd rfl (hne rfl)
          | cons q r => exact List.length_pos_of_mem ((hk2 q.1).mpr (.inr (by simp)))
      refine ⟨_, rfl, _, rfl, _, rfl, _, rfl, p, c, ns, a5, r5, kn2, fr, us ++ xs, _, most, rfl, P14, by omega, gn, gf14, uk, u0, ⟨uw.1.sublist List.filter_sublist, fun z h => uw.2 z (mf z h).1⟩, ⟨ws, fun z hz => ((hk2 z).mp hz).elim (fun h => sbu.subset h) (fun h => sb.subset h), fun z h => (mf z h).1, w6⟩, m8, fun T' L Hn as hs H15 gT lots ghs las dr hd => ?_⟩
      obtain ⟨a15, r15, P15, l15, B15⟩ := hd
      have gb := B15 _ _ gb (pen_ne (zs := []) P14 gb)
      have gh := B15 _ _ gh (pen_ne (zs := []) P14 gh)
      have gd15 : AgD H15 pd l := B15 _ _ gd14 pdp
      have gk15 := B15 _ _ gk14 (pen_ne P14 gk14)
      have gf15 := B15 _ _ gf14 (pen_ne P14 gf14)
      have gS := B15 _ _ gS (Ne.symm np)
      have B15 := B14.trans B15
      have hs6 : hs.length ≤ 6 := Nat.le_trans (uniLen dr.here fun z hz => (dr.hin z hz).elim (fun h => ((hk2 z).mp h).elim (fun h => sbu.subset h) (fun h => sb.subset h)) fun h => (mf z h).1) w6
      refine ⟨T', _, rfl, SqT.of gT, rfl, _, _, rfl, _, rfl, S, _, rfl, DPut.k (k := .inr "ahead") gS (by rw [hk6]; show 6 < sizeLine; decide), _, _, rfl, rfl, ?_⟩
      have e7 : putK k6 (.inr "ahead") (.ref L) = [((.inr "given" : Key), V.ref kn), (.inr "again", .ref pd), (.inr "loop", .non), (.inr "between", .ref b), (.inr "second", .non), (.inr "behind", .ref h), (.inr "ahead", .ref L)] := by rw [hk6]; rfl
      obtain ⟨k7, hk7⟩ : ∃ k7, k7 = putK k6 (.inr "ahead") (.ref L) := ⟨_, rfl⟩
      rw [← hk7] at e7 ⊢
      have lots := lots.putD (o := .dK k7) gS
      have nHn : Hn ≠ S := fun e => by rw [e, gS] at ghs; cases ghs
      have ghs := (upd_ne (o := .dK k7) nHn).trans ghs
      have gb := (upd_ne (o := .dK k7) nb).trans gb
      have gh := (upd_ne (o := .dK k7) nh).trans gh
      have gd16 : AgD _ pd l := (upd_ne (o := .dK k7) nd).trans gd15
      have gk16 := (upd_ne (o := .dK k7) nk).trans gk15
      have gf16 := (upd_ne (o := .dK k7) nf).trans gf15
      have P16 := P15.put (o := .dK k7) (Ne.symm np) (Ne.symm nc)
      have B16 := butPut (o := .dK k7) B15 hS0
      have gS : (upd H15 S (.dK k7)) S = some (.dK k7) := upd_same
      clear P14 P15 B14 B15 gd14 gd15 gk14 gk15 gT gn gf14
      generalize (upd H15 S (.dK k7)) = H16 at *
      have uf : Uni (ws.filter (fun z => !decide (z ∈ ks))) := ⟨uw.1.sublist List.filter_sublist, fun z h => uw.2 z (mf z h).1⟩
      have I0 : SiS H H16 p c ns (at_ + 130) most kn pd .non (.ref b) .non (.ref h) (.ref L) S Hn fr us l ws (ws.filter (fun z => !decide (z ∈ ks))) hs ⟨as, none, [], none, []⟩ :=
        { pen := ⟨a15, r15, P16, by omega⟩, but := B16, s0 := hS0, site := by rw [gS, e7]; rfl, gv_ := gk16, ag_ := gd16, kn_ := ghs, fr_ := gf16, pa := ⟨L, rfl, lots, (show as.length ≤ 200 by omega), dr.lot⟩, pl := rfl, pb := ⟨b, rfl, lots0 gb, Nat.zero_le _, nofun⟩, px := rfl, ph := ⟨h, rfl, lots0 gh, Nat.zero_le _, nofun⟩
          uses := fun i i5 => by
            rcases five i5 with rfl | rfl | rfl | rfl | rfl
            · exact (dr.uses _ fun z hz => (mf z hz).2).congr fun z => (hk2 z).trans List.mem_append.symm
            · exact trivial
            · exact trivial
            · exact trivial
            · exact trivial
          eq := fun z => by
            rw [dr.eq z, last5, aft_nil, aft_nil]
            exact aft_congr (fun y => (hk2 y).trans List.mem_append.symm) z
          uni := dr.here
          pos := pos_of u0 fun z hz => (dr.eq z).mpr (by unfold aft; exact List.mem_append_left _ hz)
          hin := fun z hz => (dr.hin z hz).elim (fun h => ((hk2 z).mp h).elim (fun h => sbu.subset h) (fun h => sb.subset h)) fun h => (mf z h).1
          inn := fun z hz => by
            rw [acts5] at hz
            rcases hz with k | k | k | k | k
            · exact (dr.inn z k).elim (fun h => ((hk2 z).mp h).elim (fun h => sbu.subset h) (fun h => sb.subset h)) fun h => (mf z h).1
            · cases k
            · cases k
            · cases k
            · cases k
          len := fun i i5 => by
            rcases five i5 with rfl | rfl | rfl | rfl | rfl
            · exact las
            · exact Nat.zero_le _
            · exact Nat.zero_le _
            · exact Nat.zero_le _
            · exact Nat.zero_le _ }
      clear P16 B16 gb gh gd16 gk16 gf16 ghs lots gS dr hs6
      obtain ⟨fs, hfs⟩ : ∃ fs, fs = ws.filter (fun z => !decide (z ∈ ks)) := ⟨_, rfl⟩
      rw [← hfs] at I0 uf mf
      have sz : ∀ v1 v2 v3 v4 v5 v6 v7, (sk7 v1 v2 v3 v4 v5 v6 v7).length < sizeLine := fun _ _ _ _ _ _ _ => by show 7 < sizeLine; decide
      refine ⟨fun σ H' => ∃ vl kk hs g, σ = [some (.ref p), some (.int (nl : Int)), some (.int (most : Int)), some (.ref lw), some (.ref pd), some (.ref kk), some (.ref fr), some (.ref S), none] ∧ SiS H H' p c ns (at_ + 230) most kn pd vl (.ref b) .non (.ref h) (.ref L) S kk fr us l ws fs hs g ∧ g.b = [] ∧ g.s = none ∧ g.h = [] ∧ g.l.isSome = decide (0 < nl), ?_, ?_⟩
      · refine ⟨_, rfl, _, _, rfl, rfl, _, rfl, ite2 (fun hc => ?_) (fun hc => ?_)⟩
        · have hc := of_decide_eq_true hc
          obtain ⟨a6, r6, P6, l6⟩ := I0.pen
          refine ⟨_, rfl, _, rfl, _, rfl, _, rfl, p, c, ns, a6, r6, Hn, fr, hs, fs, most, rfl, P6, by omega, I0.kn_, I0.fr_, I0.uni, I0.pos, uf, ⟨ws, I0.hin, fun z hz => (mf z hz).1, w6⟩, m8, fun T2 L2 N2 as2 hs2 H7 gT2 lots2 gN2 la2 dr2 hd => ?_⟩
          obtain ⟨a7, r7, P7, l7, B7⟩ := hd
          have I1 := I0.step (m' := at_ + 230) ⟨a7, r7, P7, by omega⟩ B7
          exact ⟨T2, _, ((0 : Nat) : Int), .ref L2, rfl, rfl, SqT.of gT2, atI_nat rfl, _, rfl, S, _, rfl, DPut.k (k := .inr "loop") I1.site (sz _ _ _ _ _ _ _), .ref L2, Hn, hs, _, rfl, I1.loop nd rfl rfl lots2 dr2 mf la2 m8, rfl, rfl, rfl, (decide_eq_true (by omega)).symm⟩
        · have hc : ¬ (0 : Int) < (nl : Int) := fun h => hc (decide_eq_true h)
          obtain ⟨a6, r6, P6, l6⟩ := I0.pen
          exact ⟨.non, Hn, hs, _, rfl, I0.step ⟨a6, r6, P6, by omega⟩ But.refl, rfl, rfl, rfl, (decide_eq_false (by omega)).symm⟩
      · rintro σ H17 ⟨vl, kk, hs1, g1, rfl, I1, gb1, gs1, gh1, gl1⟩
        refine ⟨fun σ H' => ∃ vb vx kk hs g, σ = [some (.ref p), some (.int (nl : Int)), some (.int (most : Int)), some (.ref lw), some (.ref pd), some (.ref kk), some (.ref fr), some (.ref S), none] ∧ SiS H H' p c ns (at_ + 430) most kn pd vl vb vx (.ref h) (.ref L) S kk fr us l ws fs hs g ∧ g.h = [] ∧ g.l.isSome = decide (0 < nl) ∧ g.s.isSome = decide (1 < nl) ∧ (nl ≤ 1 → g.b = []), ?_, ?_⟩
        · refine ⟨_, rfl, _, _, rfl, rfl, _, rfl, ite2 (fun hc => ?_) (fun hc => ?_)⟩
          · have hc := of_decide_eq_true hc
            obtain ⟨a6, r6, P6, l6⟩ := I1.pen
            refine ⟨_, rfl, _, rfl, _, rfl, _, rfl, p, c, ns, a6, r6, kk, fr, hs1, fs, most, rfl, P6, by omega, I1.kn_, I1.fr_, I1.uni, I1.pos, uf, ⟨ws, I1.hin, fun z hz => (mf z hz).1, w6⟩, m8, fun T2 L2 N2 as2 hs2 H7 gT2 lots2 gN2 la2 dr2 hd => ?_⟩
            obtain ⟨a7, r7, P7, l7, B7⟩ := hd
            have I2 := I1.step (m' := at_ + 330) ⟨a7, r7, P7, by omega⟩ B7
            refine ⟨T2, _, rfl, SqT.of gT2, rfl, _, _, rfl, _, rfl, S, _, rfl, DPut.k (k := .inr "between") I2.site (sz _ _ _ _ _ _ _), _, _, rfl, rfl, ?_⟩
            have I3 := I2.between nd gb1 gs1 gh1 lots2 gN2 dr2 mf la2 m8
            have e : putK (sk7 (.ref kn) (.ref pd) vl (.ref b) .non (.ref h) (.ref L)) (.inr "between") (.ref L2) = sk7 (.ref kn) (.ref pd) vl (.ref L2) .non (.ref h) (.ref L) := rfl
            rw [e]
            generalize (upd H7 S (.dK (sk7 (.ref kn) (.ref pd) vl (.ref L2) .non (.ref h) (.ref L)))) = H8 at *
            obtain ⟨a8, r8, P8, l8⟩ := I3.pen
            refine ⟨_, rfl, _, rfl, _, rfl, _, rfl, p, c, ns, a8, r8, N2, fr, hs2, fs, most, rfl, P8, by omega, I3.kn_, I3.fr_, I3.uni, I3.pos, uf, ⟨ws, I3.hin, fun z hz => (mf z hz).1, w6⟩, m8, fun T3 L3 N3 as3 hs3 H9 gT3 lots3 gN3 la3 dr3 hd => ?_⟩
            obtain ⟨a9, r9, P9, l9, B9⟩ := hd
            have I4 := I3.step (m' := at_ + 430) ⟨a9, r9, P9, by omega⟩ B9
            exact ⟨T3, _, ((0 : Nat) : Int), .ref L3, rfl, rfl, SqT.of gT3, atI_nat rfl, _, rfl, S, _, rfl, DPut.k (k := .inr "second") I4.site (sz _ _ _ _ _ _ _), .ref L2, .ref L3, N2, hs2, _, rfl, I4.second nd gh1 lots3 dr3 mf la3 m8, gh1, gl1, (decide_eq_true (by omega)).symm, fun q => absurd q (by omega)⟩
          · have hc : ¬ (1 : Int) < (nl : Int) := fun h => hc (decide_eq_true h)
            obtain ⟨a6, r6, P6, l6⟩ := I1.pen
            exact ⟨.ref b, .non, kk, hs1, g1, rfl, I1.step ⟨a6, r6, P6, by omega⟩ But.refl, gh1, gl1, (by rw [gs1]; exact (decide_eq_false (by omega)).symm), fun _ => gb1⟩
        · rintro σ H18 ⟨vb, vx, kk, hs1, g1, rfl, I1, gh1, gl1, gs1, gb1⟩
          refine ⟨fun σ H' => ∃ vh kk hs g, σ = [some (.ref p), some (.int (nl : Int)), some (.int (most : Int)), some (.ref lw), some (.ref pd), some (.ref kk), some (.ref fr), some (.ref S), none] ∧ SiS H H' p c ns (at_ + 530) most kn pd vl vb vx vh (.ref L) S kk fr us l ws fs hs g ∧ Loops nl g, ?_, ?_⟩
          · refine ⟨_, rfl, _, _, rfl, rfl, _, rfl, ite2 (fun hc => ?_) (fun hc => ?_)⟩
            · have hc := of_decide_eq_true hc
              obtain ⟨a6, r6, P6, l6⟩ := I1.pen
              refine ⟨_, rfl, _, rfl, _, rfl, _, rfl, p, c, ns, a6, r6, kk, fr, hs1, fs, most, rfl, P6, by omega, I1.kn_, I1.fr_, I1.uni, I1.pos, uf, ⟨ws, I1.hin, fun z hz => (mf z hz).1, w6⟩, m8, fun T2 L2 N2 as2 hs2 H7 gT2 lots2 gN2 la2 dr2 hd => ?_⟩
              obtain ⟨a7, r7, P7, l7, B7⟩ := hd
              have I2 := I1.step (m' := at_ + 530) ⟨a7, r7, P7, by omega⟩ B7
              exact ⟨T2, _, rfl, SqT.of gT2, rfl, _, _, rfl, _, rfl, S, _, rfl, DPut.k (k := .inr "behind") I2.site (sz _ _ _ _ _ _ _), _, _, rfl, rfl, .ref L2, N2, hs2, _, rfl, I2.behind nd gh1 lots2 gN2 dr2 mf la2 m8, gl1, gs1, gb1, fun q => absurd q (by omega)⟩
            · have hc : ¬ (0 : Int) < (nl : Int) := fun h => hc (decide_eq_true h)
              obtain ⟨a6, r6, P6, l6⟩ := I1.pen
              exact ⟨.ref h, kk, hs1, g1, rfl, I1.step ⟨a6, r6, P6, by omega⟩ But.refl, gl1, gs1, gb1, fun _ => gh1⟩
          · rintro σ H19 ⟨vh, kk, hs1, g1, rfl, I1, lp⟩
            obtain ⟨a6, r6, P6, l6⟩ := I1.pen
            have hs6 : hs1.length ≤ 6 := Nat.le_trans (uniLen I1.uni I1.hin) w6
            refine sdp (lcOf ?_)
            refine ⟨_, rfl, kk, rfl, ⟨_, SqL.of I1.kn_⟩, ?_⟩
            refine lcD I1.kn_ P6 (by omega) (by omega) (fun z G a7 r7 R P7 l7 hR => ⟨_, rfl, p, c, ns, a7, r7, _, rfl, P7, by omega, by decide, by decide, fun e G2 _ _ hd => ⟨rfl, _, rfl, hR _ G2 hd⟩⟩) fun rl rs H20 hr0 gr sbr hd => ?_
            obtain ⟨a20, r20, P20, l20, B20⟩ := hd
            have nr : rl ≠ S := fun e => by rw [e, I1.site] at hr0; cases hr0
            have I2 := I1.step (m' := at_ + 540) ⟨a20, r20, P20, by omega⟩ B20
            refine ⟨_, rfl, S, _, rfl, DPut.k (k := .inr "results") I2.site (sz _ _ _ _ _ _ _), ?_⟩
            have e8 : putK (sk7 (.ref kn) (.ref pd) vl vb vx vh (.ref L)) (.inr "results") (.ref rl) = sk8 (.ref kn) (.ref pd) vl vb vx vh (.ref L) (.ref rl) := rfl
            rw [e8]
            refine ⟨_, rfl, k S ⟨g1, us, l, rs⟩ _ ⟨kn, pd, rl, vl, vb, vx, vh, .ref L, upd_same, (upd_ne (lst_ne I2.gv_ I2.site)).trans I2.gv_, (upd_ne nd).trans I2.ag_, (upd_ne nr).trans gr, I2.pa.putD I2.site, I2.pl.putD I2.site, I2.pb.putD I2.site, I2.px.putD I2.site, I2.ph.putD I2.site⟩ (tolOkG I1 lp uw w6 sbu sb hq m8 sbr) lp I1.len ⟨a20, r20, P20.put (Ne.symm np) (Ne.symm nc), by omega, butPut I2.but hS0⟩⟩
end
end K33

set_option Elab.async false
set_option linter.all false
set_option maxRecDepth 100000
set_option maxHeartbeats 4000000
/-! Ascending texts, each once: what they are is told by which they are. -/
namespace NX
open PySem PySem.Spec PyProof.Rows
def leS (a b : Str) : Prop := a.cps.toList ≤ b.cps.toList
theorem leS_trans {a b c : Str} (h1 : leS a b) (h2 : leS b c) : leS a c := List.le_trans h1 h2
theorem leS_anti {a b : Str} (h1 : leS a b) (h2 : leS b a) : a = b := by
  have e := List.le_antisymm h1 h2
  obtain ⟨⟨x⟩⟩ := a
  obtain ⟨⟨y⟩⟩ := b
  have e : x = y := e
  rw [e]
theorem rising_pw : ∀ (p : Str) (l : List Str), risingS p l = true → (p :: l).Pairwise leS
  | p, [], _ => by simp
  | p, x :: r, h => by
    have h' : (!ltCps x.cps.toList p.cps.toList && risingS x r) = true := h
    rw [Bool.and_eq_true, Bool.not_eq_true', ltCps_eq, decide_eq_false_iff_not] at h'
    have ih := rising_pw x r h'.2
    have hpx : leS p x := List.not_lt.mp h'.1
    refine List.pairwise_cons.mpr ⟨fun z hz => ?_, ih⟩
    rcases List.mem_cons.mp hz with e | e
    · rw [e]; exact hpx
    · exact leS_trans hpx ((List.pairwise_cons.mp ih).1 z e)
theorem sorted_pw {l : List Str} (h : sortedS l = true) : l.Pairwise leS := by
  cases l with
  | nil => simp
  | cons x r => exact rising_pw x r h
theorem sorted_uniq : ∀ {a b : List Str}, a.Pairwise leS → b.Pairwise leS → a.Nodup → b.Nodup → (∀ y, y ∈ a ↔ y ∈ b) → a = b
  | [], [], _, _, _, _, _ => rfl
  | [], y :: b, _, _, _, _, h => by simpa using (h y).mpr
  | x :: a, [], _, _, _, _, h => by simpa using (h x).mp
  | x :: a, y :: b, ha, hb, na, nb, h => by
    obtain ⟨a1, a2⟩ := List.pairwise_cons.mp ha
    obtain ⟨b1, b2⟩ := List.pairwise_cons.mp hb
    obtain ⟨n1, n2⟩ := List.nodup_cons.mp na
    obtain ⟨m1, m2⟩ := List.nodup_cons.mp nb
    have exy : x = y := by
      have hx := (h x).mp List.mem_cons_self
      have hy := (h y).mpr List.mem_cons_self
      rcases List.mem_cons.mp hx with e | hx
      · exact e
      · rcases List.mem_cons.mp hy with e | hy
        · exact e.symm
        · exact leS_anti (a1 y hy) (b1 x hx)
    subst exy
    congr 1
    refine sorted_uniq a2 b2 n2 m2 fun z => ?_
    have hz := h z
    by_cases e : z = x
    · subst e
      exact ⟨fun q => absurd q n1, fun q => absurd q m1⟩
    · simpa [e] using hz
end NX

set_option Elab.async false
set_option linter.all false
set_option maxRecDepth 100000
set_option maxHeartbeats 4000000
/-! What the law wants. -/
namespace K33
open PySem L2 NX NU
open PyProof.Rows (sortedS)
abbrev sIw : Stmt := top 88
abbrev sWo : Stmt := top 89
abbrev sWa : Stmt := top 90
abbrev NIw : List Str := ["_law_deeds_here", "_law_results_so", "_law_word", "_law_made", "_law_used"]
abbrev NWo : List Str := ["_law_site_here", "_law_found", "_law_part", "_law_made", "_law_used", "_law_word"]
abbrev NWa : List Str := ["_law_site_here", "_law_deeds_here", "_law_known", "_law_word"]
theorem scIw : FnScope NIw ["_law_deeds_here", "_law_results_so", "_law_word"] (defScope sIw) := ⟨rfl, rfl, rfl, by decide +kernel, rfl, by decide +kernel, by decide +kernel⟩
theorem scWo : FnScope NWo ["_law_site_here"] (defScope sWo) := ⟨rfl, rfl, rfl, by decide +kernel, rfl, by decide +kernel, by decide +kernel⟩
theorem scWa : FnScope NWa ["_law_site_here", "_law_deeds_here"] (defScope sWa) := ⟨rfl, rfl, rfl, by decide +kernel, rfl, by decide +kernel, by decide +kernel⟩
def spIw : Sp := fun vs H Q _ => ∃ (L r : Addr) (z : Str) (as : List Act) (rs : List Str), vs = [.ref L, .ref r, .str z] ∧ LotsAt H L as ∧ H r = some (.lst (rs.map V.str)) ∧ ∀ b : Bool, (b = true ↔ Want (fun y => y ∈ rs) as z) → Q (.bl b) H
theorem want_drop {R : Str → Prop} {z : Str} {as : List Act} {i : Nat} {a : Act} (h : as[i]? = some a) : Want R (as.drop i) z ↔ z ∈ a.2 ∨ (a.1 ≠ some z ∧ Want R (as.drop (i + 1)) z) := by
  obtain ⟨hl, e⟩ := List.getElem?_eq_some_iff.mp h
  rw [List.drop_eq_getElem_cons hl, e]
  exact Iff.rfl
section
variable {P : Program} {w : World} {K : PySem.W.Frag} {mg : Str → Option Value} {base : Heap}
theorem ok_iw {f : Addr} {fd : FuncData} (F : Fun K "_law_is_wanted" "_law_is_wanted" sIw f fd) : FnOk P w K mg base CX0 1 f fd ["_law_deeds_here", "_law_results_so", "_law_word"] spIw := by
  refine F.ok scIw (fun vs H Q E h => ?_) (fun cdv A outer s H vs Q E hr h => ?_)
  · obtain ⟨L, r, z, as, rs, rfl, _⟩ := h
    rfl
  · obtain ⟨L, r, z, as, rs, rfl, ⟨ts, gL, lt⟩, gr, k⟩ := h
    refine ⟨_, (pss_cons (ps_for PassesOwn.never rfl (pi_list (pv 0)) (pg_tup rfl (pgs_cons (pg_name (i := 3) scIw.nd rfl (Or.inl rfl)) (pgs_cons (pg_name (i := 4) scIw.nd rfl (Or.inl rfl)) pgs_nil)))
        (pss_cons (ps_if (pt_cmpR op_in_seq (pv 2) (pv 4) rfl) (pss_one (ps_ret pe_bl)) pss_nil)
        (pss_one (ps_if (pt_cmpR op_eq (pv 3) (pv 2) (nomark _)) (pss_one (ps_ret pe_bl)) pss_nil))))
      (pss_one (ps_ret (pe_cmpR op_in_seq (pv 2) (pv 1) rfl)))), ?_⟩
    refine ⟨_, rfl, L, rfl, ⟨_, SqL.of gL⟩, ?_⟩
    refine for_list (xs := ts.map V.ref) (fun i σ H' => H' = H ∧ (Want (fun y => y ∈ rs) as z ↔ Want (fun y => y ∈ rs) (as.drop i) z) ∧ ∃ x3 x4, σ = [some (.ref L), some (.ref r), some (.str z), x3, x4]) ⟨rfl, Iff.rfl, _, _, rfl⟩ (fun i σ H' _ h => by rw [h.1]; exact SqL.of gL) (fun i x σ H' hx ⟨e, wd, x3, x4, eσ⟩ => ?_) (fun σ H' ⟨e, wd, x3, x4, eσ⟩ => ?_)
    · subst e eσ
      rw [List.getElem?_map] at hx
      obtain ⟨t, ht, rfl⟩ := Option.map_eq_some_iff.mp hx
      have hj : i < as.length := by rw [← lt.1]; exact (List.getElem?_eq_some_iff.mp ht).1
      obtain ⟨a, ha⟩ : ∃ a, as[i]? = some a := ⟨_, List.getElem?_eq_getElem hj⟩
      obtain ⟨u, g1, g2⟩ := lt.2 i t a ht ha
      rw [want_drop ha] at wd
      refine ⟨t, _, rfl, SqT.of g1, rfl, _, _, rfl, _, _, rfl, rfl, ?_⟩
      refine ⟨_, rfl, _, rfl, u, _, rfl, .inl (SqL.of g2), rfl, flat_strs _, _, rfl, ?_⟩
      have ei : (if false = true then !inV (V.str z) (a.2.map V.str) else inV (V.str z) (a.2.map V.str)) = decide (z ∈ a.2) := inV_str z a.2
      rw [ei]
      by_cases hz : z ∈ a.2
      · rw [decide_eq_true hz]
        exact iteT (k true ⟨fun _ => wd.mpr (.inl hz), fun _ => rfl⟩)
      · rw [decide_eq_false hz]
        refine iteF ⟨_, rfl, _, rfl, (by cases a.1 <;> rfl), _, rfl, ite2 (fun he => ?_) (fun he => ?_)⟩
        · have he := of_decide_eq_true he
          refine k false ⟨nofun, fun hw => ?_⟩
          rcases wd.mp hw with h | ⟨h, _⟩
          · exact absurd h hz
          · refine absurd ?_ h
            obtain ⟨m, us⟩ := a
            cases m with
            | none => cases he
            | some m => injection he with he; rw [he]
        · refine ⟨rfl, wd.trans ⟨fun h => (h.resolve_left hz).2, fun h => .inr ⟨fun e => he (decide_eq_true (by rw [e]; rfl)), h⟩⟩, _, _, rfl⟩
    · subst e eσ
      rw [List.length_map, lt.1, List.drop_length] at wd
      refine ⟨_, rfl, _, rfl, r, _, rfl, .inl (SqL.of gr), rfl, flat_strs _, k _ ?_⟩
      have ei : (if false = true then !inV (V.str z) (rs.map V.str) else inV (V.str z) (rs.map V.str)) = decide (z ∈ rs) := inV_str z rs
      rw [ei, decide_eq_true_iff]
      exact wd.symm
end
end K33

set_option Elab.async false
set_option linter.all false
set_option maxRecDepth 100000
set_option maxHeartbeats 4000000
/-! What the law wants, 2. -/
namespace K33
open PySem L2 NX NU
open PyProof.Rows (sortedS)
def spWo : Sp := fun vs H Q _ => ∃ (S : Addr) (t : Tol), vs = [.ref S] ∧ SiteAt H S t ∧ t.Ok ∧ t.g.a.length ≤ 8 ∧ ∀ (ns : List Str) p H', Same H H' → H' p = some (.lst (ns.map V.str)) → Asc ns t.words → Q (.ref p) H'
def spWa : Sp := fun vs H Q _ => ∃ (S L : Addr) (t : Tol) (as : List Act), vs = [.ref S, .ref L] ∧ SiteAt H S t ∧ t.Ok ∧ t.g.a.length ≤ 8 ∧ LotsAt H L as ∧ (∀ z ∈ actsN as, z ∈ t.words) ∧ ∀ q H', Same H H' → NmT H' q (Want (fun z => z ∈ t.rs) as) → Q (.ref q) H'
/-- a part or [] -/
theorem PtI.or {K : PySem.W.Frag} {H : Hp} {v : V} {σ : L2.St} {Q : VK} {o : Option (List Act)} (h : PtI H v o) (q : ∀ L H', Same H H' → LotsAt H' L (o.getD []) → Q (.ref L) H') : ∃ k, TruV K v H k ∧ if k = true then Q v H else tLst tNil σ H Q := by
  have emp : tLst tNil σ H fun x H' => (o.getD [] = [] → Q x H') := ⟨by show 0 ≤ sizeLine; decide, fun t ht e => by
    refine q t _ (Same.new ht) ?_
    rw [e]
    exact lots0 upd_same⟩
  cases o with
  | none =>
    obtain rfl : v = .non := h
    exact ⟨false, rfl, iteF ⟨emp.1, fun t ht => emp.2 t ht rfl⟩⟩
  | some as =>
    obtain ⟨L, rfl, ⟨ts, g, lt⟩, _⟩ := h
    refine ⟨!(ts.map V.ref).isEmpty, .inl ⟨_, SqL.of g, rfl⟩, ?_⟩
    cases ts with
    | nil =>
      have ea : as = [] := List.length_eq_zero_iff.mp lt.1.symm
      exact iteF ⟨emp.1, fun t ht => emp.2 t ht ea⟩
    | cons x r => exact iteT (q L H (Same.refl H) ⟨_, g, lt⟩)
theorem filt_asc {ns : List Str} {f : Str → Bool} (h : sortedS ns = true) : sortedS (ns.filter f) = true := by
  refine PyProof.Rows.sortedS_of_pairwise _ (((sorted_pw h).filter f).imp fun {a b} h => ?_)
  rw [PyProof.Rows.ltCps_eq, decide_eq_false_iff_not]
  exact List.not_lt.mpr h
theorem retA {te : TE} {D : L2.Ends} {σ : L2.St} {H : Hp} (h : te σ H D.rt) : tRet te D σ H := h
/-- [w for w in [made] if w is not None] -/
theorem madeL {K : PySem.W.Frag} {H : Hp} {l : Addr} {s0 s1 s2 s3 s4 s5 : Option V} {mk : Option Str} {Q : VK} (gl : H l = some (.lst [mkV mk])) (k : ∀ D H', H D = none → Same H H' → H' D = some (.lst (mk.toList.map V.str)) → Q (.ref D) H') :
    tLc (fun _ H R => R (Itl K l) H) (gName 5) (tTest (tOp (fun x y H Q => y = V.non ∧ Q (V.bl !decide (x = V.non)) H) (tVar 5) (tC V.non))) (tVar 5) [5] [s0, s1, s2, s3, s4, s5] H Q := by
  intro D hD
  refine lc_list (xs := [mkV mk]) (fun j H' => Same H H' ∧ H' D = some (.lst ((if j = 0 then [] else mk.toList).map V.str))) ⟨Same.new hD, upd_same⟩ (fun j H' _ z => SqL.of (z.1 _ _ gl)) ?_ ?_
  · rintro j y H2 hy ⟨sj, gD⟩
    obtain ⟨rfl, rfl⟩ : j = 0 ∧ y = mkV mk := by
      cases j with
      | zero => cases hy; exact ⟨rfl, rfl⟩
      | succ j => cases hy
    refine ⟨rfl, _, rfl, rfl, _, rfl, ?_⟩
    cases mk with
    | none => exact iteF ⟨sj, gD⟩
    | some m => exact iteT ⟨_, rfl, _, gD, by show 0 < sizeLine; decide, sameUpd sj hD, upd_same⟩
  · rintro H2 ⟨sj, gD⟩
    exact k D H2 hD sj gD
/-- [str(w) for w in l] -/
theorem strL {K : PySem.W.Frag} {H : Hp} {l : Addr} {s0 s1 s2 s3 s4 s5 : Option V} {ws : List Str} {Q : VK} (gl : H l = some (.lst (ws.map V.str))) (h : ws.length ≤ 1000) (k : ∀ D H', H D = none → Same H H' → H' D = some (.lst (ws.map V.str)) → Q (.ref D) H') :
    tLc (fun _ H R => R (Itl K l) H) (gName 5) tYes (tCB (fun xs H Q => ∃ a, xs = [V.str a] ∧ Q (V.str a) H) (tCons (tVar 5) tNil)) [5] [s0, s1, s2, s3, s4, s5] H Q := by
  intro D hD
  have z1000 : (1000 : Nat) < sizeLine := by decide
  refine lc_list (xs := ws.map V.str) (fun j H' => Same H H' ∧ H' D = some (.lst ((ws.take j).map V.str))) ⟨Same.new hD, upd_same⟩ (fun j H' _ z => SqL.of (z.1 _ _ gl)) ?_ ?_
  · rintro j y H2 hy ⟨sj, gD⟩
    rw [List.getElem?_map] at hy
    obtain ⟨z, hz, rfl⟩ := Option.map_eq_some_iff.mp hy
    refine ⟨rfl, ?_⟩
    unfold tYes
    dsimp only
    rw [if_pos rfl]
    refine ⟨_, rfl, z, rfl, _, gD, ?_, sameUpd sj hD, ?_⟩
    · rw [List.length_map, List.length_take]
      omega
    · rw [takeSnoc hz, List.map_append]
      exact upd_same
  · rintro H2 ⟨sj, gD⟩
    rw [List.length_map, List.take_length] at gD
    exact k D H2 hD sj gD
section
variable {P : Program} {w : World} {K : PySem.W.Frag} {mg : Str → Option Value} {base : Heap}
theorem ok_wo {f : Addr} {fd : FuncData} (F : Fun K "_law_words_of" "_law_words_of" sWo f fd) (T : TxtB mg) (TA : TxtA mg) (cOr : C8.Cal P w K mg base 1 "_law_order" spOr []) : FnOk P w K mg base CX0 2 f fd ["_law_site_here"] spWo := by
  refine F.ok scWo (fun vs H Q E h => ?_) (fun cdv A outer s H vs Q E hr h => ?_)
  · obtain ⟨S, t, rfl, _⟩ := h
    rfl
  · obtain ⟨S, t, rfl, hS, ok, a8, k⟩ := h
    have hu := hu_of hr
    refine ⟨_, (pss_cons (ps_set (i := 1) scWo.nd rfl (Or.inl rfl) (pe_op op_cat (pe_op op_cat (pe_dget hu (pv 0) pe_str (fun _ _ => rfl)) (pe_callTy (call_listD rfl) (by rfl) T.blist (by decide +kernel) (pa_cons (pe_dget hu (pv 0) pe_str (fun _ _ => rfl)) pa_nil))) (pe_dget hu (pv 0) pe_str (fun _ _ => rfl))))
      (pss_cons (ps_for PassesOwn.never rfl (pi_list (pe_c0 cOr hr (by decide) rfl)) (pg_name (i := 2) scWo.nd rfl (Or.inl rfl))
        (pss_one (ps_for PassesOwn.never rfl (pi_list (pe_orT (pe_dget hu (pv 0) (pv 2) (fun _ _ => rfl)) (pe_one (pe_lst pa_nil)))) (pg_tup rfl (pgs_cons (pg_name (i := 3) scWo.nd rfl (Or.inl rfl)) (pgs_cons (pg_name (i := 4) scWo.nd rfl (Or.inl rfl)) pgs_nil)))
          (pss_one (ps_set (i := 1) scWo.nd rfl (Or.inl rfl) (pe_op op_cat (pe_op op_cat (pv 1) (pv 4)) (pe_lc (own := [("_law_word", 5)]) (g := gName 5) rfl scWo.nd (pi_list (pe_lst (pa_cons (pv 3) pa_nil))) (blkOk_by (own := [("_law_word", 5)]) (N := NWo) (sc := defScope sWo) (by decide +kernel)) (fun _ _ _ _ _ => (pg_name (i := 5) scWo.nd rfl (Or.inl rfl))) (fun _ _ _ _ _ => (pts_one (pt_cmpR op_notN (pv 5) pe_non (nomark _)))) (fun _ _ _ _ _ => (pv 5)))))))))
      (pss_one (ps_ret (pe_callB (cr_srtM rfl) (by rfl) TA.bsorted (by decide +kernel) (pa_cons (pe_callTy (cr_setX rfl) (by rfl) TA.bset (by decide +kernel) (pa_cons (pe_lc (own := [("_law_word", 5)]) (g := gName 5) rfl scWo.nd (pi_list (pv 1)) (blkOk_by (own := [("_law_word", 5)]) (N := NWo) (sc := defScope sWo) (by decide +kernel)) (fun _ _ _ _ _ => (pg_name (i := 5) scWo.nd rfl (Or.inl rfl))) (fun _ _ _ _ _ => pts_nil) (fun _ _ _ _ _ => (pe_callTy SkE.call_str_str (by rfl) T.bstr (by decide +kernel) (pa_cons (pv 5) pa_nil)))) pa_nil)) pa_nil)))))), ?_⟩
    obtain ⟨gv, ag, b, hh, L, r, e, e1, e2, e3, e4, e5, e6⟩ := id hS.ex
    have z2000 : (2000 : Nat) < sizeLine := by decide
    obtain ⟨pool, hp, h6⟩ := ok.six
    have hsz := ok.size
    refine ⟨_, rfl, S, _, rfl, DGet.k (k := .inr "given") e, _, rfl, S, _, rfl, DGet.k (k := .inr "again") e, ag, _, rfl, .inl e2, fun kl hkl => ?_⟩
    have ek : (agK t.ag).map (fun kv => kV kv.1) = (t.ag.map (·.1)).map V.str := by
      unfold agK
      rw [List.map_map, List.map_map]
      rfl
    rw [ek]
    have s1 := Same.new (o := .lst ((t.ag.map (·.1)).map V.str)) hkl
    refine ⟨gv, kl, _, _, rfl, rfl, s1 _ _ e1, upd_same, by rw [List.length_map, List.length_map, List.length_map]; omega, fun N0 hN0 => ?_⟩
    rw [← List.map_append]
    have s2 := s1.trans (Same.new (o := .lst ((t.us ++ t.ag.map (·.1)).map V.str)) hN0)
    have g0 : (upd (upd H kl (.lst ((t.ag.map (·.1)).map V.str))) N0 (.lst ((t.us ++ t.ag.map (·.1)).map V.str))) N0 = _ := upd_same
    generalize (upd (upd H kl (.lst ((t.ag.map (·.1)).map V.str))) N0 (.lst ((t.us ++ t.ag.map (·.1)).map V.str))) = H2 at *
    refine ⟨_, rfl, S, _, rfl, DGet.k (k := .inr "results") (s2 _ _ e), N0, r, _, _, rfl, rfl, g0, s2 _ _ e6, by rw [List.length_map, List.length_map, List.length_append, List.length_map]; omega, fun N hN => ?_⟩
    rw [← List.map_append]
    have s3 := s2.trans (Same.new (o := .lst ((t.us ++ t.ag.map (·.1) ++ t.rs).map V.str)) hN)
    have gN : (upd H2 N (.lst ((t.us ++ t.ag.map (·.1) ++ t.rs).map V.str))) N = _ := upd_same
    generalize (upd H2 N (.lst ((t.us ++ t.ag.map (·.1) ++ t.rs).map V.str))) = H3 at *
    obtain ⟨bs, hbs⟩ : ∃ bs, bs = t.us ++ t.ag.map (·.1) ++ t.rs := ⟨_, rfl⟩
    rw [← hbs] at gN
    have lb : bs.length = t.us.length + t.ag.length + t.rs.length := by rw [hbs, List.length_append, List.length_append, List.length_map]
    refine ⟨rfl, fun o H4 s4 ho go => ⟨o, rfl, ⟨_, SqL.of go⟩, ?_⟩⟩
    have s5 := s3.trans s4
    have gN := s4 _ _ gN
    refine for_list (xs := partN.map V.str) (fun i σ H' => Same H4 H' ∧ ∃ (N : Addr) (fs : List Str) (x2 x3 x4 x5 : Option V), H' N = some (.lst (fs.map V.str)) ∧ (∀ y, y ∈ fs ↔ y ∈ bs ++ actsN (t.g.upto i)) ∧ fs.length ≤ bs.length + 4 * (t.g.upto i).length ∧ σ = [some (.ref S), some (.ref N), x2, x3, x4, x5])
      ⟨Same.refl H4, N, bs, _, _, _, _, gN, fun y => by show y ∈ bs ↔ y ∈ bs ++ []; rw [List.append_nil], Nat.le_add_right _ _, rfl⟩ (fun i σ H' _ z => SqL.of (z.1 _ _ go)) (fun i x σ H' hx ⟨s6, N, fs, x2, x3, x4, x5, gN, mm, lf, eσ⟩ => ?_) (fun σ H' ⟨s6, N, fs, x2, x3, x4, x5, gN, mm, lf, eσ⟩ => ?_)
    · subst eσ
      rw [List.getElem?_map] at hx
      obtain ⟨z, hz, rfl⟩ := Option.map_eq_some_iff.mp hx
      have i5 := (partF hz).1
      have up := uptoLe t.g i5
      obtain ⟨v, dg, pi⟩ := (hS.same (s5.trans s6)).part ok hz
      have pl := pi
      refine ⟨_, rfl, _, rfl, S, v, rfl, dg, pi.or fun L2 H7 s7 lots => ?_⟩
      obtain ⟨as, eas⟩ : ∃ as, as = (t.g.at i).getD [] := ⟨_, rfl⟩
      rw [← eas] at lots up
      have lot3 : ∀ a ∈ as, a.2.length ≤ 3 := fun a ha => by
        rw [eas] at ha
        revert pl ha
        cases t.g.at i with
        | none => intro _ h; cases h
        | some q => rintro ⟨_, _, _, _, lo⟩ h; exact (lo a h).few
      obtain ⟨ts, gT, lt⟩ := lots
      refine ⟨L2, rfl, ⟨_, SqL.of gT⟩, ?_⟩
      refine for_list (xs := ts.map V.ref) (fun j σ H' => Same H7 H' ∧ ∃ (N : Addr) (fs : List Str) (x3 x4 x5 : Option V), H' N = some (.lst (fs.map V.str)) ∧ (∀ y, y ∈ fs ↔ y ∈ bs ++ actsN (t.g.upto i ++ as.take j)) ∧ fs.length ≤ bs.length + 4 * ((t.g.upto i).length + j) ∧ σ = [some (.ref S), some (.ref N), some (.str z), x3, x4, x5])
        ⟨Same.refl H7, N, fs, _, _, _, s7 _ _ gN, fun y => by rw [List.take_zero, List.append_nil]; exact mm y, by omega, rfl⟩ (fun i σ H' _ z => SqL.of (z.1 _ _ gT)) (fun j x σ H8 hx ⟨s8, N, fs, x3, x4, x5, gN, mm, lf, eσ⟩ => ?_) (fun σ H8 ⟨s8, N, fs, x3, x4, x5, gN, mm, lf, eσ⟩ => ?_)
      · subst eσ
        rw [List.getElem?_map] at hx
        obtain ⟨t1, ht, rfl⟩ := Option.map_eq_some_iff.mp hx
        have hj : j < as.length := by rw [← lt.1]; exact (List.getElem?_eq_some_iff.mp ht).1
        obtain ⟨a, ha⟩ : ∃ a, as[j]? = some a := ⟨_, List.getElem?_eq_getElem hj⟩
        obtain ⟨u, g1, g2⟩ := lt.2 j t1 a ht ha
        have l3 := lot3 a (List.mem_of_getElem? ha)
        refine ⟨t1, _, rfl, SqT.of (s8 _ _ g1), rfl, _, _, rfl, _, _, rfl, rfl, ?_⟩
        refine ⟨_, rfl, _, rfl, N, u, _, _, rfl, rfl, gN, s8 _ _ g2, by rw [List.length_map, List.length_map]; omega, fun M hM => ?_⟩
        rw [← List.map_append]
        have s9 := s8.trans (Same.new (o := .lst ((fs ++ a.2).map V.str)) hM)
        have gM : (upd H8 M (.lst ((fs ++ a.2).map V.str))) M = _ := upd_same
        generalize (upd H8 M (.lst ((fs ++ a.2).map V.str))) = H9 at *
        refine lcOf ⟨_, rfl, by show 1 ≤ sizeLine; decide, fun q hq => ⟨q, rfl, ⟨_, SqL.of upd_same⟩, ?_⟩⟩
        have s10 := Same.new (o := .lst [mkV a.1]) hq
        refine madeL (mk := a.1) upd_same fun D H10 hD sD gD => ?_
        have s10 := s10.trans sD
        have lm : a.1.toList.length ≤ 1 := by cases a.1 <;> simp
        refine ⟨M, D, _, _, rfl, rfl, s10 _ _ gM, gD, by rw [List.length_map, List.length_map, List.length_append]; omega, fun M2 hM2 => ?_⟩
        rw [← List.map_append]
        refine ⟨(s9.trans s10).trans (Same.new hM2), M2, fs ++ a.2 ++ a.1.toList, _, _, _, upd_same, fun y => ?_, by rw [List.length_append, List.length_append]; omega, rfl⟩
        rw [getLast ha, ← List.append_assoc (t.g.upto i), List.append_assoc fs, List.mem_append, mm y, List.mem_append, List.mem_append, List.mem_append, actsN_snoc, mem_ns]
        have : y ∈ a.1.toList ↔ a.1 = some y := by cases a.1 <;> simp [eq_comm]
        rw [this]
        exact or_assoc
      · subst eσ
        rw [List.length_map, lt.1] at lf mm
        rw [List.take_length] at mm
        refine ⟨s6.trans (s7.trans s8), N, fs, _, _, _, _, gN, fun y => ?_, ?_, rfl⟩
        · rw [mm y, eas]
          exact Iff.rfl
        · show fs.length ≤ bs.length + 4 * (t.g.upto i ++ (t.g.at i).getD []).length
          rw [List.length_append, ← eas]
          exact lf
    · subst eσ
      have mm : ∀ y, y ∈ fs ↔ y ∈ t.words := fun y => by
        rw [mm y, hbs]
        exact Iff.rfl
      have lf : fs.length ≤ bs.length + 4 * t.g.acts.length := lf
      dsimp only
      refine retA (cb1 (cb1 (lcOf ?_)))
      refine ⟨_, rfl, N, rfl, ⟨_, SqL.of gN⟩, ?_⟩
      refine strL gN (by omega) fun D H7 hD sD gD => ?_
      refine ⟨D, fs, rfl, .inl (SqL.of gD), by omega, fun sa hsa => ?_⟩
      have s8 := sD.trans (Same.new (o := SetX w sa fs) hsa)
      refine ⟨sa, fs, rfl, upd_same, Nat.lt_of_le_of_lt (many_in fs pool fun z hz => hp z ((mm z).mp hz)) (by omega), fun ys p srt nd my hp2 => ?_⟩
      exact k ys p _ (((s5.trans s6).trans s8).trans (Same.new hp2)) upd_same ⟨srt, nd, fun y => (my y).trans (mm y)⟩
theorem ok_wa {f : Addr} {fd : FuncData} (F : Fun K "_law_wanted" "_law_wanted" sWa f fd) (T : TxtB mg) (cWo : C8.Cal P w K mg base 2 "_law_words_of" spWo []) (cIw : C8.Cal P w K mg base 1 "_law_is_wanted" spIw []) : FnOk P w K mg base CX0 3 f fd ["_law_site_here", "_law_deeds_here"] spWa := by
  refine F.ok scWa (fun vs H Q E h => ?_) (fun cdv A outer s H vs Q E hr h => ?_)
  · obtain ⟨S, L, t, as, rfl, _⟩ := h
    rfl
  · obtain ⟨S, L, t, as, rfl, hS, ok, a8, lots, hin, k⟩ := h
    have hu := hu_of hr
    refine ⟨_, (pss_cons (ps_set (i := 2) scWa.nd rfl (Or.inl rfl) (C8.pe_c cWo hr (by decide) rfl (pa_cons (pv 0) pa_nil)))
      (pss_one (ps_ret (pe_callTy call_tuple_of (by rfl) T.btuple (by decide +kernel) (pa_cons (pe_lc (own := [("_law_word", 3)]) (g := gName 3) rfl scWa.nd (pi_list (pv 2)) (blkOk_by (own := [("_law_word", 3)]) (N := NWa) (sc := defScope sWa) (by decide +kernel)) (fun _ _ _ _ _ => (pg_name (i := 3) scWa.nd rfl (Or.inl rfl))) (fun _ _ _ _ _ => (pts_one (pt_val (C8.pe_c cIw hr (by decide) rfl (pa_cons (pv 1) (pa_cons (pe_dget hu (pv 0) pe_str (fun _ _ => rfl)) (pa_cons (pv 3) pa_nil))))))) (fun _ _ _ _ _ => (pv 3))) pa_nil))))), ?_⟩
    obtain ⟨pool, hp, h6⟩ := ok.six
    refine ⟨_, rfl, S, t, rfl, hS, ok, a8, fun ns N H1 s1 gN asc => ?_⟩
    obtain ⟨gv, ag, b, hh, L0, r, e, e1, e2, e3, e4, e5, e6⟩ := (hS.same s1).ex
    have lots := lots.same s1
    have z1000 : (1000 : Nat) < sizeLine := by decide
    have lns : ns.length ≤ 6 := by
      rw [← many_of ns asc.2.1]
      exact Nat.le_trans (many_in ns pool fun z hz => hp z ((asc.2.2 z).mp hz)) h6
    refine ⟨_, rfl, N, rfl, ⟨_, SqL.of gN⟩, fun D hD => ?_⟩
    obtain ⟨fl, hfl⟩ : ∃ fl : Str → Bool, ∀ z, fl z = true ↔ Want (fun y => y ∈ t.rs) as z := ⟨fun z => @decide _ (Classical.propDecidable (Want (fun y => y ∈ t.rs) as z)), fun z => @decide_eq_true_iff _ (Classical.propDecidable _)⟩
    refine lc_list (xs := ns.map V.str) (fun j H' => Same H1 H' ∧ H' D = some (.lst (((ns.take j).filter fl).map V.str))) ⟨Same.new hD, upd_same⟩ (fun j H' _ z => SqL.of (z.1 _ _ gN)) ?_ ?_
    · rintro j y H4 hy ⟨sj, gD⟩
      rw [List.getElem?_map] at hy
      obtain ⟨z, hz, rfl⟩ := Option.map_eq_some_iff.mp hy
      refine ⟨rfl, ?_⟩
      refine ⟨_, rfl, _, rfl, S, _, rfl, DGet.k (k := .inr "results") (sj _ _ e), _, rfl, L, r, z, as, t.rs, rfl, lots.same sj, sj _ _ e6, fun bb hb => ⟨bb, rfl, ?_⟩⟩
      have eb : bb = fl z := by
        cases h1 : bb <;> cases h2 : fl z
        · rfl
        · rw [h1] at hb; exact absurd (hb.mpr ((hfl z).mp h2)) nofun
        · have := (hfl z).mpr (hb.mp h1)
          rw [h2] at this
          cases this
        · rfl
      rw [eb]
      cases hb : fl z with
      | false =>
        refine iteF ⟨sj, ?_⟩
        rw [takeSnoc hz, List.filter_append, List.filter_cons_of_neg (by rw [hb]; exact Bool.false_ne_true), List.filter_nil, List.append_nil]
        exact gD
      | true =>
        refine iteT ⟨_, rfl, _, gD, ?_, sameUpd sj hD, ?_⟩
        · rw [List.length_map]
          have := List.length_filter_le fl (ns.take j)
          rw [List.length_take] at this
          omega
        · rw [takeSnoc hz, List.filter_append, List.filter_cons_of_pos hb, List.filter_nil, List.map_append]
          exact upd_same
    · rintro H4 ⟨sj, gD⟩
      rw [List.length_map, List.take_length] at gD
      refine ⟨D, _, rfl, .inl ⟨SqL.of gD, fun q hq => ?_⟩⟩
      refine k q _ ((s1.trans sj).trans (Same.new hq)) ⟨ns.filter fl, upd_same, filt_asc asc.1, asc.2.1.sublist List.filter_sublist, fun z => ?_⟩
      rw [List.mem_filter, hfl z, asc.2.2 z]
      exact ⟨fun h => h.2, fun h => ⟨wantIn (pool := t.words) (fun y hy => by unfold Tol.words; simp [hy]) hin z h, h⟩⟩
end
end K33

set_option Elab.async false
set_option linter.all false
set_option maxRecDepth 100000
set_option maxHeartbeats 4000000
/-! What the law wants of programs with loops. -/
namespace K33
open PySem L2 NX NU
open PyProof.Rows (sortedS)
theorem PtI.same {H H' : Hp} {v : V} (s : Same H H') : ∀ {o : Option (List Act)}, PtI H v o → PtI H' v o
  | none, h => h
  | some _, ⟨L, e, l, a, b⟩ => ⟨L, e, l.same s, a, b⟩
theorem SiteG.same {H H' : Hp} {S : Addr} {t : Tol} (s : Same H H') (h : SiteG H S t) : SiteG H' S t := by
  obtain ⟨gv, ag, r, vl, vb, vx, vh, vL, e, e1, e2, e6, p1, p2, p3, p4, p5⟩ := h.ex
  exact ⟨gv, ag, r, vl, vb, vx, vh, vL, s _ _ e, s _ _ e1, s _ _ e2, s _ _ e6, p1.same s, p2.same s, p3.same s, p4.same s, p5.same s⟩
theorem SiteG.part {H : Hp} {S : Addr} {t : Tol} (h : SiteG H S t) (ok : t.Ok) {j : Nat} {z : Str} (hz : partN[j]? = some z) : ∃ v, DGet H S (.str z) (some v) ∧ PtI H v (t.g.at j) := by
  obtain ⟨gv, ag, r, vl, vb, vx, vh, vL, e, e1, e2, e6, p1, p2, p3, p4, p5⟩ := h.ex
  match j, hz with
  | 0, hz => cases hz; exact ⟨vL, DGet.k (k := .inr "ahead") e, p1⟩
  | 1, hz => cases hz; exact ⟨vl, DGet.k (k := .inr "loop") e, p2⟩
  | 2, hz => cases hz; exact ⟨vb, DGet.k (k := .inr "between") e, p3⟩
  | 3, hz => cases hz; exact ⟨vx, DGet.k (k := .inr "second") e, p4⟩
  | 4, hz => cases hz; exact ⟨vh, DGet.k (k := .inr "behind") e, p5⟩
  | n + 5, hz => cases hz
def spRlG (K : PySem.W.Frag) (d : D3) (C : Addr) : Sp := fun vs H Q _ => ∃ (S : Addr) (t : Tol), vs = [.ref S] ∧ SiteG H S t ∧ t.Ok ∧ ∀ x H', Same H H' → IsP K d H' x C t → Q (.ref x) H'
def spWoG : Sp := fun vs H Q _ => ∃ (S : Addr) (t : Tol), vs = [.ref S] ∧ SiteG H S t ∧ t.Ok ∧ ∀ (ns : List Str) p H', Same H H' → H' p = some (.lst (ns.map V.str)) → Asc ns t.words → Q (.ref p) H'
def spWaG : Sp := fun vs H Q _ => ∃ (S L : Addr) (t : Tol) (as : List Act), vs = [.ref S, .ref L] ∧ SiteG H S t ∧ t.Ok ∧ LotsAt H L as ∧ (∀ z ∈ actsN as, z ∈ t.words) ∧ ∀ q H', Same H H' → NmT H' q (Want (fun z => z ∈ t.rs) as) → Q (.ref q) H'
/-- some deeds, one behind another: what is used of what comes behind -/
theorem want_app {W : Str → Prop} : ∀ (as bs : List Act) z, Want W (as ++ bs) z ↔ Want (Want W bs) as z
  | [], bs, z => Iff.rfl
  | a :: r, bs, z => or_congr Iff.rfl (and_congr Iff.rfl (want_app r bs z))
/-- some deeds twice want no more than once -/
theorem want_idem {W : Str → Prop} (as : List Act) (z : Str) : Want (Want W as) as z ↔ Want W as z := by
  have two : ∀ (as : List Act), (∃ u m : Prop, ∀ W : Str → Prop, Want W as z ↔ u ∨ (m ∧ W z)) := by
    intro as
    induction as with
    | nil => exact ⟨False, True, fun W => ⟨fun h => .inr ⟨trivial, h⟩, fun h => h.elim False.elim And.right⟩⟩
    | cons a r ih =>
      obtain ⟨u, m, h⟩ := ih
      refine ⟨z ∈ a.2 ∨ (a.1 ≠ some z ∧ u), a.1 ≠ some z ∧ m, fun W => ?_⟩
      show z ∈ a.2 ∨ (a.1 ≠ some z ∧ Want W r z) ↔ _
      rw [h W]
      constructor
      · rintro (k | ⟨n, k | ⟨k, l⟩⟩)
        · exact .inl (.inl k)
        · exact .inl (.inr ⟨n, k⟩)
        · exact .inr ⟨⟨n, k⟩, l⟩
      · rintro ((k | ⟨n, k⟩) | ⟨⟨n, k⟩, l⟩)
        · exact .inl k
        · exact .inr ⟨n, .inl k⟩
        · exact .inr ⟨n, .inr ⟨k, l⟩⟩
  obtain ⟨u, m, h⟩ := two as
  rw [h (Want W as), h W]
  constructor
  · rintro (k | ⟨k, l | l⟩)
    · exact .inl k
    · exact .inl l
    · exact .inr l
  · rintro (k | ⟨k, l⟩)
    · exact .inl k
    · exact .inr ⟨k, .inr ⟨k, l⟩⟩
section
variable {P : Program} {w : World} {K : PySem.W.Frag} {mg : Str → Option Value} {base : Heap}
theorem ok_rlG {d : D3} {C fP : Addr} {fdP : FuncData} {t0 t1 t2 t3 t4 : Addr} {f : Addr} {fd : FuncData} (F : Fun K "_law_real" "_law_real" sRl f fd) (M : PM P w K mg base d C fP fdP t0 t1 t2 t3 t4) (cOr : C8.Cal P w K mg base 1 "_law_order" spOr []) (cRp : C8.Cal P w K mg base 8 "_law_real_part" (spRp K d) []) : FnOk P w K mg base CX0 9 f fd ["_law_site_here"] (spRlG K d C) := by
  refine F.ok scRl (fun vs H Q E h => ?_) (fun cdv A outer s H vs Q E hr h => ?_)
  · obtain ⟨S, t, rfl, _⟩ := h
    rfl
  · obtain ⟨S, t, rfl, hS, ok, k⟩ := h
    have hu := hu_of hr
    refine ⟨_, (pss_cons (ps_setLc (i := 1) (own := [("_law_part", 3)]) (g := gName 3) rfl scRl.nd rfl rfl (sw_true rfl rfl rfl (by decide +kernel)) (pi_list (pe_c0 cOr hr (by decide) rfl)) (blkOk_by (own := [("_law_part", 3)]) (N := NRl) (sc := defScope sRl) (by decide +kernel)) (fun _ _ _ _ _ => (pg_name (i := 3) scRl.nd rfl (Or.inl rfl))) (fun _ _ _ _ _ => pts_nil) (fun _ _ _ _ _ => (C8.pe_c cRp hr (by decide) rfl (pa_cons (pe_dget hu (pv 0) (pv 3) (fun _ _ => rfl)) pa_nil))))
      (pss_cons (ps_set (i := 2) scRl.nd rfl (Or.inl rfl) (pe_lst (pa_cons (pe_dget hu (pv 0) pe_str (fun _ _ => rfl)) (pa_cons (pe_dget hu (pv 0) pe_str (fun _ _ => rfl)) (pa_cons (pe_dget hu (pv 0) pe_str (fun _ _ => rfl)) pa_nil)))))
      (pss_one (ps_ret (pe_makeK (E := C8.E0) (ks := ["given", "again", "results"]) M.mak M.fn (hr.mono (by decide)) rfl M.g (kb6 M.fd_) pass0 (pa_cons (pe_ix ix_list (pv 1) pe_int (fun _ _ => rfl)) (pa_cons (pe_ix ix_list (pv 1) pe_int (fun _ _ => rfl)) (pa_cons (pe_ix ix_list (pv 1) pe_int (fun _ _ => rfl)) (pa_cons (pe_ix ix_list (pv 1) pe_int (fun _ _ => rfl)) (pa_cons (pe_ix ix_list (pv 1) pe_int (fun _ _ => rfl)) pa_nil))))) (pk_cons (pe_ix ix_list (pv 2) pe_int (fun _ _ => rfl)) (pk_cons (pe_ix ix_list (pv 2) pe_int (fun _ _ => rfl)) (pk_cons (pe_ix ix_list (pv 2) pe_int (fun _ _ => rfl)) pk_nil)))))))), ?_⟩
    refine ⟨rfl, fun o H1 s1 ho go => ?_⟩
    refine ⟨o, rfl, ⟨_, SqL.of go⟩, fun D hD => ?_⟩
    have hS1 := hS.same s1
    have n1 : o ≠ D := ne_of_none go hD
    refine lc_list (xs := partN.map V.str) (fun j H' => Same H1 H' ∧ ∃ vs : List V, H' D = some (.lst vs) ∧ vs.length = j ∧ ∀ i v, vs[i]? = some v → PL d H' D v (t.g.at i)) ⟨Same.new hD, [], upd_same, rfl, nofun⟩ (fun j H' _ z => SqL.of (z.1 _ _ go)) ?_ ?_
    · rintro j y H2 hy ⟨s2, vs, gD, lv, hv⟩
      rw [List.getElem?_map] at hy
      obtain ⟨z, hz, rfl⟩ := Option.map_eq_some_iff.mp hy
      have j5 := (partF hz).1
      obtain ⟨v, dg, pi⟩ := (hS1.same s2).part ok hz
      refine ⟨rfl, ?_⟩
      unfold tYes
      dsimp only
      rw [if_pos rfl]
      refine ⟨_, rfl, _, rfl, S, v, rfl, dg, v, _, rfl, pi, fun v' H3 s3 pr => ?_⟩
      have gD3 := s3 _ _ gD
      have B : But D H3 (upd H3 D (.lst (vs ++ [v']))) := fun b u e n => (upd_ne n).trans e
      refine ⟨_, gD3, by rw [lv]; exact Nat.lt_trans j5 (by decide), sameUpd (s2.trans s3) hD, vs ++ [v'], upd_same, by rw [List.length_append, lv]; rfl, fun i x e => ?_⟩
      by_cases hi : i < vs.length
      · rw [List.getElem?_append_left hi] at e
        exact ((hv i x e).but gD (But.same s3)).but gD3 B
      · obtain ⟨q, rfl⟩ : ∃ q, i = vs.length + q := ⟨i - vs.length, by omega⟩
        rw [List.getElem?_append_right (by omega), Nat.add_sub_cancel_left] at e
        cases q with
        | zero =>
          cases e
          rw [Nat.add_zero, lv]
          exact (pr.pl gD).but gD3 B
        | succ q => cases e
    · rintro H2 ⟨s2, vs, gD, lv, hv⟩
      have lv : vs.length = 5 := lv
      obtain ⟨v0, v1, v2, v3, v4, rfl⟩ : ∃ v0 v1 v2 v3 v4, vs = [v0, v1, v2, v3, v4] := by
        match vs, lv with
        | [v0, v1, v2, v3, v4], _ => exact ⟨v0, v1, v2, v3, v4, rfl⟩
      have hS2 := hS1.same s2
      have s2 := s1.trans s2
      obtain ⟨gv, ag, r, vl, vb, vx, vh, vL, e, e1, e2, e6, _⟩ := hS2.ex
      refine ⟨_, rfl, S, _, rfl, DGet.k (k := .inr "given") e, _, rfl, S, _, rfl, DGet.k (k := .inr "again") e, _, rfl, S, _, rfl, DGet.k (k := .inr "results") e, by show 3 ≤ sizeLine; decide, fun w hw => ?_⟩
      have s3 := Same.new (o := .lst [.ref gv, .ref ag, .ref r]) hw
      have gw : (upd H2 w (.lst [.ref gv, .ref ag, .ref r])) w = some (.lst [.ref gv, .ref ag, .ref r]) := upd_same
      have hv : ∀ i v, ([v0, v1, v2, v3, v4] : List V)[i]? = some v → InO K d _ v (t.g.at i) := fun i v e => ((hv i v e).but gD (But.same s3)).inO (K := K)
      have gD := s3 _ _ gD
      have e1 := s3 _ _ e1
      have e2 : AgD _ ag t.ag := s3 _ _ e2
      have e6 := s3 _ _ e6
      have s2 := s2.trans s3
      have P0 : InA K d _ v0 t.g.a := hv 0 v0 rfl
      have P1 : InO K d _ v1 t.g.l := hv 1 v1 rfl
      have P2 : InA K d _ v2 t.g.b := hv 2 v2 rfl
      have P3 : InO K d _ v3 t.g.s := hv 3 v3 rfl
      have P4 : InA K d _ v4 t.g.h := hv 4 v4 rfl
      clear hv
      generalize (upd H2 w (.lst [.ref gv, .ref ag, .ref r])) = H3 at *
      refine ⟨_, rfl, D, _, ((0 : Nat) : Int), _, rfl, rfl, SqL.of gD, atI_nat rfl, _, rfl, D, _, ((1 : Nat) : Int), _, rfl, rfl, SqL.of gD, atI_nat rfl, _, rfl, D, _, ((2 : Nat) : Int), _, rfl, rfl, SqL.of gD, atI_nat rfl, _, rfl, D, _, ((3 : Nat) : Int), _, rfl, rfl, SqL.of gD, atI_nat rfl, _, rfl, D, _, ((4 : Nat) : Int), _, rfl, rfl, SqL.of gD, atI_nat rfl, ?_⟩
      refine ⟨_, rfl, w, _, ((0 : Nat) : Int), _, rfl, rfl, SqL.of gw, atI_nat rfl, _, rfl, w, _, ((1 : Nat) : Int), _, rfl, rfl, SqL.of gw, atI_nat rfl, _, rfl, w, _, ((2 : Nat) : Int), _, rfl, rfl, SqL.of gw, atI_nat rfl, ?_⟩
      refine ⟨rfl, rfl, fun x dx h1 h2 h3 => ?_⟩
      have sm := made2 (C := C) h1 h2 h3
      exact ⟨x, C, dx, v0, v1, v2, v3, v4, .ref gv, .ref ag, .ref r, t, rfl, upd_same, M.cls, ⟨P0.same sm, P1.same sm, P2.same sm, P3.same sm, P4.same sm, ⟨gv, rfl, .inl (SqL.of (sm _ _ e1))⟩, .inr ⟨ag, rfl, sm _ _ e2⟩, ⟨r, rfl, .inl (SqL.of (sm _ _ e6))⟩⟩, ok, fun H' bt ip => ⟨rfl, k x H' (s2.trans fun b o e => bt b o (fun z => by rw [z, h1] at e; cases e) (sm _ _ e)) ip⟩⟩
theorem ok_woG {f : Addr} {fd : FuncData} (F : Fun K "_law_words_of" "_law_words_of" sWo f fd) (T : TxtB mg) (TA : TxtA mg) (cOr : C8.Cal P w K mg base 1 "_law_order" spOr []) : FnOk P w K mg base CX0 2 f fd ["_law_site_here"] spWoG := by
  refine F.ok scWo (fun vs H Q E h => ?_) (fun cdv A outer s H vs Q E hr h => ?_)
  · obtain ⟨S, t, rfl, _⟩ := h
    rfl
  · obtain ⟨S, t, rfl, hS, ok, k⟩ := h
    have hu := hu_of hr
    refine ⟨_, (pss_cons (ps_set (i := 1) scWo.nd rfl (Or.inl rfl) (pe_op op_cat (pe_op op_cat (pe_dget hu (pv 0) pe_str (fun _ _ => rfl)) (pe_callTy (call_listD rfl) (by rfl) T.blist (by decide +kernel) (pa_cons (pe_dget hu (pv 0) pe_str (fun _ _ => rfl)) pa_nil))) (pe_dget hu (pv 0) pe_str (fun _ _ => rfl))))
      (pss_cons (ps_for PassesOwn.never rfl (pi_list (pe_c0 cOr hr (by decide) rfl)) (pg_name (i := 2) scWo.nd rfl (Or.inl rfl))
        (pss_one (ps_for PassesOwn.never rfl (pi_list (pe_orT (pe_dget hu (pv 0) (pv 2) (fun _ _ => rfl)) (pe_one (pe_lst pa_nil)))) (pg_tup rfl (pgs_cons (pg_name (i := 3) scWo.nd rfl (Or.inl rfl)) (pgs_cons (pg_name (i := 4) scWo.nd rfl (Or.inl rfl)) pgs_nil)))
          (pss_one (ps_set (i := 1) scWo.nd rfl (Or.inl rfl) (pe_op op_cat (pe_op op_cat (pv 1) (pv 4)) (pe_lc (own := [("_law_word", 5)]) (g := gName 5) rfl scWo.nd (pi_list (pe_lst (pa_cons (pv 3) pa_nil))) (blkOk_by (own := [("_law_word", 5)]) (N := NWo) (sc := defScope sWo) (by decide +kernel)) (fun _ _ _ _ _ => (pg_name (i := 5) scWo.nd rfl (Or.inl rfl))) (fun _ _ _ _ _ => (pts_one (pt_cmpR op_notN (pv 5) pe_non (nomark _)))) (fun _ _ _ _ _ => (pv 5)))))))))
      (pss_one (ps_ret (pe_callB (cr_srtM rfl) (by rfl) TA.bsorted (by decide +kernel) (pa_cons (pe_callTy (cr_setX rfl) (by rfl) TA.bset (by decide +kernel) (pa_cons (pe_lc (own := [("_law_word", 5)]) (g := gName 5) rfl scWo.nd (pi_list (pv 1)) (blkOk_by (own := [("_law_word", 5)]) (N := NWo) (sc := defScope sWo) (by decide +kernel)) (fun _ _ _ _ _ => (pg_name (i := 5) scWo.nd rfl (Or.inl rfl))) (fun _ _ _ _ _ => pts_nil) (fun _ _ _ _ _ => (pe_callTy SkE.call_str_str (by rfl) T.bstr (by decide +kernel) (pa_cons (pv 5) pa_nil)))) pa_nil)) pa_nil)))))), ?_⟩
    obtain ⟨gv, ag, r, vl, vb, vx, vh, vL, e, e1, e2, e6, _⟩ := id hS.ex
    have z2000 : (2000 : Nat) < sizeLine := by decide
    obtain ⟨pool, hp, h6⟩ := ok.six
    have hsz := ok.size
    refine ⟨_, rfl, S, _, rfl, DGet.k (k := .inr "given") e, _, rfl, S, _, rfl, DGet.k (k := .inr "again") e, ag, _, rfl, .inl e2, fun kl hkl => ?_⟩
    have ek : (agK t.ag).map (fun kv => kV kv.1) = (t.ag.map (·.1)).map V.str := by
      unfold agK
      rw [List.map_map, List.map_map]
      rfl
    rw [ek]
    have s1 := Same.new (o := .lst ((t.ag.map (·.1)).map V.str)) hkl
    refine ⟨gv, kl, _, _, rfl, rfl, s1 _ _ e1, upd_same, by rw [List.length_map, List.length_map, List.length_map]; omega, fun N0 hN0 => ?_⟩
    rw [← List.map_append]
    have s2 := s1.trans (Same.new (o := .lst ((t.us ++ t.ag.map (·.1)).map V.str)) hN0)
    have g0 : (upd (upd H kl (.lst ((t.ag.map (·.1)).map V.str))) N0 (.lst ((t.us ++ t.ag.map (·.1)).map V.str))) N0 = _ := upd_same
    generalize (upd (upd H kl (.lst ((t.ag.map (·.1)).map V.str))) N0 (.lst ((t.us ++ t.ag.map (·.1)).map V.str))) = H2 at *
    refine ⟨_, rfl, S, _, rfl, DGet.k (k := .inr "results") (s2 _ _ e), N0, r, _, _, rfl, rfl, g0, s2 _ _ e6, by rw [List.length_map, List.length_map, List.length_append, List.length_map]; omega, fun N hN => ?_⟩
    rw [← List.map_append]
    have s3 := s2.trans (Same.new (o := .lst ((t.us ++ t.ag.map (·.1) ++ t.rs).map V.str)) hN)
    have gN : (upd H2 N (.lst ((t.us ++ t.ag.map (·.1) ++ t.rs).map V.str))) N = _ := upd_same
    generalize (upd H2 N (.lst ((t.us ++ t.ag.map (·.1) ++ t.rs).map V.str))) = H3 at *
    obtain ⟨bs, hbs⟩ : ∃ bs, bs = t.us ++ t.ag.map (·.1) ++ t.rs := ⟨_, rfl⟩
    rw [← hbs] at gN
    have lb : bs.length = t.us.length + t.ag.length + t.rs.length := by rw [hbs, List.length_append, List.length_append, List.length_map]
    refine ⟨rfl, fun o H4 s4 ho go => ⟨o, rfl, ⟨_, SqL.of go⟩, ?_⟩⟩
    have s5 := s3.trans s4
    have gN := s4 _ _ gN
    refine for_list (xs := partN.map V.str) (fun i σ H' => Same H4 H' ∧ ∃ (N : Addr) (fs : List Str) (x2 x3 x4 x5 : Option V), H' N = some (.lst (fs.map V.str)) ∧ (∀ y, y ∈ fs ↔ y ∈ bs ++ actsN (t.g.upto i)) ∧ fs.length ≤ bs.length + 4 * (t.g.upto i).length ∧ σ = [some (.ref S), some (.ref N), x2, x3, x4, x5])
      ⟨Same.refl H4, N, bs, _, _, _, _, gN, fun y => by show y ∈ bs ↔ y ∈ bs ++ []; rw [List.append_nil], Nat.le_add_right _ _, rfl⟩ (fun i σ H' _ z => SqL.of (z.1 _ _ go)) (fun i x σ H' hx ⟨s6, N, fs, x2, x3, x4, x5, gN, mm, lf, eσ⟩ => ?_) (fun σ H' ⟨s6, N, fs, x2, x3, x4, x5, gN, mm, lf, eσ⟩ => ?_)
    · subst eσ
      rw [List.getElem?_map] at hx
      obtain ⟨z, hz, rfl⟩ := Option.map_eq_some_iff.mp hx
      have i5 := (partF hz).1
      have up := uptoLe t.g i5
      obtain ⟨v, dg, pi⟩ := (hS.same (s5.trans s6)).part ok hz
      have pl := pi
      refine ⟨_, rfl, _, rfl, S, v, rfl, dg, pi.or fun L2 H7 s7 lots => ?_⟩
      obtain ⟨as, eas⟩ : ∃ as, as = (t.g.at i).getD [] := ⟨_, rfl⟩
      rw [← eas] at lots up
      have lot3 : ∀ a ∈ as, a.2.length ≤ 3 := fun a ha => by
        rw [eas] at ha
        revert pl ha
        cases t.g.at i with
        | none => intro _ h; cases h
        | some q => rintro ⟨_, _, _, _, lo⟩ h; exact (lo a h).few
      obtain ⟨ts, gT, lt⟩ := lots
      refine ⟨L2, rfl, ⟨_, SqL.of gT⟩, ?_⟩
      refine for_list (xs := ts.map V.ref) (fun j σ H' => Same H7 H' ∧ ∃ (N : Addr) (fs : List Str) (x3 x4 x5 : Option V), H' N = some (.lst (fs.map V.str)) ∧ (∀ y, y ∈ fs ↔ y ∈ bs ++ actsN (t.g.upto i ++ as.take j)) ∧ fs.length ≤ bs.length + 4 * ((t.g.upto i).length + j) ∧ σ = [some (.ref S), some (.ref N), some (.str z), x3, x4, x5])
        ⟨Same.refl H7, N, fs, _, _, _, s7 _ _ gN, fun y => by rw [List.take_zero, List.append_nil]; exact mm y, by omega, rfl⟩ (fun i σ H' _ z => SqL.of (z.1 _ _ gT)) (fun j x σ H8 hx ⟨s8, N, fs, x3, x4, x5, gN, mm, lf, eσ⟩ => ?_) (fun σ H8 ⟨s8, N, fs, x3, x4, x5, gN, mm, lf, eσ⟩ => ?_)
      · subst eσ
        rw [List.getElem?_map] at hx
        obtain ⟨t1, ht, rfl⟩ := Option.map_eq_some_iff.mp hx
        have hj : j < as.length := by rw [← lt.1]; exact (List.getElem?_eq_some_iff.mp ht).1
        obtain ⟨a, ha⟩ : ∃ a, as[j]? = some a := ⟨_, List.getElem?_eq_getElem hj⟩
        obtain ⟨u, g1, g2⟩ := lt.2 j t1 a ht ha
        have l3 := lot3 a (List.mem_of_getElem? ha)
        refine ⟨t1, _, rfl, SqT.of (s8 _ _ g1), rfl, _, _, rfl, _, _, rfl, rfl, ?_⟩
        refine ⟨_, rfl, _, rfl, N, u, _, _, rfl, rfl, gN, s8 _ _ g2, by rw [List.length_map, List.length_map]; omega, fun M hM => ?_⟩
        rw [← List.map_append]
        have s9 := s8.trans (Same.new (o := .lst ((fs ++ a.2).map V.str)) hM)
        have gM : (upd H8 M (.lst ((fs ++ a.2).map V.str))) M = _ := upd_same
        generalize (upd H8 M (.lst ((fs ++ a.2).map V.str))) = H9 at *
        refine lcOf ⟨_, rfl, by show 1 ≤ sizeLine; decide, fun q hq => ⟨q, rfl, ⟨_, SqL.of upd_same⟩, ?_⟩⟩
        have s10 := Same.new (o := .lst [mkV a.1]) hq
        refine madeL (mk := a.1) upd_same fun D H10 hD sD gD => ?_
        have s10 := s10.trans sD
        have lm : a.1.toList.length ≤ 1 := by cases a.1 <;> simp
        refine ⟨M, D, _, _, rfl, rfl, s10 _ _ gM, gD, by rw [List.length_map, List.length_map, List.length_append]; omega, fun M2 hM2 => ?_⟩
        rw [← List.map_append]
        refine ⟨(s9.trans s10).trans (Same.new hM2), M2, fs ++ a.2 ++ a.1.toList, _, _, _, upd_same, fun y => ?_, by rw [List.length_append, List.length_append]; omega, rfl⟩
        rw [getLast ha, ← List.append_assoc (t.g.upto i), List.append_assoc fs, List.mem_append, mm y, List.mem_append, List.mem_append, List.mem_append, actsN_snoc, mem_ns]
        have : y ∈ a.1.toList ↔ a.1 = some y := by cases a.1 <;> simp [eq_comm]
        rw [this]
        exact or_assoc
      · subst eσ
        rw [List.length_map, lt.1] at lf mm
        rw [List.take_length] at mm
        refine ⟨s6.trans (s7.trans s8), N, fs, _, _, _, _, gN, fun y => ?_, ?_, rfl⟩
        · rw [mm y, eas]
          exact Iff.rfl
        · show fs.length ≤ bs.length + 4 * (t.g.upto i ++ (t.g.at i).getD []).length
          rw [List.length_append, ← eas]
          exact lf
    · subst eσ
      have mm : ∀ y, y ∈ fs ↔ y ∈ t.words := fun y => by
        rw [mm y, hbs]
        exact Iff.rfl
      have lf : fs.length ≤ bs.length + 4 * t.g.acts.length := lf
      dsimp only
      refine retA (cb1 (cb1 (lcOf ?_)))
      refine ⟨_, rfl, N, rfl, ⟨_, SqL.of gN⟩, ?_⟩
      refine strL gN (by omega) fun D H7 hD sD gD => ?_
      refine ⟨D, fs, rfl, .inl (SqL.of gD), by omega, fun sa hsa => ?_⟩
      have s8 := sD.trans (Same.new (o := SetX w sa fs) hsa)
      refine ⟨sa, fs, rfl, upd_same, Nat.lt_of_le_of_lt (many_in fs pool fun z hz => hp z ((mm z).mp hz)) (by omega), fun ys p srt nd my hp2 => ?_⟩
      exact k ys p _ (((s5.trans s6).trans s8).trans (Same.new hp2)) upd_same ⟨srt, nd, fun y => (my y).trans (mm y)⟩
theorem ok_waG {f : Addr} {fd : FuncData} (F : Fun K "_law_wanted" "_law_wanted" sWa f fd) (T : TxtB mg) (cWo : C8.Cal P w K mg base 2 "_law_words_of" spWoG []) (cIw : C8.Cal P w K mg base 1 "_law_is_wanted" spIw []) : FnOk P w K mg base CX0 3 f fd ["_law_site_here", "_law_deeds_here"] spWaG := by
  refine F.ok scWa (fun vs H Q E h => ?_) (fun cdv A outer s H vs Q E hr h => ?_)
  · obtain ⟨S, L, t, as, rfl, _⟩ := h
    rfl
  · obtain ⟨S, L, t, as, rfl, hS, ok, lots, hin, k⟩ := h
    have hu := hu_of hr
    refine ⟨_, (pss_cons (ps_set (i := 2) scWa.nd rfl (Or.inl rfl) (C8.pe_c cWo hr (by decide) rfl (pa_cons (pv 0) pa_nil)))
      (pss_one (ps_ret (pe_callTy call_tuple_of (by rfl) T.btuple (by decide +kernel) (pa_cons (pe_lc (own := [("_law_word", 3)]) (g := gName 3) rfl scWa.nd (pi_list (pv 2)) (blkOk_by (own := [("_law_word", 3)]) (N := NWa) (sc := defScope sWa) (by decide +kernel)) (fun _ _ _ _ _ => (pg_name (i := 3) scWa.nd rfl (Or.inl rfl))) (fun _ _ _ _ _ => (pts_one (pt_val (C8.pe_c cIw hr (by decide) rfl (pa_cons (pv 1) (pa_cons (pe_dget hu (pv 0) pe_str (fun _ _ => rfl)) (pa_cons (pv 3) pa_nil))))))) (fun _ _ _ _ _ => (pv 3))) pa_nil))))), ?_⟩
    obtain ⟨pool, hp, h6⟩ := ok.six
    refine ⟨_, rfl, S, t, rfl, hS, ok, fun ns N H1 s1 gN asc => ?_⟩
    obtain ⟨gv, ag, r, vl, vb, vx, vh, vL, e, e1, e2, e6, _⟩ := (hS.same s1).ex
    have lots := lots.same s1
    have z1000 : (1000 : Nat) < sizeLine := by decide
    have lns : ns.length ≤ 6 := by
      rw [← many_of ns asc.2.1]
      exact Nat.le_trans (many_in ns pool fun z hz => hp z ((asc.2.2 z).mp hz)) h6
    refine ⟨_, rfl, N, rfl, ⟨_, SqL.of gN⟩, fun D hD => ?_⟩
    obtain ⟨fl, hfl⟩ : ∃ fl : Str → Bool, ∀ z, fl z = true ↔ Want (fun y => y ∈ t.rs) as z := ⟨fun z => @decide _ (Classical.propDecidable (Want (fun y => y ∈ t.rs) as z)), fun z => @decide_eq_true_iff _ (Classical.propDecidable _)⟩
    refine lc_list (xs := ns.map V.str) (fun j H' => Same H1 H' ∧ H' D = some (.lst (((ns.take j).filter fl).map V.str))) ⟨Same.new hD, upd_same⟩ (fun j H' _ z => SqL.of (z.1 _ _ gN)) ?_ ?_
    · rintro j y H4 hy ⟨sj, gD⟩
      rw [List.getElem?_map] at hy
      obtain ⟨z, hz, rfl⟩ := Option.map_eq_some_iff.mp hy
      refine ⟨rfl, ?_⟩
      refine ⟨_, rfl, _, rfl, S, _, rfl, DGet.k (k := .inr "results") (sj _ _ e), _, rfl, L, r, z, as, t.rs, rfl, lots.same sj, sj _ _ e6, fun bb hb => ⟨bb, rfl, ?_⟩⟩
      have eb : bb = fl z := by
        cases h1 : bb <;> cases h2 : fl z
        · rfl
        · rw [h1] at hb; exact absurd (hb.mpr ((hfl z).mp h2)) nofun
        · have := (hfl z).mpr (hb.mp h1)
          rw [h2] at this
          cases this
        · rfl
      rw [eb]
      cases hb : fl z with
      | false =>
        refine iteF ⟨sj, ?_⟩
        rw [takeSnoc hz, List.filter_append, List.filter_cons_of_neg (by rw [hb]; exact Bool.false_ne_true), List.filter_nil, List.append_nil]
        exact gD
      | true =>
        refine iteT ⟨_, rfl, _, gD, ?_, sameUpd sj hD, ?_⟩
        · rw [List.length_map]
          have := List.length_filter_le fl (ns.take j)
          rw [List.length_take] at this
          omega
        · rw [takeSnoc hz, List.filter_append, List.filter_cons_of_pos hb, List.filter_nil, List.map_append]
          exact upd_same
    · rintro H4 ⟨sj, gD⟩
      rw [List.length_map, List.take_length] at gD
      refine ⟨D, _, rfl, .inl ⟨SqL.of gD, fun q hq => ?_⟩⟩
      refine k q _ ((s1.trans sj).trans (Same.new hq)) ⟨ns.filter fl, upd_same, filt_asc asc.1, asc.2.1.sublist List.filter_sublist, fun z => ?_⟩
      rw [List.mem_filter, hfl z, asc.2.2 z]
      exact ⟨fun h => h.2, fun h => ⟨wantIn (pool := t.words) (fun y hy => by unfold Tol.words; simp [hy]) hin z h, h⟩⟩
end
end K33

set_option Elab.async false
set_option linter.all false
set_option maxRecDepth 100000
set_option maxHeartbeats 4000000
/-! The text that repr tells of made data of any kind; what is kept of data while objects are made and tables grow. -/
namespace NX
open PySem PySem.Spec PyProof.Rows L2 LamX
section
variable {X : Cx}
/-- repr(x), x any made data -/
def rReprD (K : PySem.W.Frag) : List V → Hp → VK → Prop := fun xs H Q => ∃ (v : V) (d : PyData), xs = [v] ∧ Dr K H v d ∧ d.showable = true ∧ d.depth ≤ 50 ∧ d.shown.length ≤ sizeLine ∧ (∀ i, d = .int i → i.natAbs.log2 < 1920) ∧ Q (.str d.shown) H
theorem call_reprD (hg : X.A.guards = some []) (hu : X.A.units + 64 < cLine) (S : SysB X.base) : CallR X (.builtin "repr") (rReprD X.K) := by
  intro pins s σ H xs us Q I r h
  obtain ⟨v, d, rfl, hd, hs, hdp, hl, hi, q⟩ := h
  cases hd with
  | non =>
    cases r with
    | cons r1 r2 =>
      cases r2
      cases r1
      exact PySem.P.repr_of_none ⟨.str _, H, I.tok _, ⟨_, rfl⟩, q⟩
  | bl b =>
    cases r with
    | cons r1 r2 =>
      cases r2
      cases r1
      exact PySem.P.repr_of_bool ⟨.str _, H, I.tok _, ⟨_, rfl⟩, q⟩
  | int i =>
    cases r with
    | cons r1 r2 =>
      cases r2
      obtain ⟨t, rfl⟩ := r1
      exact PySem.P.repr_of_int (hi i rfl) ⟨.str _, H, I.tok _, ⟨_, rfl⟩, q⟩
  | str x =>
    cases r with
    | cons r1 r2 =>
      cases r2
      obtain ⟨t, rfl⟩ := r1
      exact PySem.P.repr_of_str ⟨.str _, H, I.tok _, ⟨_, rfl⟩, q⟩ hl
  | lst a b => exact call_repr hg hu S pins s σ H _ us Q I r ⟨_, _, rfl, .lst a b, hs, hdp, hl, q⟩
  | tup a b => exact call_repr hg hu S pins s σ H _ us Q I r ⟨_, _, rfl, .tup a b, hs, hdp, hl, q⟩
  | dct a b => exact call_repr hg hu S pins s σ H _ us Q I r ⟨_, _, rfl, .dct a b, hs, hdp, hl, q⟩
end
theorem seqL_keep {K : PySem.W.Frag} {H H' : Hp} {a : Addr} {xs : List V} (k : ∀ o, H a = some o → (∀ ps, o ≠ .tbl ps) → H' a = some o) (h : SqL K H a xs) : SqL K H' a xs := by
  rcases h with (h | ⟨o, h⟩) | h
  · exact .inl (.inl (k _ h (by intro p e; cases e)))
  · exact .inl (.inr ⟨o, k _ h (by intro p e; cases e)⟩)
  · exact .inr h
theorem seqT_keep {K : PySem.W.Frag} {H H' : Hp} {a : Addr} {xs : List V} (k : ∀ o, H a = some o → (∀ ps, o ≠ .tbl ps) → H' a = some o) (h : SqT K H a xs) : SqT K H' a xs := by
  rcases h with (h | ⟨o, h⟩) | h
  · exact .inl (.inl (k _ h (by intro p e; cases e)))
  · exact .inl (.inr ⟨o, k _ h (by intro p e; cases e)⟩)
  · exact .inr h
mutual
theorem Dr.extN {K : PySem.W.Frag} {H H' : Hp} (s : ExtN H H') : ∀ {v : V} {d : PyData}, Dr K H v d → Dr K H' v d
  | _, _, .non => .non
  | _, _, .bl b => .bl b
  | _, _, .int i => .int i
  | _, _, .str x => .str x
  | _, _, .lst a b => .lst (seqL_keep (s _) a) (DrAll.extN s b)
  | _, _, .tup a b => .tup (seqT_keep (s _) a) (DrAll.extN s b)
  | _, _, .dct a b => .dct (s _ _ a (by intro p e; cases e)) (DrAll.extN s b)
theorem DrAll.extN {K : PySem.W.Frag} {H H' : Hp} (s : ExtN H H') : ∀ {v : List V} {d : List PyData}, DrAll K H v d → DrAll K H' v d
  | _, _, .nil => .nil
  | _, _, .cons a b => .cons (Dr.extN s a) (DrAll.extN s b)
end
/-- data whose text is short -/
def SmD (K : PySem.W.Frag) (H : Hp) (v : V) (d : PyData) : Prop := Dr K H v d ∧ d.showable = true ∧ d.depth ≤ 3 ∧ d.shown.length ≤ 100000 ∧ ∀ i, d = .int i → i.natAbs.log2 < 1920
theorem SmD.ext {K : PySem.W.Frag} {H H' : Hp} {v : V} {d : PyData} (s : ExtN H H') (h : SmD K H v d) : SmD K H' v d := ⟨h.1.extN s, h.2⟩
theorem SmD.same {K : PySem.W.Frag} {H H' : Hp} {v : V} {d : PyData} (s : Same H H') (h : SmD K H v d) : SmD K H' v d := h.ext (ExtN.of s)
/-- what repr asks of it -/
theorem SmD.ask {K : PySem.W.Frag} {H : Hp} {v : V} {d : PyData} {Q : VK} (h : SmD K H v d) (q : Q (.str d.shown) H) : rReprD K [v] H Q :=
  ⟨v, d, rfl, h.1, h.2.1, Nat.le_trans h.2.2.1 (by decide), Nat.le_trans h.2.2.2.1 (by decide), h.2.2.2.2, q⟩
/-- a pair of a short word and such -/
theorem SmD.pair {K : PySem.W.Frag} {H : Hp} {v : V} {d : PyData} {z : Str} {a : Addr} {Q : VK} (h : SmD K H v d) (hz : z.length ≤ 100) (hc : z.cps.toList.all (fun c => decide (c < 1114112)) = true) (ha : H a = some (.tup [.str z, v])) (q : Q (.str (PyData.tuple [.str z, d]).shown) H) : rReprD K [.ref a] H Q := by
  obtain ⟨h1, h2, h3, h4, _⟩ := h
  have hr : (reprText z).length ≤ 10 * z.length + 2 := StrLaws.reprText_len z (by rw [List.all_eq_true] at hc; exact fun i hi => Nat.lt_trans (of_decide_eq_true (hc i hi)) (by decide))
  refine ⟨_, _, rfl, .tup (SqT.of ha) (.cons (.str z) (.cons h1 .nil)), ?_, ?_, ?_, (fun i e => by cases e), q⟩
  · have e : (PyData.tuple [.str z, d]).showable = ((PyData.str z).showable && (d.showable && true)) := rfl
    rw [e, h2]
    rfl
  · have e : (PyData.tuple [.str z, d]).depth = max 0 (max d.depth 0) + 1 := rfl
    rw [e]
    omega
  · show (Str.ofString "(" ++ (reprText z ++ Str.ofString ", " ++ d.shown) ++ Str.ofString ")").length ≤ sizeLine
    repeat rw [Str.length_append]
    have a : (Str.ofString "(").length = 1 := by decide +kernel
    have b : (Str.ofString ", ").length = 2 := by decide +kernel
    have c : (Str.ofString ")").length = 1 := by decide +kernel
    exact Nat.le_trans (by omega : _ ≤ 300000) (by decide)
end NX

set_option Elab.async false
set_option linter.all false
set_option maxRecDepth 100000
set_option maxHeartbeats 4000000
/-! How long the texts of lists and tuples are. -/
namespace NX
open PySem PySem.Spec PyProof.Rows L2
theorem joinS_le (p : Str) : ∀ ts : List Str, (Str.join p ts).length ≤ (ts.map (·.length)).sum + ts.length * p.length
  | [] => by
    show (Str.empty : Str).length ≤ _
    have e0 : (Str.empty : Str).length = 0 := by decide +kernel
    omega
  | [x] => by
    show x.length ≤ _
    simp only [List.map_cons, List.map_nil, List.sum_cons, List.sum_nil, List.length_cons, List.length_nil]
    omega
  | x :: y :: r => by
    have h := joinS_le p (y :: r)
    show (x ++ p ++ Str.join p (y :: r)).length ≤ _
    rw [Str.length_append, Str.length_append]
    simp only [List.map_cons, List.sum_cons, List.length_cons] at h ⊢
    have e : (r.length + 1 + 1) * p.length = (r.length + 1) * p.length + p.length := Nat.succ_mul _ _
    omega
theorem tupleText_le (ts : List Str) : (tupleText ts).length ≤ (ts.map (·.length)).sum + 2 * ts.length + 3 := by
  have h := joinS_le (Str.ofString ", ") ts
  have e2 : (Str.ofString ", ").length = 2 := by decide +kernel
  have e1 : (Str.ofString "(").length = 1 := by decide +kernel
  have e3 : (Str.ofString ",)").length = 2 := by decide +kernel
  have e4 : (Str.ofString ")").length = 1 := by decide +kernel
  rw [e2] at h
  show (Str.ofString "(" ++ Str.join (Str.ofString ", ") ts ++ Str.ofString (if ts.length == 1 then ",)" else ")")).length ≤ _
  rw [Str.length_append, Str.length_append]
  split <;> omega
end NX

set_option Elab.async false
set_option linter.all false
set_option maxRecDepth 100000
set_option maxHeartbeats 4000000
/-! The law: what it needs. -/
namespace K33
open PySem L2 NX NU LamX
open PyProof.Rows (sortedS)
theorem repr_le {z : Str} (h : ∀ ch ∈ z.cps.toList, ch < 256) (k : z.length ≤ 100) : (reprText z).length ≤ 1100 := by
  have r := PySem.StrLaws.reprText_len z (fun c hc => Nat.lt_trans (h c hc) (by decide))
  exact Nat.le_trans r (by omega)
theorem showTup : ∀ us : List Str, PyData.showableAll (us.map PyData.str) = true
  | [] => rfl
  | a :: r => by
    have h := showTup r
    show (true && PyData.showableAll (r.map PyData.str)) = true
    rw [h]
    rfl
theorem sumTup : ∀ {us : List Str}, (∀ z ∈ us, nm z = true) → ((PyData.shownAll (us.map PyData.str)).map (·.length)).sum ≤ 1100 * us.length ∧ (PyData.shownAll (us.map PyData.str)).length = us.length
  | [], _ => ⟨by decide, rfl⟩
  | a :: r, h => by
    obtain ⟨h1, h2⟩ := sumTup (us := r) fun z hz => h z (List.mem_cons_of_mem _ hz)
    have ha := h a List.mem_cons_self
    have h3 := repr_le (nm_okS ha) (by have := nm_le ha; omega)
    have e : PyData.shownAll ((a :: r).map PyData.str) = reprText a :: PyData.shownAll (r.map PyData.str) := rfl
    rw [e]
    simp only [List.map_cons, List.sum_cons, List.length_cons]
    exact ⟨by omega, by omega⟩
theorem tupShown {us : List Str} (h : ∀ z ∈ us, nm z = true) : (PyData.tuple (us.map PyData.str)).shown.length ≤ 1102 * us.length + 3 := by
  have l := NX.tupleText_le (PyData.shownAll (us.map PyData.str))
  obtain ⟨h1, h2⟩ := sumTup h
  rw [h2] at l
  exact Nat.le_trans l (by omega)
theorem drTup {K : PySem.W.Frag} {H : Hp} : ∀ us : List Str, DrAll K H (us.map V.str) (us.map PyData.str)
  | [] => .nil
  | a :: r => .cons (.str _) (drTup r)
/-- tuples in a list, as data -/
def tupsD (ds : List (List Str)) : PyData := .list (ds.map fun us => .tuple (us.map PyData.str))
theorem canL : ∀ {ds : List (List Str)}, (∀ us ∈ ds, ∀ z ∈ us, nm z = true) → PyData.canLayAll0 (ds.map fun us => PyData.tuple (us.map PyData.str)) = true
  | [], _ => rfl
  | a :: r, h => by
    have h1 := canTup (h a List.mem_cons_self)
    have h2 := canL (ds := r) fun us hz => h us (List.mem_cons_of_mem _ hz)
    show (PyData.canLayAll0 (a.map PyData.str) && PyData.canLayAll0 (r.map fun us => PyData.tuple (us.map PyData.str))) = true
    rw [h1, h2]
    rfl
theorem depL : ∀ ds : List (List Str), PyData.depthAll (ds.map fun us => PyData.tuple (us.map PyData.str)) ≤ 2
  | [] => by decide
  | a :: r => by
    have h := depL r
    have h2 := depTup a
    show max _ _ ≤ 2
    exact Nat.max_le.mpr ⟨by show PyData.depthAll (a.map PyData.str) + 1 ≤ 2; omega, h⟩
theorem shapedL {ds : List (List Str)} (h : ∀ us ∈ ds, ∀ z ∈ us, nm z = true) : SeqAt.shaped (tupsD ds) = true := by
  have h1 := canL h
  have h2 := depL ds
  unfold SeqAt.shaped
  rw [Bool.and_eq_true, decide_eq_true_eq]
  refine ⟨h1, ?_⟩
  show _ + 1 ≤ 64
  omega
theorem eqvL : ∀ ds : List (List Str), PyData.eqv (tupsD ds) (tupsD ds) = true
  | [] => rfl
  | a :: r => by
    have h := eqvL r
    have e : PyData.eqv (tupsD (a :: r)) (tupsD (a :: r)) = (PyData.eqv (.tuple (a.map PyData.str)) (.tuple (a.map PyData.str)) && PyData.eqv (tupsD r) (tupsD r)) := rfl
    rw [e, h, eqvTup, decide_eq_true rfl]
    rfl
theorem dpL {K : PySem.W.Frag} {H : Hp} : ∀ {qs : List Addr} {ds : List (List Str)}, qs.length = ds.length → (∀ (i : Nat) q us, qs[i]? = some q → ds[i]? = some us → H q = some (.tup (us.map V.str))) → DpAll K H (qs.map V.ref) (ds.map fun us => PyData.tuple (us.map PyData.str))
  | [], [], _, _ => .nil
  | [], _ :: _, h, _ => nomatch h
  | _ :: _, [], h, _ => nomatch h
  | q :: qs, us :: ds, h, k => .cons (.tup (SqT.of (k 0 q us rfl rfl)) (dpTup us)) (dpL (Nat.succ.inj h) fun i q us e1 e2 => k (i + 1) q us e1 e2)
theorem NmT.congr {H : Hp} {q : Addr} {W W' : Str → Prop} (e : ∀ z, W z ↔ W' z) (h : NmT H q W) : NmT H q W' := by
  obtain ⟨ns, a, b, c, d⟩ := h
  exact ⟨ns, a, b, c, fun z => (d z).trans (e z)⟩
theorem NmT.is {H : Hp} {q : Addr} {W : Str → Prop} (h : NmT H q W) (ns : List Str) (s : sortedS ns = true) (n : ns.Nodup) (e : ∀ z, z ∈ ns ↔ W z) : H q = some (.tup (ns.map V.str)) := by
  obtain ⟨ms, a, b, c, d⟩ := h
  have : ms = ns := sorted_uniq (sorted_pw b) (sorted_pw s) c n fun y => (d y).trans (e y).symm
  rw [← this]
  exact a
theorem want_congr {W W' : Str → Prop} (e : ∀ z, W z ↔ W' z) : ∀ (as : List Act) z, Want W as z ↔ Want W' as z
  | [], z => e z
  | a :: r, z => or_congr Iff.rfl (and_congr Iff.rfl (want_congr e r z))
theorem endW {g : Prg} {c1 c2 c3 : Bool} {W : Str → Prop} {i : Nat} (h : g = ⟨g.a, none, [], none, []⟩) (hi : i = 0 ∨ i = 2 ∨ i = 4) : ∀ z, EndW g c1 c2 c3 W i z ↔ W z := fun z => by
  rw [h]
  rcases hi with rfl | rfl | rfl <;> exact Iff.rfl
abbrev NeP : List Str := ["program", "place", "first", "further", "second"]
abbrev kwsN : List (Str × V) := [("first", .bl true), ("further", .bl true), ("second", .bl true)]
/-- needed, called as the law calls it -/
structure NeT (P : Program) (w : World) (K : PySem.W.Frag) (mg : Str → Option Value) (base : Heap) (d : D3) (C f : Addr) (fd : FuncData) : Prop where
  fn : FnOk P w K mg base CX0 6 f fd NeP (spNe K d C)
  g : mg "needed" = some (.ref f)
  kp : PySem.W.keepIn K (.ref f) = true
  fd_ : L2.FunD K "needed" "needed" (defArgs sNe) (defBody sNe) (defScope sNe) [] kwsN f fd
section
variable {P : Program} {w : World} {K : PySem.W.Frag} {mg : Str → Option Value} {base : Heap}
theorem ne_b {f : Addr} {fd : FuncData} (F : L2.FunD K "needed" "needed" (defArgs sNe) (defBody sNe) (defScope sNe) [] kwsN f fd) : ∃ ds, Vals (kwsN.map (·.2)) ds ∧ Binds K fd NeP ds :=
  F.binds0 (ps := NeP) 2 (by intro h; cases h) rfl (fun D doc pm an cdv ct us ks l1 l2 => by
    match us, ks, l1, l2 with
    | [_, _], [_, _, _], _, _ => exact ⟨_, _, _, _, _, _, rfl, rfl, _, _, _, _, _, _, rfl, rfl, _, _, _, _, _, _, rfl, rfl, rfl⟩)
theorem ne_k1 {f : Addr} {fd : FuncData} (F : L2.FunD K "needed" "needed" (defArgs sNe) (defBody sNe) (defScope sNe) [] kwsN f fd) : ∃ mv : List Value, KBn K fd NeP 2 ["first", "second"] (fun us ws => us ++ ws.take 1 ++ mv ++ ws.drop 1) (fun vs zs => vs ++ zs.take 1 ++ [.bl true] ++ zs.drop 1) :=
  F.kbinds0 (ps := NeP) 2 ["first", "second"] [("further", .bl true)] (fun us mz ws => us ++ ws.take 1 ++ mz ++ ws.drop 1) (by intro h; cases h) (fun q h => by rw [List.mem_singleton.mp h]; simp) (fun r1 r2 r3 => ((r1.append (r3.take 1)).append r2).append (r3.drop 1)) (fun D doc pm an cdv ct us mv ws l1 l2 l3 => by
    match us, mv, ws, l1, l2, l3 with
    | [_, _], [_], [_, _], _, _, _ => exact ⟨_, _, _, _, _, _, rfl, rfl, rfl⟩)
theorem ne_k2 {f : Addr} {fd : FuncData} (F : L2.FunD K "needed" "needed" (defArgs sNe) (defBody sNe) (defScope sNe) [] kwsN f fd) : ∃ mv : List Value, KBn K fd NeP 0 ["place", "program", "further"] (fun us ws => us ++ (ws.drop 1).take 1 ++ ws.take 1 ++ mv.take 1 ++ ws.drop 2 ++ mv.drop 1) (fun vs zs => vs ++ (zs.drop 1).take 1 ++ zs.take 1 ++ [.bl true] ++ zs.drop 2 ++ [.bl true]) :=
  F.kbinds0 (ps := NeP) 0 ["place", "program", "further"] [("first", .bl true), ("second", .bl true)] (fun us mz ws => us ++ (ws.drop 1).take 1 ++ ws.take 1 ++ mz.take 1 ++ ws.drop 2 ++ mz.drop 1) (by intro h; cases h) (fun q h => by simp only [List.mem_cons, List.not_mem_nil, or_false] at h; rcases h with rfl | rfl <;> simp) (fun r1 r2 r3 => ((((r1.append ((r3.drop 1).take 1)).append (r3.take 1)).append (r2.take 1)).append (r3.drop 2)).append (r2.drop 1)) (fun D doc pm an cdv ct us mv ws l1 l2 l3 => by
    match us, mv, ws, l1, l2, l3 with
    | [], [_, _], [_, _, _], _, _, _ => exact ⟨_, _, _, _, _, _, rfl, rfl, _, _, _, _, _, _, rfl, rfl, rfl⟩)
/-- x(k = v, ..), a def with keyword-only defaults -/
theorem pe_callN0 {X : Cx} {CX : CXT} {k : Nat} {f : Addr} {fd : FuncData} {ps ks : List Str} {sp : Sp} {E : XK} {x : Str} {p pos : Pos} {kws : List Keyword} {tk : TA} {g : List Value → List Value → List Value} {gV : List V → List V → List V}
    (F : FnOk X.prog X.w X.K X.mg X.base CX k f fd ps sp) (hr : Room k X.A) (hg : Gl X x) (hm : X.mg x = some (.ref f)) (hk : PySem.W.keepIn X.K (.ref f) = true) (hb : KBn X.K fd ps 0 ks g gV) (hx : Passes CX X E) (hkw : PK X kws tk)
    (hall : (backToKw pos (keywordEach kws X.env)).all (·.1.isSome) = true := by rfl) (hks : (backToKw pos (keywordEach kws X.env)).filterMap (·.1) = ks := by rfl) (hdb : (x == ("__debug__" : Str)) = false := by decide)
    (hpl : ((backTo pos (starEach [] X.env)).any (·.1) || (backToKw pos (keywordEach kws X.env)).any (·.1.isNone)) = false := by rfl) :
    PE X (.Call (.Name x p) [] kws pos) (tCallN 0 ks.length sp gV E tNil tk) := by
  refine ⟨fun pins s σ H Q I h => ?_⟩
  refine wpAny_Call_Name_kw (ld_glob I hg hm ?_ hdb)
  refine PySem.W.callWith_KW0 (h₀ := X.base) I.ok.mod.kin hk hall ?_ hpl
  refine thn (hkw.run pos pins s σ H _ I h) fun ws s2 ⟨zs, H2, I2, rz, l1, l2, q2⟩ => ⟨I2.kIn, ?_⟩
  rw [hks]
  exact run_fnN (us := []) (vs := []) F hr hb hx I2 .nil rz rfl l2 q2
end
end K33

set_option Elab.async false
set_option linter.all false
set_option maxRecDepth 100000
set_option maxHeartbeats 4000000
/-! k33: the deeds from a deed of the loop on. -/
namespace K33
open PySem L2 NX NU
open PyProof.Rows (sortedS)
abbrev sRe : Stmt := top 91
abbrev NRe : List Str := ["_law_site_here", "_law_at", "_law_rounds_so"]
theorem scRe : FnScope NRe NRe (defScope sRe) := ⟨rfl, rfl, rfl, by decide +kernel, rfl, by decide +kernel, by decide +kernel⟩
theorem cutJ {α : Type} (f : α → V) (xs : List α) (j : Nat) (h : j ≤ xs.length) : cutV (xs.map f) (some (j : Int)) none = (xs.drop j).map f := by
  unfold cutV
  have e1 : HT.sIx (xs.map f).length 0 (some (j : Int)) = j := by
    rw [HT.sIx_nat, List.length_map]
    omega
  rw [e1, HT.sIx_none, ← List.map_drop, List.take_of_length_le]
  rw [List.length_map, List.length_map, List.length_drop]
  exact Nat.le_refl _
theorem LotsT.drop {H : Hp} {ts : List Addr} {as : List Act} (h : LotsT H ts as) (j : Nat) : LotsT H (ts.drop j) (as.drop j) := ⟨by rw [List.length_drop, List.length_drop, h.1], fun i t a e1 e2 => by
  rw [List.getElem?_drop] at e1 e2
  exact h.2 (j + i) t a e1 e2⟩
theorem LotsT.app {H : Hp} {ts us : List Addr} {as bs : List Act} (h : LotsT H ts as) (k : LotsT H us bs) : LotsT H (ts ++ us) (as ++ bs) := ⟨by rw [List.length_append, List.length_append, h.1, k.1], fun i t a e1 e2 => by
  by_cases hi : i < ts.length
  · rw [List.getElem?_append_left hi] at e1
    rw [List.getElem?_append_left (by rw [← h.1]; exact hi)] at e2
    exact h.2 i t a e1 e2
  · have hl := h.1
    rw [List.getElem?_append_right (by omega)] at e1
    rw [List.getElem?_append_right (by omega), ← hl] at e2
    exact k.2 _ t a e1 e2⟩
theorem LotsT.rep {H : Hp} {ts : List Addr} {as : List Act} (h : LotsT H ts as) : ∀ n : Nat, LotsT H (List.replicate n ts).flatten (List.replicate n as).flatten
  | 0 => ⟨rfl, nofun⟩
  | n + 1 => by
    rw [List.replicate_succ, List.flatten_cons, List.replicate_succ, List.flatten_cons]
    exact h.app (h.rep n)
theorem flat_map (ts : List Addr) : ∀ n : Nat, (List.replicate n (ts.map V.ref)).flatten = ((List.replicate n ts).flatten).map V.ref
  | 0 => rfl
  | n + 1 => by
    rw [List.replicate_succ, List.flatten_cons, flat_map ts n, List.replicate_succ, List.flatten_cons, List.map_append]
theorem flat_len {α : Type} (ts : List α) : ∀ n : Nat, (List.replicate n ts).flatten.length = n * ts.length
  | 0 => by simp
  | n + 1 => by
    rw [List.replicate_succ, List.flatten_cons, List.length_append, flat_len ts n, Nat.succ_mul]
    omega
/-- the deeds with so many rounds between -/
def roundsT (as lp : List Act) (n : Nat) (bs : List Act) : List Act := as ++ (List.replicate n lp).flatten ++ bs
/-- rounds to come want what one round wants -/
theorem want_rounds {W : Str → Prop} (lp : List Act) : ∀ (n : Nat) (z : Str), Want W (List.replicate (n + 1) lp).flatten z ↔ Want W lp z
  | 0, z => by
    show Want W (lp ++ []) z ↔ _
    rw [List.append_nil]
  | n + 1, z => by
    rw [List.replicate_succ, List.flatten_cons, want_app]
    exact (want_congr (want_rounds lp n) lp z).trans (want_idem lp z)
theorem want_roundsT {W : Str → Prop} (as lp bs : List Act) (n : Nat) (z : Str) : Want W (roundsT as lp (n + 1) bs) z ↔ Want (Want (Want W bs) lp) as z := by
  unfold roundsT
  rw [List.append_assoc, want_app]
  refine want_congr (fun y => ?_) as z
  rw [want_app]
  exact want_rounds lp n y
def spRe : Sp := fun vs H Q _ => ∃ (S : Addr) (j n : Nat) (t : Tol) (lp : List Act), vs = [.ref S, .int (j : Int), .int (n : Int)] ∧ SiteG H S t ∧ t.g.l = some lp ∧ lp.length ≤ 8 ∧ t.g.h.length ≤ 8 ∧ j ≤ lp.length ∧ n ≤ 20 ∧
  ∀ L H', Same H H' → LotsAt H' L (roundsT (lp.drop j) lp n t.g.h) → Q (.ref L) H'
section
variable {P : Program} {w : World} {K : PySem.W.Frag} {mg : Str → Option Value} {base : Heap}
theorem ok_re {f : Addr} {fd : FuncData} (F : Fun K "_law_rest" "_law_rest" sRe f fd) : FnOk P w K mg base CX0 1 f fd NRe spRe := by
  refine F.ok scRe (fun vs H Q E h => ?_) (fun cdv A outer s H vs Q E hr h => ?_)
  · obtain ⟨S, j, n, t, lp, rfl, _⟩ := h
    rfl
  · obtain ⟨S, j, n, t, lp, rfl, hS, gl, l8, h8, hj, hn, k⟩ := h
    have hu := hu_of hr
    refine ⟨_, (pss_one (ps_ret (pe_op op_cat (pe_op op_cat (pe_slice sl_list (pe_dget hu (pv 0) pe_str (fun _ _ => rfl)) (po_some (pv 1)) po_none) (pe_op op_rep (pe_dget hu (pv 0) pe_str (fun _ _ => rfl)) (pv 2))) (pe_dget hu (pv 0) pe_str (fun _ _ => rfl))))), ?_⟩
    have z1000 : (1000 : Nat) < sizeLine := by decide
    obtain ⟨gv, ag, r, vl, vb, vx, vh, vL, e, e1, e2, e6, p1, p2, p3, p4, p5⟩ := hS.ex
    rw [gl] at p2
    obtain ⟨L, rfl, ⟨ts, gL, lt⟩, _⟩ := p2
    obtain ⟨B, rfl, ⟨bs, gB, lb⟩, _⟩ := p5
    have lts := lt.1
    have lbs := lb.1
    refine ⟨_, rfl, S, _, rfl, DGet.k (k := .inr "loop") e, _, rfl, _, rfl, L, _, rfl, SqL.of gL, fun q1 h1 => ?_⟩
    rw [cutJ V.ref ts j (by omega)]
    have s1 := Same.new (o := .lst ((ts.drop j).map V.ref)) h1
    have g1 : (upd H q1 (.lst ((ts.drop j).map V.ref))) q1 = some (.lst ((ts.drop j).map V.ref)) := upd_same
    generalize (upd H q1 (.lst ((ts.drop j).map V.ref))) = H1 at *
    refine ⟨_, rfl, S, _, rfl, DGet.k (k := .inr "loop") (s1 _ _ e), _, rfl, L, _, _, rfl, rfl, s1 _ _ gL, by omega, by omega, ?_, fun q2 h2 => ?_⟩
    · rw [List.length_map, Int.toNat_natCast]
      have : ts.length * n ≤ 8 * 20 := Nat.mul_le_mul (by omega) hn
      omega
    rw [Int.toNat_natCast, flat_map]
    have s2 := s1.trans (Same.new (o := .lst ((List.replicate n ts).flatten.map V.ref)) h2)
    have g2 : (upd H1 q2 (.lst ((List.replicate n ts).flatten.map V.ref))) q2 = some (.lst ((List.replicate n ts).flatten.map V.ref)) := upd_same
    have g1 := (Same.new (o := .lst ((List.replicate n ts).flatten.map V.ref)) h2) _ _ g1
    generalize (upd H1 q2 (.lst ((List.replicate n ts).flatten.map V.ref))) = H2 at *
    have fl := flat_len ts n
    have : n * ts.length ≤ 20 * 8 := Nat.mul_le_mul hn (by omega)
    refine ⟨q1, q2, _, _, rfl, rfl, g1, g2, by rw [List.length_map, List.length_map, List.length_drop, fl]; omega, fun q3 h3 => ?_⟩
    rw [← List.map_append]
    have s3 := s2.trans (Same.new (o := .lst ((ts.drop j ++ (List.replicate n ts).flatten).map V.ref)) h3)
    have g3 : (upd H2 q3 (.lst ((ts.drop j ++ (List.replicate n ts).flatten).map V.ref))) q3 = some (.lst ((ts.drop j ++ (List.replicate n ts).flatten).map V.ref)) := upd_same
    generalize (upd H2 q3 (.lst ((ts.drop j ++ (List.replicate n ts).flatten).map V.ref))) = H3 at *
    refine ⟨_, rfl, S, _, rfl, DGet.k (k := .inr "behind") (s3 _ _ e), q3, B, _, _, rfl, rfl, g3, s3 _ _ gB, by rw [List.length_map, List.length_map, List.length_append, List.length_drop, fl]; omega, fun q4 h4 => ?_⟩
    rw [← List.map_append]
    have s4 := s3.trans (Same.new (o := .lst ((ts.drop j ++ (List.replicate n ts).flatten ++ bs).map V.ref)) h4)
    exact k q4 _ s4 ⟨_, upd_same, (((lt.same s4).drop j).app ((lt.same s4).rep n)).app (lb.same s4)⟩
end
end K33

set_option Elab.async false
set_option linter.all false
set_option maxRecDepth 100000
set_option maxHeartbeats 8000000
/-! k33: the places of ahead. -/
namespace K33
open PySem L2 NX NU LamX
open PyProof.Rows (sortedS)
abbrev sAr : Stmt := top 92
abbrev NAr : List Str := ["_law_site_here", "_law_thing", "_law_rounds_so", "_law_at", "_law_some_here", "_law_none", "_law_told"]
theorem scAr : FnScope NAr ["_law_site_here", "_law_thing", "_law_rounds_so"] (defScope sAr) := ⟨rfl, rfl, rfl, by decide +kernel, rfl, by decide +kernel, by decide +kernel⟩
/-- a program with one loop, and all that hangs on it -/
structure One (K : PySem.W.Frag) (d : D3) (C : Addr) (H : Hp) (S x : Addr) (t : Tol) (lp : List Act) : Prop where
  site : SiteG H S t
  ok : t.Ok
  ip : IsP K d H x C t
  l : t.g.l = some lp
  b : t.g.b = []
  s : t.g.s = none
  a8 : t.g.a.length ≤ 8
  l8 : lp.length ≤ 8
  h8 : t.g.h.length ≤ 8
  nm_ : ∀ z ∈ t.words, nm z = true
theorem One.same {K : PySem.W.Frag} {d : D3} {C : Addr} {H H' : Hp} {S x : Addr} {t : Tol} {lp : List Act} (s : Same H H') (h : One K d C H S x t lp) : One K d C H' S x t lp := { h with site := h.site.same s, ip := h.ip.same s }
theorem One.inW {K : PySem.W.Frag} {d : D3} {C : Addr} {H : Hp} {S x : Addr} {t : Tol} {lp : List Act} (h : One K d C H S x t lp) : (∀ z ∈ actsN t.g.a, z ∈ t.words) ∧ (∀ z ∈ actsN lp, z ∈ t.words) ∧ ∀ z ∈ actsN t.g.h, z ∈ t.words := by
  have q : ∀ z ∈ actsN t.g.acts, z ∈ t.words := fun z hz => by unfold Tol.words; exact List.mem_append_right _ hz
  refine ⟨fun z hz => q z ((acts5 t.g z).mpr (.inl hz)), fun z hz => q z ((acts5 t.g z).mpr (.inr (.inl ?_))), fun z hz => q z ((acts5 t.g z).mpr (.inr (.inr (.inr (.inr hz)))))⟩
  rw [h.l]
  exact hz
theorem actsN_rep {lp : List Act} {W : List Str} (h : ∀ z ∈ actsN lp, z ∈ W) : ∀ n : Nat, ∀ z ∈ actsN (List.replicate n lp).flatten, z ∈ W
  | 0, z, hz => by cases hz
  | n + 1, z, hz => by
    rw [List.replicate_succ, List.flatten_cons, actsN_app, List.mem_append] at hz
    exact hz.elim (h z) (actsN_rep h n z)
theorem end0 {g : Prg} {lp : List Act} {c1 c2 c3 : Bool} {W : Str → Prop} (hl : g.l = some lp) (hb : g.b = []) (hs : g.s = none) : ∀ z, EndW g c1 c2 c3 W 0 z ↔ (if c1 = true then Want (Want W g.h) lp z else Want W g.h z) := fun z => by
  show HeadW g.l c1 (Want (HeadW g.s c3 (Want W g.h)) g.b) z ↔ _
  rw [hl, hb, hs]
  cases c1 <;> exact Iff.rfl
theorem end1 {g : Prg} {lp : List Act} {c1 c2 c3 : Bool} {W : Str → Prop} (hl : g.l = some lp) (hb : g.b = []) (hs : g.s = none) : ∀ z, EndW g c1 c2 c3 W 1 z ↔ (if c2 = true then Want (Want W g.h) lp z else Want W g.h z) := fun z => by
  show HeadW g.l c2 (Want (HeadW g.s c3 (Want W g.h)) g.b) z ↔ _
  rw [hl, hb, hs]
  cases c2 <;> exact Iff.rfl
section
variable {P : Program} {w : World} {K : PySem.W.Frag} {mg : Str → Option Value} {base : Heap}
theorem ne_kF {f : Addr} {fd : FuncData} (F : L2.FunD K "needed" "needed" (defArgs sNe) (defBody sNe) (defScope sNe) [] kwsN f fd) : ∃ mv : List Value, KBn K fd NeP 2 ["first"] (fun us ws => us ++ ws ++ mv) (fun vs zs => vs ++ zs ++ [.bl true, .bl true]) :=
  F.kbinds0 (ps := NeP) 2 ["first"] [("further", .bl true), ("second", .bl true)] (fun us mz ws => us ++ ws ++ mz) (by intro h; cases h) (fun q h => by simp only [List.mem_cons, List.not_mem_nil, or_false] at h; rcases h with rfl | rfl <;> simp) (fun r1 r2 r3 => (r1.append r3).append r2) (fun D doc pm an cdv ct us mv ws l1 l2 l3 => by
    match us, mv, ws, l1, l2, l3 with
    | [_, _], [_, _], [_], _, _, _ => exact ⟨_, _, _, _, _, _, rfl, rfl, _, _, _, _, _, _, rfl, rfl, rfl⟩)
theorem ne_kU {f : Addr} {fd : FuncData} (F : L2.FunD K "needed" "needed" (defArgs sNe) (defBody sNe) (defScope sNe) [] kwsN f fd) : ∃ mv : List Value, KBn K fd NeP 2 ["further"] (fun us ws => us ++ mv.take 1 ++ ws ++ mv.drop 1) (fun vs zs => vs ++ [.bl true] ++ zs ++ [.bl true]) :=
  F.kbinds0 (ps := NeP) 2 ["further"] [("first", .bl true), ("second", .bl true)] (fun us mz ws => us ++ mz.take 1 ++ ws ++ mz.drop 1) (by intro h; cases h) (fun q h => by simp only [List.mem_cons, List.not_mem_nil, or_false] at h; rcases h with rfl | rfl <;> simp) (fun r1 r2 r3 => ((r1.append (r2.take 1)).append r3).append (r2.drop 1)) (fun D doc pm an cdv ct us mv ws l1 l2 l3 => by
    match us, mv, ws, l1, l2, l3 with
    | [_, _], [_, _], [_], _, _, _ => exact ⟨_, _, _, _, _, _, rfl, rfl, _, _, _, _, _, _, rfl, rfl, rfl⟩)
theorem ne_k3 {f : Addr} {fd : FuncData} (F : L2.FunD K "needed" "needed" (defArgs sNe) (defBody sNe) (defScope sNe) [] kwsN f fd) : KBn K fd NeP 2 ["further", "first", "second"] (fun us ws => us ++ (ws.drop 1).take 1 ++ ws.take 1 ++ ws.drop 2) (fun vs zs => vs ++ (zs.drop 1).take 1 ++ zs.take 1 ++ zs.drop 2) := by
  obtain ⟨mv, h⟩ := F.kbinds0 (ps := NeP) 2 ["further", "first", "second"] [] (fun us mz ws => us ++ (ws.drop 1).take 1 ++ ws.take 1 ++ ws.drop 2) (by intro h; cases h) nofun (fun r1 r2 r3 => ((r1.append ((r3.drop 1).take 1)).append (r3.take 1)).append (r3.drop 2)) (fun D doc pm an cdv ct us mv ws l1 l2 l3 => by
    match us, mv, ws, l1, l2, l3 with
    | [_, _], [], [_, _, _], _, _, _ => exact rfl)
  exact h
def spAr (K : PySem.W.Frag) (d : D3) (C : Addr) : Sp := fun vs H Q _ => ∃ (S x : Addr) (n : Nat) (t : Tol) (lp : List Act), vs = [.ref S, .ref x, .int ((n + 1 : Nat) : Int)] ∧ One K d C H S x t lp ∧ n ≤ 15 ∧ ∀ H', Same H H' → Q (.bl true) H'
theorem ok_ar {d : D3} {C fN : Addr} {fdN : FuncData} {f : Addr} {fd : FuncData} (F : Fun K "_law_ahead_right" "_law_ahead_right" sAr f fd) (T : TxtB mg) (S : SysB base) (N : NeT P w K mg base d C fN fdN) (cWa : C8.Cal P w K mg base 3 "_law_wanted" spWaG []) : FnG P w K mg base 8 f fd ["_law_site_here", "_law_thing", "_law_rounds_so"] (spAr K d C) := by
  obtain ⟨dsN, vN, bN⟩ := ne_b N.fd_
  have cNe : C8.Cal P w K mg base 6 "needed" (spNe K d C) (kwsN.map (·.2)) := ⟨_, _, _, _, N.fn, N.g, N.kp, bN, vN⟩
  obtain ⟨mv1, kN1⟩ := ne_kF N.fd_
  obtain ⟨oc, od, kV, doc, pm, an, cdv, ct, osl, rfl, lk, hcd⟩ := F.ex
  refine ⟨fun vs H Q E h => ?_, fun A st s H args us vs Q gd hr0 e0 hb rv h => ?_⟩
  · obtain ⟨Sx, x, n, t, lp, rfl, _⟩ := h
    rfl
  · obtain ⟨Sx, x, n, t, lp, rfl, O, hn, k⟩ := h
    refine run_ofS (k := 7) (N := NAr) (ps := ["_law_site_here", "_law_thing", "_law_rounds_so"]) lk hcd scAr hr0 e0 hb rv rfl fun hr => ?_
    have gd : (A.deeper (PyProof.Rows.envOfC "_law_ahead_right" (defScope sAr) s.heap.objs.size f cdv)).guards = some [] := gd
    have hu := hu_of hr
    refine ⟨_, PSs.nox (pss_cons (ps_for PassesOwn.never rfl (pi_range1 (by rfl) T.brange (pa_cons (pe_op op_add (pe_callB call_len_seq (by rfl) T.blen (by decide +kernel) (pa_cons (pe_dget hu (pv 0) pe_str (fun _ _ => rfl)) pa_nil)) pe_int) pa_nil)) (pg_name (i := 3) scAr.nd rfl (Or.inl rfl))
        (pss_cons (ps_set (i := 4) scAr.nd rfl (Or.inl rfl) (pe_op op_cat (pe_slice sl_list (pe_dget hu (pv 0) pe_str (fun _ _ => rfl)) (po_some (pv 3)) po_none) (pe_op op_rep (pe_dget hu (pv 0) pe_str (fun _ _ => rfl)) (pv 2))))
        (pss_cons (ps_set (i := 4) scAr.nd rfl (Or.inl rfl) (pe_op op_cat (pv 4) (pe_dget hu (pv 0) pe_str (fun _ _ => rfl))))
        (pss_cons (ps_set (i := 5) scAr.nd rfl (Or.inl rfl) (pe_op op_cat (pe_slice sl_list (pe_dget hu (pv 0) pe_str (fun _ _ => rfl)) (po_some (pv 3)) po_none) (pe_dget hu (pv 0) pe_str (fun _ _ => rfl))))
        (pss_cons (ps_set (i := 6) scAr.nd rfl (Or.inl rfl) (C8.pe_c cNe hr (by decide) rfl (pa_cons (pv 1) (pa_cons (pe_tup (pa_cons pe_str (pa_cons (pv 3) pa_nil))) pa_nil))))
        (pss_cons (ps_if (pt_cmpR op_ne (pe_callB (call_reprD gd hr.units S) (by rfl) T.brepr (by decide +kernel) (pa_cons (pv 6) pa_nil)) (pe_callB (call_reprD gd hr.units S) (by rfl) T.brepr (by decide +kernel) (pa_cons (C8.pe_c cWa hr (by decide) rfl (pa_cons (pv 0) (pa_cons (pv 4) pa_nil))) pa_nil)) (nomark _)) (pss_one (ps_ret pe_bl)) pss_nil)
        (pss_cons (ps_set (i := 6) scAr.nd rfl (Or.inl rfl) (pe_callN (E := C8.E0) (ks := ["first"]) N.fn (hr.mono (by decide)) rfl N.g N.kp kN1 C8.pass0 (pa_cons (pv 1) (pa_cons (pe_tup (pa_cons pe_str (pa_cons (pv 3) pa_nil))) pa_nil)) (pk_cons pe_bl pk_nil)))
        (pss_one (ps_if (pt_cmpR op_ne (pe_callB (call_reprD gd hr.units S) (by rfl) T.brepr (by decide +kernel) (pa_cons (pv 6) pa_nil)) (pe_callB (call_reprD gd hr.units S) (by rfl) T.brepr (by decide +kernel) (pa_cons (C8.pe_c cWa hr (by decide) rfl (pa_cons (pv 0) (pa_cons (pv 5) pa_nil))) pa_nil)) (nomark _)) (pss_one (ps_ret pe_bl)) pss_nil)))))))))
      (pss_one (ps_ret pe_bl))), ?_⟩
    have z1000 : (100000 : Nat) < sizeLine := by decide
    obtain ⟨gv, ag, r, vl, vb, vx, vh, vL, e, e1, e2, e6, p1, p2, p3, p4, p5⟩ := O.site.ex
    have gl := O.l
    have a8 := O.a8
    have l8 := O.l8
    have h8 := O.h8
    rw [gl] at p2
    obtain ⟨A0, rfl, ⟨ts, gA, lt⟩, _⟩ := p1
    obtain ⟨L, rfl, ⟨us, gL, lu⟩, _⟩ := p2
    obtain ⟨B, rfl, ⟨bs, gB, lb⟩, _⟩ := p5
    have lts := lt.1
    have lus := lu.1
    have lbs := lb.1
    obtain ⟨wa, wl, wh⟩ := O.inW
    refine ⟨_, rfl, Sx, _, rfl, DGet.k (k := .inr "ahead") e, A0, _, rfl, .inl (SqL.of gA), _, _, rfl, rfl, _, rfl, by rw [List.length_map]; omega, by rw [List.length_map]; omega, ?_⟩
    have et : (((ts.map V.ref).length : Int) + 1).toNat = t.g.a.length + 1 := by rw [List.length_map, lts]; omega
    rw [et]
    refine for_range (n := t.g.a.length + 1) (fun j σ H' => Same H H' ∧ ∃ x3 x4 x5 x6 : Option V, σ = [some (.ref Sx), some (.ref x), some (.int ((n + 1 : Nat) : Int)), x3, x4, x5, x6]) ⟨Same.refl H, _, _, _, _, rfl⟩ (fun j σ H0 hj ⟨s0, x3, x4, x5, x6, eσ⟩ => ?_) (fun σ H0 ⟨s0, x3, x4, x5, x6, eσ⟩ => ?_)
    · subst eσ
      have ej : (0 : Int) + (j : Int) = (j : Int) := Int.zero_add _
      rw [ej]
      have hj : j ≤ t.g.a.length := by omega
      obtain ⟨pool, hpl, h6⟩ := O.ok.six
      have rsW : ∀ y, y ∈ t.rs → y ∈ t.words := fun y hy => by unfold Tol.words; simp [hy]
      have wj : ∀ z ∈ actsN (t.g.a.drop j), z ∈ t.words := fun z hz => wa z (actsDrop t.g.a j z hz)
      have wS : ∀ z ∈ actsN (roundsT (t.g.a.drop j) lp (n + 1) t.g.h), z ∈ t.words := fun z hz => by
        unfold roundsT at hz
        rw [actsN_app, actsN_app, List.mem_append, List.mem_append] at hz
        exact hz.elim (fun h => h.elim (wj z) (actsN_rep wl (n + 1) z)) (wh z)
      have wN : ∀ z ∈ actsN (t.g.a.drop j ++ t.g.h), z ∈ t.words := fun z hz => by
        rw [actsN_app, List.mem_append] at hz
        exact hz.elim (wj z) (wh z)
      have fin : ∀ nsq : List Str, nsq.Nodup → (∀ z ∈ nsq, z ∈ t.words) → (PyData.tuple (nsq.map PyData.str)).depth ≤ 50 ∧ (PyData.tuple (nsq.map PyData.str)).shown.length ≤ sizeLine := fun nsq nd h => by
        have l6 : nsq.length ≤ 6 := by
          rw [← many_of nsq nd]
          exact Nat.le_trans (many_in nsq pool fun z hz => hpl z (h z hz)) h6
        have := tupShown fun z hz => O.nm_ z (h z hz)
        have d := depTup nsq
        exact ⟨by show PyData.depthAll (nsq.map PyData.str) + 1 ≤ 50; omega, by omega⟩
      refine ⟨_, rfl, Sx, _, rfl, DGet.k (k := .inr "ahead") (s0 _ _ e), _, rfl, _, rfl, A0, _, rfl, SqL.of (s0 _ _ gA), fun q1 h1 => ?_⟩
      rw [cutJ V.ref ts j (by omega)]
      have s1 := s0.trans (Same.new (o := .lst ((ts.drop j).map V.ref)) h1)
      have g1 : (upd H0 q1 (.lst ((ts.drop j).map V.ref))) q1 = some (.lst ((ts.drop j).map V.ref)) := upd_same
      generalize (upd H0 q1 (.lst ((ts.drop j).map V.ref))) = H1 at *
      refine ⟨_, rfl, Sx, _, rfl, DGet.k (k := .inr "loop") (s1 _ _ e), _, rfl, L, _, _, rfl, rfl, s1 _ _ gL, by omega, by omega, ?_, fun q2 h2 => ?_⟩
      · rw [List.length_map, Int.toNat_natCast]
        have : us.length * (n + 1) ≤ 8 * 16 := Nat.mul_le_mul (by omega) (by omega)
        omega
      rw [Int.toNat_natCast, flat_map]
      have s2 := s1.trans (Same.new (o := .lst ((List.replicate (n + 1) us).flatten.map V.ref)) h2)
      have g2 : (upd H1 q2 (.lst ((List.replicate (n + 1) us).flatten.map V.ref))) q2 = some (.lst ((List.replicate (n + 1) us).flatten.map V.ref)) := upd_same
      have g1 := (Same.new (o := .lst ((List.replicate (n + 1) us).flatten.map V.ref)) h2) _ _ g1
      generalize (upd H1 q2 (.lst ((List.replicate (n + 1) us).flatten.map V.ref))) = H2 at *
      have fl := flat_len us (n + 1)
      have : (n + 1) * us.length ≤ 16 * 8 := Nat.mul_le_mul (by omega) (by omega)
      refine ⟨q1, q2, _, _, rfl, rfl, g1, g2, by rw [List.length_map, List.length_map, List.length_drop, fl]; omega, fun q3 h3 => ?_⟩
      rw [← List.map_append]
      have s3 := s2.trans (Same.new (o := .lst ((ts.drop j ++ (List.replicate (n + 1) us).flatten).map V.ref)) h3)
      have g3 : (upd H2 q3 (.lst ((ts.drop j ++ (List.replicate (n + 1) us).flatten).map V.ref))) q3 = some (.lst ((ts.drop j ++ (List.replicate (n + 1) us).flatten).map V.ref)) := upd_same
      generalize (upd H2 q3 (.lst ((ts.drop j ++ (List.replicate (n + 1) us).flatten).map V.ref))) = H3 at *
      refine ⟨_, rfl, _, rfl, Sx, _, rfl, DGet.k (k := .inr "behind") (s3 _ _ e), q3, B, _, _, rfl, rfl, g3, s3 _ _ gB, by rw [List.length_map, List.length_map, List.length_append, List.length_drop, fl]; omega, fun q4 h4 => ?_⟩
      rw [← List.map_append]
      have s4 := s3.trans (Same.new (o := .lst ((ts.drop j ++ (List.replicate (n + 1) us).flatten ++ bs).map V.ref)) h4)
      have lots4 : LotsAt (upd H3 q4 (.lst ((ts.drop j ++ (List.replicate (n + 1) us).flatten ++ bs).map V.ref))) q4 (roundsT (t.g.a.drop j) lp (n + 1) t.g.h) := ⟨_, upd_same, (((lt.same s4).drop j).app ((lu.same s4).rep (n + 1))).app (lb.same s4)⟩
      generalize (upd H3 q4 (.lst ((ts.drop j ++ (List.replicate (n + 1) us).flatten ++ bs).map V.ref))) = H4 at *
      refine ⟨_, rfl, Sx, _, rfl, DGet.k (k := .inr "ahead") (s4 _ _ e), _, rfl, _, rfl, A0, _, rfl, SqL.of (s4 _ _ gA), fun q5 h5 => ?_⟩
      rw [cutJ V.ref ts j (by omega)]
      have s5 := s4.trans (Same.new (o := .lst ((ts.drop j).map V.ref)) h5)
      have g5 : (upd H4 q5 (.lst ((ts.drop j).map V.ref))) q5 = some (.lst ((ts.drop j).map V.ref)) := upd_same
      have lots5 := lots4.same (Same.new (o := .lst ((ts.drop j).map V.ref)) h5)
      generalize (upd H4 q5 (.lst ((ts.drop j).map V.ref))) = H5 at *
      refine ⟨_, rfl, Sx, _, rfl, DGet.k (k := .inr "behind") (s5 _ _ e), q5, B, _, _, rfl, rfl, g5, s5 _ _ gB, by rw [List.length_map, List.length_map, List.length_drop]; omega, fun q6 h6' => ?_⟩
      rw [← List.map_append]
      have s6 := s5.trans (Same.new (o := .lst ((ts.drop j ++ bs).map V.ref)) h6')
      have lots6 := lots5.same (Same.new (o := .lst ((ts.drop j ++ bs).map V.ref)) h6')
      have lotN : LotsAt (upd H5 q6 (.lst ((ts.drop j ++ bs).map V.ref))) q6 (t.g.a.drop j ++ t.g.h) := ⟨_, upd_same, ((lt.same s6).drop j).app (lb.same s6)⟩
      generalize (upd H5 q6 (.lst ((ts.drop j ++ bs).map V.ref))) = H6 at *
      refine ⟨_, rfl, _, rfl, by show 2 ≤ sizeLine; decide, fun T1 hT1 => ?_⟩
      have k7 := Same.new (o := .tup [.str (Str.ofString "ahead"), .int (j : Int)]) hT1
      have s7 := s6.trans k7
      refine ⟨x, T1, t, 0, j, Str.ofString "ahead", t.g.a, true, true, true, rfl, O.ip.same s7, O.ok, rfl, rfl, hj, upd_same, fun q H8 s8 nq => ?_⟩
      obtain ⟨nsq, gq, b1, c1, d1⟩ := nq
      have d2 : ∀ z, z ∈ nsq ↔ Want (fun y => y ∈ t.rs) (roundsT (t.g.a.drop j) lp (n + 1) t.g.h) z := fun z => (d1 z).trans ((want_congr (end0 (c1 := true) (c2 := true) (c3 := true) gl O.b O.s) _ z).trans (want_roundsT _ _ _ n z).symm)
      obtain ⟨f1, f2⟩ := fin nsq c1 fun z hz => wantIn (pool := t.words) rsW wS z ((d2 z).mp hz)
      have k8 := k7.trans s8
      have s8 := s7.trans s8
      refine ⟨_, rfl, .ref q, .tuple (nsq.map PyData.str), rfl, .tup (SqT.of gq) (drTup nsq), showTup nsq, f1, f2, nofun, ?_⟩
      refine ⟨_, rfl, _, rfl, Sx, q4, t, _, rfl, O.site.same s8, O.ok, lots6.same k8, wS, fun qd H9 s9 nd => ?_⟩
      have gd9 := nd.is nsq b1 c1 d2
      refine ⟨.ref qd, .tuple (nsq.map PyData.str), rfl, .tup (SqT.of gd9) (drTup nsq), showTup nsq, f1, f2, nofun, rfl, _, rfl, ite2 (fun hne => absurd hne (by simp)) (fun _ => ?_)⟩
      have k9 := k8.trans s9
      have s9 := s8.trans s9
      clear b1 c1 d1 d2 f1 f2 gq gd9 nd
      refine ⟨_, rfl, _, rfl, by show 2 ≤ sizeLine; decide, fun T2 hT2 => ⟨rfl, rfl, ?_⟩⟩
      have k10 := k9.trans (Same.new (o := .tup [.str (Str.ofString "ahead"), .int (j : Int)]) hT2)
      have s10 := s9.trans (Same.new (o := .tup [.str (Str.ofString "ahead"), .int (j : Int)]) hT2)
      refine ⟨x, T2, t, 0, j, Str.ofString "ahead", t.g.a, false, true, true, rfl, O.ip.same s10, O.ok, rfl, rfl, hj, upd_same, fun q2 H11 s11 nq => ?_⟩
      obtain ⟨nsq, gq, b1, c1, d1⟩ := nq
      have d2 : ∀ z, z ∈ nsq ↔ Want (fun y => y ∈ t.rs) (t.g.a.drop j ++ t.g.h) z := fun z => (d1 z).trans ((want_congr (end0 (c1 := false) (c2 := true) (c3 := true) gl O.b O.s) _ z).trans (want_app _ _ z).symm)
      obtain ⟨f1, f2⟩ := fin nsq c1 fun z hz => wantIn (pool := t.words) rsW wN z ((d2 z).mp hz)
      have k11 := k10.trans s11
      have s11 := s10.trans s11
      refine ⟨_, rfl, .ref q2, .tuple (nsq.map PyData.str), rfl, .tup (SqT.of gq) (drTup nsq), showTup nsq, f1, f2, nofun, ?_⟩
      refine ⟨_, rfl, _, rfl, Sx, q6, t, _, rfl, O.site.same s11, O.ok, lotN.same k11, wN, fun qd H12 s12 nd => ?_⟩
      have gd12 := nd.is nsq b1 c1 d2
      refine ⟨.ref qd, .tuple (nsq.map PyData.str), rfl, .tup (SqT.of gd12) (drTup nsq), showTup nsq, f1, f2, nofun, rfl, _, rfl, ite2 (fun hne => absurd hne (by simp)) (fun _ => ?_)⟩
      exact ⟨s11.trans s12, _, _, _, _, rfl⟩
    · subst eσ
      exact k _ s0
end
end K33

set_option Elab.async false
set_option linter.all false
set_option maxRecDepth 100000
set_option maxHeartbeats 8000000
/-! k33: the places of the loop. -/
namespace K33
open PySem L2 NX NU LamX
open PyProof.Rows (sortedS)
abbrev sLr : Stmt := top 93
abbrev NLr : List Str := ["_law_site_here", "_law_thing", "_law_rounds_so", "_law_at", "_law_more", "_law_last", "_law_told"]
theorem scLr : FnScope NLr ["_law_site_here", "_law_thing", "_law_rounds_so"] (defScope sLr) := ⟨rfl, rfl, rfl, by decide +kernel, rfl, by decide +kernel, by decide +kernel⟩
theorem want_last {W : Str → Prop} (as lp bs : List Act) (z : Str) : Want W (roundsT as lp 0 bs) z ↔ Want (Want W bs) as z := by
  unfold roundsT
  rw [List.append_assoc, want_app]
  exact Iff.rfl
section
variable {P : Program} {w : World} {K : PySem.W.Frag} {mg : Str → Option Value} {base : Heap}
theorem ok_lr {d : D3} {C fN : Addr} {fdN : FuncData} {f : Addr} {fd : FuncData} (F : Fun K "_law_loop_right" "_law_loop_right" sLr f fd) (T : TxtB mg) (S : SysB base) (N : NeT P w K mg base d C fN fdN) (cWa : C8.Cal P w K mg base 3 "_law_wanted" spWaG []) (cRe : C8.Cal P w K mg base 1 "_law_rest" spRe []) : FnG P w K mg base 8 f fd ["_law_site_here", "_law_thing", "_law_rounds_so"] (spAr K d C) := by
  obtain ⟨dsN, vN, bN⟩ := ne_b N.fd_
  have cNe : C8.Cal P w K mg base 6 "needed" (spNe K d C) (kwsN.map (·.2)) := ⟨_, _, _, _, N.fn, N.g, N.kp, bN, vN⟩
  obtain ⟨mv1, kN1⟩ := ne_kU N.fd_
  have kN2 := ne_k3 N.fd_
  obtain ⟨oc, od, kV, doc, pm, an, cdv, ct, osl, rfl, lk, hcd⟩ := F.ex
  refine ⟨fun vs H Q E h => ?_, fun A st s H args us vs Q gd hr0 e0 hb rv h => ?_⟩
  · obtain ⟨Sx, x, n, t, lp, rfl, _⟩ := h
    rfl
  · obtain ⟨Sx, x, n, t, lp, rfl, O, hn, k⟩ := h
    refine run_ofS (k := 7) (N := NLr) (ps := ["_law_site_here", "_law_thing", "_law_rounds_so"]) lk hcd scLr hr0 e0 hb rv rfl fun hr => ?_
    have gd : (A.deeper (PyProof.Rows.envOfC "_law_loop_right" (defScope sLr) s.heap.objs.size f cdv)).guards = some [] := gd
    have hu := hu_of hr
    refine ⟨_, PSs.nox (pss_cons (ps_for PassesOwn.never rfl (pi_range1 (by rfl) T.brange (pa_cons (pe_op op_add (pe_callB call_len_seq (by rfl) T.blen (by decide +kernel) (pa_cons (pe_dget hu (pv 0) pe_str (fun _ _ => rfl)) pa_nil)) pe_int) pa_nil)) (pg_name (i := 3) scLr.nd rfl (Or.inl rfl))
        (pss_cons (ps_par (i := 4) (j := 5) (by rfl) scLr.nd rfl rfl (by decide) rfl rfl (pa_cons (C8.pe_c cRe hr (by decide) rfl (pa_cons (pv 0) (pa_cons (pv 3) (pa_cons (pv 2) pa_nil)))) (pa_cons (C8.pe_c cRe hr (by decide) rfl (pa_cons (pv 0) (pa_cons (pv 3) (pa_cons pe_int pa_nil)))) pa_nil)) (by rfl))
        (pss_cons (ps_set (i := 6) scLr.nd rfl (Or.inl rfl) (C8.pe_c cNe hr (by decide) rfl (pa_cons (pv 1) (pa_cons (pe_tup (pa_cons pe_str (pa_cons (pv 3) pa_nil))) pa_nil))))
        (pss_cons (ps_if (pt_cmpR op_ne (pe_callB (call_reprD gd hr.units S) (by rfl) T.brepr (by decide +kernel) (pa_cons (pv 6) pa_nil)) (pe_callB (call_reprD gd hr.units S) (by rfl) T.brepr (by decide +kernel) (pa_cons (C8.pe_c cWa hr (by decide) rfl (pa_cons (pv 0) (pa_cons (pv 4) pa_nil))) pa_nil)) (nomark _)) (pss_one (ps_ret pe_bl)) pss_nil)
        (pss_cons (ps_set (i := 6) scLr.nd rfl (Or.inl rfl) (pe_callN (E := C8.E0) (ks := ["further"]) N.fn (hr.mono (by decide)) rfl N.g N.kp kN1 C8.pass0 (pa_cons (pv 1) (pa_cons (pe_tup (pa_cons pe_str (pa_cons (pv 3) pa_nil))) pa_nil)) (pk_cons pe_bl pk_nil)))
        (pss_cons (ps_if (pt_cmpR op_ne (pe_callB (call_reprD gd hr.units S) (by rfl) T.brepr (by decide +kernel) (pa_cons (pv 6) pa_nil)) (pe_callB (call_reprD gd hr.units S) (by rfl) T.brepr (by decide +kernel) (pa_cons (C8.pe_c cWa hr (by decide) rfl (pa_cons (pv 0) (pa_cons (pv 5) pa_nil))) pa_nil)) (nomark _)) (pss_one (ps_ret pe_bl)) pss_nil)
        (pss_cons (ps_set (i := 6) scLr.nd rfl (Or.inl rfl) (pe_callN (E := C8.E0) (ks := ["further", "first", "second"]) N.fn (hr.mono (by decide)) rfl N.g N.kp kN2 C8.pass0 (pa_cons (pv 1) (pa_cons (pe_tup (pa_cons pe_str (pa_cons (pv 3) pa_nil))) pa_nil)) (pk_cons pe_bl (pk_cons pe_bl (pk_cons pe_bl pk_nil)))))
        (pss_one (ps_if (pt_cmpR (op_neD hr.units) (pv 6) (C8.pe_c cWa hr (by decide) rfl (pa_cons (pv 0) (pa_cons (pv 4) pa_nil))) (nomark _)) (pss_one (ps_ret pe_bl)) pss_nil)))))))))
      (pss_one (ps_ret pe_bl))), ?_⟩
    have z1000 : (100000 : Nat) < sizeLine := by decide
    obtain ⟨gv, ag, r, vl, vb, vx, vh, vL, e, e1, e2, e6, p1, p2, p3, p4, p5⟩ := O.site.ex
    have gl := O.l
    have l8 := O.l8
    rw [gl] at p2
    obtain ⟨L, rfl, ⟨us, gL, lu⟩, _⟩ := p2
    have lus := lu.1
    obtain ⟨wa, wl, wh⟩ := O.inW
    refine ⟨_, rfl, Sx, _, rfl, DGet.k (k := .inr "loop") e, L, _, rfl, .inl (SqL.of gL), _, _, rfl, rfl, _, rfl, by rw [List.length_map]; omega, by rw [List.length_map]; omega, ?_⟩
    have et : (((us.map V.ref).length : Int) + 1).toNat = lp.length + 1 := by rw [List.length_map, lus]; omega
    rw [et]
    refine for_range (n := lp.length + 1) (fun j σ H' => Same H H' ∧ ∃ x3 x4 x5 x6 : Option V, σ = [some (.ref Sx), some (.ref x), some (.int ((n + 1 : Nat) : Int)), x3, x4, x5, x6]) ⟨Same.refl H, _, _, _, _, rfl⟩ (fun j σ H0 hj ⟨s0, x3, x4, x5, x6, eσ⟩ => ?_) (fun σ H0 ⟨s0, x3, x4, x5, x6, eσ⟩ => ?_)
    · subst eσ
      have ej : (0 : Int) + (j : Int) = (j : Int) := Int.zero_add _
      rw [ej]
      have hj : j ≤ lp.length := by omega
      obtain ⟨pool, hpl, h6⟩ := O.ok.six
      have rsW : ∀ y, y ∈ t.rs → y ∈ t.words := fun y hy => by unfold Tol.words; simp [hy]
      have wS : ∀ m, ∀ z ∈ actsN (roundsT (lp.drop j) lp m t.g.h), z ∈ t.words := fun m z hz => by
        unfold roundsT at hz
        rw [actsN_app, actsN_app, List.mem_append, List.mem_append] at hz
        exact hz.elim (fun h => h.elim (fun h => wl z (actsDrop lp j z h)) (actsN_rep wl m z)) (wh z)
      have fin : ∀ nsq : List Str, nsq.Nodup → (∀ z ∈ nsq, z ∈ t.words) → (PyData.tuple (nsq.map PyData.str)).depth ≤ 50 ∧ (PyData.tuple (nsq.map PyData.str)).shown.length ≤ sizeLine := fun nsq nd h => by
        have l6 : nsq.length ≤ 6 := by
          rw [← many_of nsq nd]
          exact Nat.le_trans (many_in nsq pool fun z hz => hpl z (h z hz)) h6
        have := tupShown fun z hz => O.nm_ z (h z hz)
        have d := depTup nsq
        exact ⟨by show PyData.depthAll (nsq.map PyData.str) + 1 ≤ 50; omega, by omega⟩
      refine ⟨_, rfl, _, rfl, _, rfl, Sx, j, n + 1, t, lp, rfl, O.site.same s0, gl, l8, O.h8, hj, by omega, fun q4 H1 s1 lots4 => ?_⟩
      have s1 := s0.trans s1
      refine ⟨_, rfl, _, rfl, Sx, j, 0, t, lp, rfl, O.site.same s1, gl, l8, O.h8, hj, by omega, fun q6 H2 s2 lotN => ?_⟩
      have lots6 := lots4.same s2
      have s6 := s1.trans s2
      refine ⟨_, _, rfl, ?_⟩
      refine ⟨_, rfl, _, rfl, by show 2 ≤ sizeLine; decide, fun T1 hT1 => ?_⟩
      have k7 := Same.new (o := .tup [.str (Str.ofString "loop"), .int (j : Int)]) hT1
      have s7 := s6.trans k7
      refine ⟨x, T1, t, 1, j, Str.ofString "loop", lp, true, true, true, rfl, O.ip.same s7, O.ok, rfl, gl, hj, upd_same, fun q H8 s8 nq => ?_⟩
      obtain ⟨nsq, gq, b1, c1, d1⟩ := nq
      have d2 : ∀ z, z ∈ nsq ↔ Want (fun y => y ∈ t.rs) (roundsT (lp.drop j) lp (n + 1) t.g.h) z := fun z => (d1 z).trans ((want_congr (end1 (c1 := true) (c2 := true) (c3 := true) gl O.b O.s) _ z).trans (want_roundsT _ _ _ n z).symm)
      obtain ⟨f1, f2⟩ := fin nsq c1 fun z hz => wantIn (pool := t.words) rsW (wS _) z ((d2 z).mp hz)
      have k8 := k7.trans s8
      have s8 := s7.trans s8
      refine ⟨_, rfl, .ref q, .tuple (nsq.map PyData.str), rfl, .tup (SqT.of gq) (drTup nsq), showTup nsq, f1, f2, nofun, ?_⟩
      refine ⟨_, rfl, _, rfl, Sx, q4, t, _, rfl, O.site.same s8, O.ok, lots6.same k8, wS _, fun qd H9 s9 nd => ?_⟩
      have gd9 := nd.is nsq b1 c1 d2
      refine ⟨.ref qd, .tuple (nsq.map PyData.str), rfl, .tup (SqT.of gd9) (drTup nsq), showTup nsq, f1, f2, nofun, rfl, _, rfl, ite2 (fun hne => absurd hne (by simp)) (fun _ => ?_)⟩
      have k9 := k8.trans s9
      have s9 := s8.trans s9
      clear b1 c1 d1 d2 f1 f2 gq gd9 nd
      refine ⟨_, rfl, _, rfl, by show 2 ≤ sizeLine; decide, fun T2 hT2 => ⟨rfl, rfl, ?_⟩⟩
      have k10 := k9.trans (Same.new (o := .tup [.str (Str.ofString "loop"), .int (j : Int)]) hT2)
      have s10 := s9.trans (Same.new (o := .tup [.str (Str.ofString "loop"), .int (j : Int)]) hT2)
      refine ⟨x, T2, t, 1, j, Str.ofString "loop", lp, true, false, true, rfl, O.ip.same s10, O.ok, rfl, gl, hj, upd_same, fun q2 H11 s11 nq => ?_⟩
      obtain ⟨nsq, gq, b1, c1, d1⟩ := nq
      have d2 : ∀ z, z ∈ nsq ↔ Want (fun y => y ∈ t.rs) (roundsT (lp.drop j) lp 0 t.g.h) z := fun z => (d1 z).trans ((want_congr (end1 (c1 := true) (c2 := false) (c3 := true) gl O.b O.s) _ z).trans (want_last _ _ _ z).symm)
      obtain ⟨f1, f2⟩ := fin nsq c1 fun z hz => wantIn (pool := t.words) rsW (wS _) z ((d2 z).mp hz)
      have k11 := k10.trans s11
      have s11 := s10.trans s11
      refine ⟨_, rfl, .ref q2, .tuple (nsq.map PyData.str), rfl, .tup (SqT.of gq) (drTup nsq), showTup nsq, f1, f2, nofun, ?_⟩
      refine ⟨_, rfl, _, rfl, Sx, q6, t, _, rfl, O.site.same s11, O.ok, lotN.same k11, wS _, fun qd H12 s12 nd => ?_⟩
      have gd12 := nd.is nsq b1 c1 d2
      refine ⟨.ref qd, .tuple (nsq.map PyData.str), rfl, .tup (SqT.of gd12) (drTup nsq), showTup nsq, f1, f2, nofun, rfl, _, rfl, ite2 (fun hne => absurd hne (by simp)) (fun _ => ?_)⟩
      have k12 := k11.trans s12
      have s12 := s11.trans s12
      clear b1 c1 d1 d2 f1 f2 gq gd12 nd
      refine ⟨_, rfl, _, rfl, by show 2 ≤ sizeLine; decide, fun T3 hT3 => ⟨rfl, rfl, ?_⟩⟩
      have k13 := k12.trans (Same.new (o := .tup [.str (Str.ofString "loop"), .int (j : Int)]) hT3)
      have s13 := s12.trans (Same.new (o := .tup [.str (Str.ofString "loop"), .int (j : Int)]) hT3)
      refine ⟨x, T3, t, 1, j, Str.ofString "loop", lp, false, true, false, rfl, O.ip.same s13, O.ok, rfl, gl, hj, upd_same, fun q3 H14 s14 nq => ?_⟩
      obtain ⟨nsq, gq, b1, c1, d1⟩ := nq
      have d2 : ∀ z, z ∈ nsq ↔ Want (fun y => y ∈ t.rs) (roundsT (lp.drop j) lp (n + 1) t.g.h) z := fun z => (d1 z).trans ((want_congr (end1 (c1 := false) (c2 := true) (c3 := false) gl O.b O.s) _ z).trans (want_roundsT _ _ _ n z).symm)
      have nmq : ∀ z ∈ nsq, nm z = true := fun z hz => O.nm_ z (wantIn (pool := t.words) rsW (wS _) z ((d2 z).mp hz))
      have k14 := k13.trans s14
      have s14 := s13.trans s14
      refine ⟨_, rfl, _, rfl, _, rfl, Sx, q4, t, _, rfl, O.site.same s14, O.ok, lots6.same k14, wS _, fun qd H15 s15 nd => ?_⟩
      refine ⟨_, _, .tup (SqT.of (s15 _ _ gq)) (dpTup nsq), .tup (SqT.of (nd.is nsq b1 c1 d2)) (dpTup nsq), shapedTup nmq, shapedTup nmq, _, rfl, ?_⟩
      rw [eqvTup, decide_eq_true rfl]
      exact iteF ⟨s14.trans s15, _, _, _, _, rfl⟩
    · subst eσ
      exact k _ s0
end
end K33

set_option Elab.async false
set_option linter.all false
set_option maxRecDepth 100000
set_option maxHeartbeats 8000000
/-! k33: the law. -/
namespace K33
open PySem L2 NX NU LamX
open PyProof.Rows (sortedS)
abbrev sLaw : Stmt := top 94
abbrev NL : List Str := ["_law_script", "_law_pen_here", "_law_lap", "_law_site_here", "_law_thing", "_law_rounds_so", "_law_at", "_law_due"]
theorem scLaw : FnScope NL ["_law_script"] (defScope sLaw) := ⟨rfl, rfl, rfl, by decide +kernel, rfl, by decide +kernel, by decide +kernel⟩
def Tol.bare (t : Tol) : Tol := { t with g := { t.g with l := some [] } }
theorem okEmpty {t : Tol} (ok : t.Ok) : t.bare.Ok := by
  have ac : ∀ g : Prg, g.acts.length = g.a.length + (g.l.getD []).length + g.b.length + (g.s.getD []).length + g.h.length := fun g => by
    show (((((([] ++ g.a) ++ g.l.getD []) ++ g.b) ++ g.s.getD []) ++ g.h)).length = _
    simp only [List.nil_append, List.length_append]
  obtain ⟨pool, hp, h6⟩ := ok.six
  refine ⟨⟨(fun e => nomatch e), ok.shape.s⟩, ⟨ok.sizes.a, Nat.zero_le _, ok.sizes.b, ok.sizes.s, ok.sizes.h, ok.sizes.all⟩, ok.us, ok.ag, ok.rs, ⟨pool, fun z hz => hp z ?_, h6⟩, ?_, ⟨fun i i5 => ?_, ok.v.res⟩⟩
  · unfold Tol.words at hz ⊢
    rw [List.mem_append] at hz ⊢
    refine hz.imp id fun k => ?_
    rw [acts5] at k ⊢
    rcases k with k | k | k | k | k
    · exact .inl k
    · cases k
    · exact .inr (.inr (.inl k))
    · exact .inr (.inr (.inr (.inl k)))
    · exact .inr (.inr (.inr (.inr k)))
  · have h := ok.size
    rw [ac] at h
    show t.us.length + t.ag.length + t.rs.length + 4 * (Prg.acts { t.g with l := some [] }).length ≤ 1000
    rw [ac]
    show t.us.length + t.ag.length + t.rs.length + 4 * (t.g.a.length + 0 + t.g.b.length + (t.g.s.getD []).length + t.g.h.length) ≤ 1000
    omega
  · rcases five i5 with rfl | rfl | rfl | rfl | rfl
    · exact ok.v.uses 0 (by decide)
    · exact trivial
    · exact ok.v.uses 2 (by decide)
    · exact ok.v.uses 3 (by decide)
    · exact ok.v.uses 4 (by decide)
theorem PtI.nm {H : Hp} {v : V} : ∀ {o : Option (List Act)}, PtI H v o → ∀ z ∈ actsN (o.getD []), nm z = true
  | none, _, z, hz => by cases hz
  | some as, ⟨_, _, _, _, lo⟩, z, hz => by
    unfold actsN at hz
    obtain ⟨l, hl, hz⟩ := List.mem_flatten.mp hz
    obtain ⟨a, ha, rfl⟩ := List.mem_map.mp hl
    have q := lo a ha
    exact (mem_ns.mp hz).elim (q.u.2 z) fun e => q.m z e
theorem SiteG.nm {H : Hp} {S : Addr} {t : Tol} (h : SiteG H S t) (ok : t.Ok) : ∀ z ∈ t.words, nm z = true := fun z hz => by
  obtain ⟨gv, ag, r, vl, vb, vx, vh, vL, e, e1, e2, e6, p1, p2, p3, p4, p5⟩ := h.ex
  unfold Tol.words at hz
  rw [List.mem_append, List.mem_append, List.mem_append] at hz
  rcases hz with ((k | k) | k) | k
  · exact ok.us.nm_ z k
  · obtain ⟨q, hq, rfl⟩ := List.mem_map.mp k
    exact ok.ag.nm_ q hq
  · exact ok.rs.nm_ z k
  · rw [acts5] at k
    rcases k with k | k | k | k | k
    · exact PtI.nm p1 z k
    · exact PtI.nm p2 z k
    · exact PtI.nm p3 z k
    · exact PtI.nm p4 z k
    · exact PtI.nm p5 z k
theorem SiteG.but {H H' : Hp} {p c : Addr} {ns : List Int} {x y : Int} {S : Addr} {t : Tol} (P : Pen H p c ns x y) (B : But p H H') (h : SiteG H S t) : SiteG H' S t := by
  obtain ⟨gv, ag, r, vl, vb, vx, vh, vL, e, e1, e2, e6, p1, p2, p3, p4, p5⟩ := h.ex
  exact ⟨gv, ag, r, vl, vb, vx, vh, vL, B _ _ e (fun z => by rw [z, P.hp] at e; cases e), B _ _ e1 (pen_ne P e1), B _ _ e2 (agD_ne P e2), B _ _ e6 (pen_ne P e6), p1.but P B, p2.but P B, p3.but P B, p4.but P B, p5.but P B⟩
theorem ag_ne {H : Hp} {S ag gv a2 r : Addr} {vl vb vx vh vL : V} {l : List (Str × Int)} (e : H S = some (.dK (sk8 (.ref gv) (.ref a2) vl vb vx vh vL (.ref r)))) (h : AgD H ag l) : ag ≠ S := fun z => by
  unfold AgD at h
  rw [z, e] at h
  injection h with h
  injection h with h
  cases l with
  | nil => cases h
  | cons q r =>
    injection h with h _
    injection h with _ h
    cases h
theorem IsP.kl {K : PySem.W.Frag} {d : D3} {H H' : Hp} {x C : Addr} {t : Tol} (s : KL H H') (h : IsP K d H x C t) : IsP K d H' x C t := by
  obtain ⟨dx, nt, P, gt, ag, rt, ns, gs, rs, a, b, c, e, f, g, h1, h2, h3⟩ := h.ex
  obtain ⟨v0, v1, v2, v3, v4, q, q0, q1, q2, q3, q4⟩ := c
  exact ⟨dx, nt, P, gt, ag, rt, ns, gs, rs, s _ _ a (fun _ e => nomatch e), s _ _ b (fun _ e => nomatch e), ⟨v0, v1, v2, v3, v4, s _ _ q (fun _ e => nomatch e), q0.kl s, q1.kl s, q2.kl s, q3.kl s, q4.kl s⟩, s _ _ e (fun _ e => nomatch e), s _ _ f (fun _ e => nomatch e), s _ _ g (fun _ e => nomatch e), h1, h2, h3⟩
theorem But.kl {H H' : Hp} {p c : Addr} {ns : List Int} {x y : Int} (P : Pen H p c ns x y) (B : But p H H') : KL H H' := fun b o e n => B b o e fun z => by rw [z, P.hp] at e; exact n _ (Option.some.inj e).symm
def spLaw (K : PySem.W.Frag) : Sp := fun vs H Q _ => ∃ (a : Addr) (ns : List Int), vs = [.ref a] ∧ SqL K H a (ns.map V.int) ∧ ∀ H', Q (.bl true) H'
section
variable {P : Program} {w : World} {K : PySem.W.Frag} {mg : Str → Option Value} {base : Heap}
theorem ok_law {d : D3} {C fN fA fL : Addr} {fdN fdA fdL : FuncData} {f : Addr} {fd : FuncData} (F : Fun K "law" "law" sLaw f fd) (T : TxtB mg) (S : SysB base) (N : NeT P w K mg base d C fN fdN)
    (OA : FnG P w K mg base 8 fA fdA ["_law_site_here", "_law_thing", "_law_rounds_so"] (spAr K d C)) (gA : mg "_law_ahead_right" = some (.ref fA)) (kA : PySem.W.keepIn K (.ref fA) = true) (bA : Binds K fdA ["_law_site_here", "_law_thing", "_law_rounds_so"] [])
    (OL : FnG P w K mg base 8 fL fdL ["_law_site_here", "_law_thing", "_law_rounds_so"] (spAr K d C)) (gL : mg "_law_loop_right" = some (.ref fL)) (kL : PySem.W.keepIn K (.ref fL) = true) (bL : Binds K fdL ["_law_site_here", "_law_thing", "_law_rounds_so"] [])
    (cPen : C8.Cal P w K mg base 1 "_law_pen" (spPen K) []) (cDraw : C8.Cal P w K mg base 1 "_law_draw" spDraw []) (cSi : C8.Cal P w K mg base 4 "_law_site" spSg []) (cRl : C8.Cal P w K mg base 9 "_law_real" (spRlG K d C) []) (cWa : C8.Cal P w K mg base 3 "_law_wanted" spWaG []) : FnG P w K mg base 11 f fd ["_law_script"] (spLaw K) := by
  obtain ⟨dsN, vN, bN⟩ := ne_b N.fd_
  have cNe : C8.Cal P w K mg base 6 "needed" (spNe K d C) (kwsN.map (·.2)) := ⟨_, _, _, _, N.fn, N.g, N.kp, bN, vN⟩
  obtain ⟨mv1, kN1⟩ := ne_kU N.fd_
  obtain ⟨oc, od, kV, doc, pm, an, cdv, ct, osl, rfl, lk, hcd⟩ := F.ex
  refine ⟨fun vs H Q E h => ?_, fun A st s H args us vs Q gd hr0 e0 hb rv h => ?_⟩
  · obtain ⟨a, ns, rfl, _⟩ := h
    rfl
  · obtain ⟨a, ns, rfl, hS, k⟩ := h
    refine run_ofS (k := 10) (N := NL) (ps := ["_law_script"]) lk hcd scLaw hr0 e0 hb rv rfl fun hr => ?_
    have gd : (A.deeper (PyProof.Rows.envOfC "law" (defScope sLaw) s.heap.objs.size f cdv)).guards = some [] := gd
    have hu := hu_of hr
    refine ⟨_, PSs.nox (pss_cons (ps_set (i := 1) scLaw.nd rfl (Or.inl rfl) (C8.pe_c cPen hr (by decide) rfl (pa_cons (pv 0) pa_nil)))
      (pss_cons (ps_for PassesOwn.never rfl (pi_range1 (by rfl) T.brange (pa_cons pe_int pa_nil)) (pg_name (i := 2) scLaw.nd rfl (Or.inl rfl))
        (pss_cons (ps_set (i := 3) scLaw.nd rfl (Or.inl rfl) (C8.pe_c cSi hr (by decide) rfl (pa_cons (pv 1) (pa_cons pe_int (pa_cons pe_int pa_nil)))))
        (C8.pss_cut (ps_if (pt_cmpR op_eq (C8.pe_c cDraw hr (by decide) rfl (pa_cons (pv 1) (pa_cons pe_int pa_nil))) pe_int (nomark _)) (pss_one (ps_dput hu (pv 3) pe_str (pe_lst pa_nil) rfl)) pss_nil)
        (pss_cons (ps_par (i := 4) (j := 5) (by rfl) scLaw.nd rfl rfl (by decide) rfl rfl (pa_cons (C8.pe_c cRl hr (by decide) rfl (pa_cons (pv 3) pa_nil)) (pa_cons (pe_op op_add pe_int (C8.pe_c cDraw hr (by decide) rfl (pa_cons (pv 1) (pa_cons pe_int pa_nil)))) pa_nil)) (by rfl))
        (pss_cons (ps_if (pt_not (pt_val (pe_callG OA gd hr (by decide) rfl gA kA bA (pa_cons (pv 3) (pa_cons (pv 4) (pa_cons (pv 5) pa_nil)))))) (pss_one (ps_ret pe_bl)) pss_nil)
        (pss_cons (ps_if (pt_not (pt_val (pe_callG OL gd hr (by decide) rfl gL kL bL (pa_cons (pv 3) (pa_cons (pv 4) (pa_cons (pv 5) pa_nil)))))) (pss_one (ps_ret pe_bl)) pss_nil)
        (pss_cons (ps_for PassesOwn.never rfl (pi_range1 (by rfl) T.brange (pa_cons (pe_op op_add (pe_callB call_len_seq (by rfl) T.blen (by decide +kernel) (pa_cons (pe_dget hu (pv 3) pe_str (fun _ _ => rfl)) pa_nil)) pe_int) pa_nil)) (pg_name (i := 6) scLaw.nd rfl (Or.inl rfl))
          (pss_cons (ps_set (i := 7) scLaw.nd rfl (Or.inl rfl) (C8.pe_c cWa hr (by decide) rfl (pa_cons (pv 3) (pa_cons (pe_slice sl_list (pe_dget hu (pv 3) pe_str (fun _ _ => rfl)) (po_some (pv 6)) po_none) pa_nil))))
          (pss_one (ps_if (pt_cmpR op_ne (pe_callB (call_reprD gd hr.units S) (by rfl) T.brepr (by decide +kernel) (pa_cons (pe_callN (E := C8.E0) (ks := ["further"]) N.fn (hr.mono (by decide)) rfl N.g N.kp kN1 C8.pass0 (pa_cons (pv 4) (pa_cons (pe_tup (pa_cons pe_str (pa_cons (pv 6) pa_nil))) pa_nil)) (pk_cons pe_bl pk_nil)) pa_nil)) (pe_callB (call_reprD gd hr.units S) (by rfl) T.brepr (by decide +kernel) (pa_cons (pv 7) pa_nil)) (nomark _)) (pss_one (ps_ret pe_bl)) pss_nil))))
        (pss_one (ps_if (pt_cmpR (op_neD hr.units) (C8.pe_c cNe hr (by decide) rfl (pa_cons (pv 4) (pa_cons (pe_tup (pa_cons pe_str (pa_cons pe_int pa_nil))) pa_nil))) (C8.pe_c cWa hr (by decide) rfl (pa_cons (pv 3) (pa_cons (pe_dget hu (pv 3) pe_str (fun _ _ => rfl)) pa_nil))) (nomark _)) (pss_one (ps_ret pe_bl)) pss_nil)))))))))
      (pss_one (ps_ret pe_bl)))), ?_⟩
    have z1000 : (100000 : Nat) < sizeLine := by decide
    refine ⟨_, rfl, a, ns, rfl, hS, fun p c ms H1 hp Pn s1 => ?_⟩
    refine ⟨5, rfl, by decide, by decide, ?_⟩
    refine for_range (n := 5) (fun i σ H' => (∃ a1 r1, Pen H' p c ms a1 r1 ∧ a1 ≤ 1100 * i) ∧ ∃ x2 x3 x4 x5 x6 x7 : Option V, σ = [some (.ref a), some (.ref p), x2, x3, x4, x5, x6, x7]) ⟨⟨0, 0, Pn, by omega⟩, _, _, _, _, _, _, rfl⟩ (fun i σ H2 hi ⟨⟨a1, r1, P2, l2⟩, x2, x3, x4, x5, x6, x7, eσ⟩ => ?_) (fun σ H2 _ => k _)
    subst eσ
    refine ⟨_, rfl, p, c, ms, a1, r1, 1, 5, rfl, P2, by omega, by decide, by decide, fun Sx t0 H3 hS ok lo len hd => ?_⟩
    obtain ⟨a3, r3, P3, l3, _⟩ := hd
    obtain ⟨lp0, gl0⟩ : ∃ lp, t0.g.l = some lp := by
      have h := lo.1
      cases q : t0.g.l with
      | none => rw [q] at h; cases h
      | some lp => exact ⟨lp, rfl⟩
    have gs0 : t0.g.s = none := by
      have h := lo.2.1
      cases q : t0.g.s with
      | none => rfl
      | some s => rw [q] at h; cases h
    have gb0 := lo.2.2.1 (Nat.le_refl _)
    have n0 : t0.g.a.length ≤ 5 := len 0 (by decide)
    have n1 : (t0.g.l.getD []).length ≤ 5 := len 1 (by decide)
    have n4 : t0.g.h.length ≤ 5 := len 4 (by decide)
    rw [gl0] at n1
    have n1 : lp0.length ≤ 5 := n1
    refine ⟨fun σ H' => ∃ t lp, σ = [some (.ref a), some (.ref p), some (.int (0 + (i : Int))), some (.ref Sx), x4, x5, x6, x7] ∧ (∃ a4 r4, Pen H' p c ms a4 r4 ∧ a4 ≤ a3 + 1) ∧ SiteG H' Sx t ∧ t.Ok ∧ t.g.l = some lp ∧ t.g.b = [] ∧ t.g.s = none ∧ t.g.a.length ≤ 8 ∧ lp.length ≤ 8 ∧ t.g.h.length ≤ 8, ?_, ?_⟩
    · refine ⟨_, rfl, p, c, ms, a3, r3, 6, rfl, P3, by omega, by decide, by decide, fun dd H4 d0 d6 hd => ?_⟩
      obtain ⟨a4, r4, P4, l4, B4⟩ := hd
      have hS4 := hS.but P3 B4
      refine ⟨rfl, _, rfl, ite2 (fun _ => ?_) (fun _ => ⟨t0, lp0, rfl, ⟨a4, r4, P4, l4⟩, hS4, ok, gl0, gb0, gs0, by omega, by omega, by omega⟩)⟩
      refine ⟨by show 0 ≤ sizeLine; decide, fun q hq => ?_⟩
      have s5 := Same.new (o := .lst []) hq
      have gq : (upd H4 q (.lst [])) q = some (.lst []) := upd_same
      have hS5 := hS4.same s5
      have P5 := P4.same s5
      generalize (upd H4 q (.lst [])) = H5 at *
      obtain ⟨gv, ag, r, vl, vb, vx, vh, vL, e, e1, e2, e6, p1, p2, p3, p4, p5⟩ := hS5.ex
      have Sp : Sx ≠ p := fun z => by rw [z, P5.hp] at e; cases e
      have Sc : Sx ≠ c := fun z => by rw [z, P5.hc] at e; cases e
      have ep : putK (sk8 (.ref gv) (.ref ag) vl vb vx vh vL (.ref r)) (.inr "loop") (.ref q) = sk8 (.ref gv) (.ref ag) (.ref q) vb vx vh vL (.ref r) := rfl
      refine ⟨_, rfl, Sx, _, rfl, DPut.k (k := .inr "loop") e (by show 8 < sizeLine; decide), ?_⟩
      rw [ep]
      exact ⟨t0.bare, [], rfl, ⟨a4, r4, P5.put Sp Sc, l4⟩, ⟨gv, ag, r, .ref q, vb, vx, vh, vL, upd_same, (upd_ne (lst_ne e1 e)).trans e1, (upd_ne (ag_ne e e2)).trans e2, (upd_ne (lst_ne e6 e)).trans e6, p1.putD e, ⟨q, rfl, lots0 ((upd_ne (lst_ne gq e)).trans gq), Nat.zero_le _, nofun⟩, p3.putD e, p4.putD e, p5.putD e⟩, okEmpty ok, rfl, gb0, gs0, (show t0.g.a.length ≤ 8 by omega), Nat.zero_le _, (show t0.g.h.length ≤ 8 by omega)⟩
    · rintro σ H6 ⟨t, lp, rfl, ⟨a4, r4, P4, l4⟩, hS, ok, gl, gb, gs, a8, l8, h8⟩
      refine ⟨_, rfl, Sx, t, rfl, hS, ok, fun x H7 s7 ip => ?_⟩
      have P7 := P4.same s7
      refine ⟨_, rfl, p, c, ms, a4, r4, 9, rfl, P7, by omega, by decide, by decide, fun dd H8 d0 d9 hd => ?_⟩
      obtain ⟨n, rfl⟩ := Int.eq_ofNat_of_zero_le d0
      obtain ⟨a8', r8, P8, l8', B8⟩ := hd
      have hS8 := (hS.same s7).but P7 B8
      have O : One K d C H8 Sx x t lp := ⟨hS8, ok, IsP.kl (But.kl P7 B8) ip, gl, gb, gs, a8, l8, h8, hS8.nm ok⟩
      refine ⟨_, _, rfl, rfl, _, _, rfl, ?_⟩
      have en : ((n + 1 : Nat) : Int) = 1 + (n : Int) := by omega
      refine ⟨_, rfl, _, rfl, _, rfl, Sx, x, n, t, lp, by rw [en]; rfl, O, by omega, fun H9 s9 => ⟨true, rfl, iteF ?_⟩⟩
      have O := O.same s9
      refine ⟨_, rfl, _, rfl, _, rfl, Sx, x, n, t, lp, by rw [en]; rfl, O, by omega, fun H10 s10 => ⟨true, rfl, iteF ?_⟩⟩
      have O := O.same s10
      have P10 := (P8.same s9).same s10
      obtain ⟨gv, ag, r, vl, vb, vx, vh, vL, e, e1, e2, e6, p1, p2, p3, p4, p5⟩ := O.site.ex
      obtain ⟨B, rfl, ⟨bs, gB, lb⟩, _⟩ := p5
      have lbs := lb.1
      obtain ⟨wa, wl, wh⟩ := O.inW
      obtain ⟨pool, hpl, h6⟩ := O.ok.six
      have rsW : ∀ y, y ∈ t.rs → y ∈ t.words := fun y hy => by unfold Tol.words; simp [hy]
      have fin : ∀ nsq : List Str, nsq.Nodup → (∀ z ∈ nsq, z ∈ t.words) → (PyData.tuple (nsq.map PyData.str)).depth ≤ 50 ∧ (PyData.tuple (nsq.map PyData.str)).shown.length ≤ sizeLine := fun nsq nd h => by
        have l6 : nsq.length ≤ 6 := by
          rw [← many_of nsq nd]
          exact Nat.le_trans (many_in nsq pool fun z hz => hpl z (h z hz)) h6
        have := tupShown fun z hz => O.nm_ z (h z hz)
        have d := depTup nsq
        exact ⟨by show PyData.depthAll (nsq.map PyData.str) + 1 ≤ 50; omega, by omega⟩
      refine ⟨_, rfl, Sx, _, rfl, DGet.k (k := .inr "behind") e, B, _, rfl, .inl (SqL.of gB), _, _, rfl, rfl, _, rfl, by rw [List.length_map]; omega, by rw [List.length_map]; omega, ?_⟩
      have et : (((bs.map V.ref).length : Int) + 1).toNat = t.g.h.length + 1 := by rw [List.length_map, lbs]; omega
      rw [et]
      refine for_range (n := t.g.h.length + 1) (fun j σ H' => Same H10 H' ∧ ∃ x6 x7 : Option V, σ = [some (.ref a), some (.ref p), some (.int (0 + (i : Int))), some (.ref Sx), some (.ref x), some (.int (1 + (n : Int))), x6, x7]) ⟨Same.refl H10, _, _, rfl⟩ (fun j σ H0 hj ⟨s0, y6, y7, eσ⟩ => ?_) (fun σ H0 ⟨s0, y6, y7, eσ⟩ => ?_)
      · subst eσ
        have ej : (0 : Int) + (j : Int) = (j : Int) := Int.zero_add _
        rw [ej]
        have hj : j ≤ t.g.h.length := by omega
        have wB : ∀ z ∈ actsN (t.g.h.drop j), z ∈ t.words := fun z hz => wh z (actsDrop t.g.h j z hz)
        refine ⟨_, rfl, _, rfl, Sx, _, rfl, DGet.k (k := .inr "behind") (s0 _ _ e), _, rfl, _, rfl, B, _, rfl, SqL.of (s0 _ _ gB), fun q1 h1 => ?_⟩
        rw [cutJ V.ref bs j (by omega)]
        have s1 := s0.trans (Same.new (o := .lst ((bs.drop j).map V.ref)) h1)
        have g1 : (upd H0 q1 (.lst ((bs.drop j).map V.ref))) q1 = some (.lst ((bs.drop j).map V.ref)) := upd_same
        generalize (upd H0 q1 (.lst ((bs.drop j).map V.ref))) = H11 at *
        refine ⟨Sx, q1, t, t.g.h.drop j, rfl, O.site.same s1, O.ok, ⟨_, g1, (lb.same s1).drop j⟩, wB, fun qd H12 s2 nd => ?_⟩
        obtain ⟨nsq, gq, b1, c1, d1⟩ := nd
        have s2 := s1.trans s2
        obtain ⟨f1, f2⟩ := fin nsq c1 fun z hz => wantIn (pool := t.words) rsW wB z ((d1 z).mp hz)
        refine ⟨_, rfl, _, rfl, by show 2 ≤ sizeLine; decide, fun T1 hT1 => ⟨rfl, rfl, ?_⟩⟩
        have k3 := Same.new (o := .tup [.str (Str.ofString "behind"), .int (j : Int)]) hT1
        refine ⟨x, T1, t, 4, j, Str.ofString "behind", t.g.h, true, false, true, rfl, (O.ip.same s2).same k3, O.ok, rfl, rfl, hj, upd_same, fun q H13 s3 nq => ?_⟩
        have g3 := NmT.is nq nsq b1 c1 d1
        refine ⟨.ref q, .tuple (nsq.map PyData.str), rfl, .tup (SqT.of g3) (drTup nsq), showTup nsq, f1, f2, nofun, ?_⟩
        refine ⟨_, rfl, .ref qd, .tuple (nsq.map PyData.str), rfl, .tup (SqT.of (s3 _ _ (k3 _ _ gq))) (drTup nsq), showTup nsq, f1, f2, nofun, rfl, _, rfl, ite2 (fun hne => absurd hne (by simp)) (fun _ => ?_)⟩
        exact ⟨(s2.trans k3).trans s3, _, _, rfl⟩
      · subst eσ
        refine ⟨_, rfl, by show 2 ≤ sizeLine; decide, fun T1 hT1 => ?_⟩
        have s1 := s0.trans (Same.new (o := .tup [.str (Str.ofString "between"), .int 0]) hT1)
        refine ⟨x, T1, t, 2, 0, Str.ofString "between", [], true, true, true, rfl, O.ip.same s1, O.ok, rfl, by show some t.g.b = some []; rw [O.b], Nat.le_refl _, upd_same, fun q H12 s2 nq => ?_⟩
        obtain ⟨nsq, gq, b1, c1, d1⟩ := nq
        have s2 := s1.trans s2
        have d2 : ∀ z, z ∈ nsq ↔ Want (fun y => y ∈ t.rs) t.g.h z := fun z => (d1 z).trans (by
          show HeadW t.g.s true (Want (fun y => y ∈ t.rs) t.g.h) z ↔ _
          rw [O.s]
          exact Iff.rfl)
        have nmq : ∀ z ∈ nsq, nm z = true := fun z hz => O.nm_ z (wantIn (pool := t.words) rsW wh z ((d2 z).mp hz))
        refine ⟨_, rfl, _, rfl, Sx, _, rfl, DGet.k (k := .inr "behind") (s2 _ _ e), Sx, B, t, t.g.h, rfl, O.site.same s2, O.ok, ⟨bs, s2 _ _ gB, lb.same s2⟩, wh, fun qd H13 s3 nd => ?_⟩
        refine ⟨_, _, .tup (SqT.of (s3 _ _ gq)) (dpTup nsq), .tup (SqT.of (nd.is nsq b1 c1 d2)) (dpTup nsq), shapedTup nmq, shapedTup nmq, _, rfl, ?_⟩
        rw [eqvTup, decide_eq_true rfl]
        exact iteF ⟨⟨_, _, P10.same (s2.trans s3), by omega⟩, _, _, _, _, _, _, rfl⟩
end
end K33

set_option Elab.async false
set_option linter.all false
set_option maxRecDepth 100000
set_option maxHeartbeats 8000000
namespace K33
open PySem L2 NX NU LamX PySem.Spec PyProof.Rows
structure HeadF (K : PySem.W.Frag) (CS CD pNm c0 c1 c10 c11 dU dM dD cP i0 i1 i10 i11 fU fM fD fNm g1 g2 g3 g4 g5 fDof fHp p1 p2 p3 p4 p5 fP fN tPA tLO t0 t1 t2 t3 t4 fIs fNum fCnt fPri fCns fCun fAsc fCus fCp fCz fCt fAn fCv fCd fAl fHd fEn fIp fPen fDraw fPick fSome fNames fReal fOr fDs fSi fRp fRl fIw fWo fWa fRe fAr fLr fLaw : Addr) : Prop where
  n_int : PySem.W.nsIn K mainGlobals "int" = some none
  n_len : PySem.W.nsIn K mainGlobals "len" = some none
  n_abs : PySem.W.nsIn K mainGlobals "abs" = some none
  n_list : PySem.W.nsIn K mainGlobals "list" = some none
  n_str : PySem.W.nsIn K mainGlobals "str" = some none
  n_tuple : PySem.W.nsIn K mainGlobals "tuple" = some none
  n_isinstance : PySem.W.nsIn K mainGlobals "isinstance" = some none
  n_repr : PySem.W.nsIn K mainGlobals "repr" = some none
  n_range : PySem.W.nsIn K mainGlobals "range" = some none
  n_enumerate : PySem.W.nsIn K mainGlobals "enumerate" = some none
  n_ValueError : PySem.W.nsIn K mainGlobals "ValueError" = some none
  n_set : PySem.W.nsIn K mainGlobals "set" = some none
  n_sorted : PySem.W.nsIn K mainGlobals "sorted" = some none
  n_min : PySem.W.nsIn K mainGlobals "min" = some none
  n_bool : PySem.W.nsIn K mainGlobals "bool" = some none
  n_dict : PySem.W.nsIn K mainGlobals "dict" = some none
  n_reversed : PySem.W.nsIn K mainGlobals "reversed" = some none
  gLet : ∃ t, PySem.W.nsIn K mainGlobals "LETTERS" = some (some (.str "abcdefghijklmnopqrstuvwxyz" t))
  gMost : ∃ t, PySem.W.nsIn K mainGlobals "MOST_LETTERS" = some (some (.int 6 t))
  gPrice : ∃ t, PySem.W.nsIn K mainGlobals "MOST_PRICE" = some (some (.int 9 t))
  gAh : ∃ t, PySem.W.nsIn K mainGlobals "MOST_AHEAD" = some (some (.int 200 t))
  gIn : ∃ t, PySem.W.nsIn K mainGlobals "MOST_IN_PART" = some (some (.int 24 t))
  gNa : ∃ t, PySem.W.nsIn K mainGlobals "MOST_NAMES" = some (some (.int 6 t))
  gPA : PySem.W.nsIn K mainGlobals "PARTS" = some (some (.ref tPA))
  gLO : PySem.W.nsIn K mainGlobals "LOOPS" = some (some (.ref tLO))
  sPA : ∀ H : Hp, SqT K H tPA ((["ahead", "loop", "between", "second", "behind"] : List Str).map V.str)
  sLO : ∀ H : Hp, SqT K H tLO ((["loop", "second"] : List Str).map V.str)
  s_t1 : ∀ H : Hp, SqT K H t1 (([] : List Str).map V.str)
  s_t2 : ∀ H : Hp, SqT K H t2 (([] : List Str).map V.str)
  base : BaseF K CS
  e0 : ErrF K "BadName" "value" c0 i0 CS
  e1 : ErrF K "BadDeed" "value" c1 i1 CS
  e10 : ErrF K "Twice" "name" c10 i10 CS
  e11 : ErrF K "TooMany" "most" c11 i11 CS
  kU : ClsF K "Use" dU fU
  kU_uses : PySem.W.findIn K (.ref dU) "uses" = some none
  kU_makes : PySem.W.findIn K (.ref dU) "makes" = some none
  kU_names : PySem.W.findIn K (.ref dU) "_names" = some none
  kU_nm : PySem.W.findIn K (.ref dU) "names" = some (some (.ref pNm))
  kM : ClsF K "Make" dM fM
  kM_uses : PySem.W.findIn K (.ref dM) "uses" = some none
  kM_makes : PySem.W.findIn K (.ref dM) "makes" = some none
  kM_names : PySem.W.findIn K (.ref dM) "_names" = some none
  kM_nm : PySem.W.findIn K (.ref dM) "names" = some (some (.ref pNm))
  kD : ClsF K "Do" dD fD
  kD_uses : PySem.W.findIn K (.ref dD) "uses" = some none
  kD_makes : PySem.W.findIn K (.ref dD) "makes" = some none
  kD_names : PySem.W.findIn K (.ref dD) "_names" = some none
  kD_nm : PySem.W.findIn K (.ref dD) "names" = some (some (.ref pNm))
  kP : ClsF K "Program" cP fP
  kP_names : PySem.W.findIn K (.ref cP) "_names" = some none
  kP_parts : PySem.W.findIn K (.ref cP) "_parts" = some none
  kP_given : PySem.W.findIn K (.ref cP) "_given" = some none
  kP_again : PySem.W.findIn K (.ref cP) "_again" = some none
  kP_results : PySem.W.findIn K (.ref cP) "_results" = some none
  a_p1 : PySem.W.findIn K (.ref cP) "loop" = some (some (.ref p1))
  a_p2 : PySem.W.findIn K (.ref cP) "between" = some (some (.ref p2))
  a_p3 : PySem.W.findIn K (.ref cP) "second" = some (some (.ref p3))
  a_p4 : PySem.W.findIn K (.ref cP) "behind" = some (some (.ref p4))
  a_p5 : PySem.W.findIn K (.ref cP) "results" = some (some (.ref p5))
  pNm_g : PySem.W.specialIn K (.ref pNm) "__get__" = some (some (.builtin "property.__get__"))
  pNm_t : PySem.W.takesIn K (.ref pNm) = some true
  pNm_r : ∃ rest, PySem.W.recIn K pNm "property" = some (Value.ref fNm :: rest)
  p1_g : PySem.W.specialIn K (.ref p1) "__get__" = some (some (.builtin "property.__get__"))
  p1_t : PySem.W.takesIn K (.ref p1) = some true
  p1_r : ∃ rest, PySem.W.recIn K p1 "property" = some (Value.ref g1 :: rest)
  p2_g : PySem.W.specialIn K (.ref p2) "__get__" = some (some (.builtin "property.__get__"))
  p2_t : PySem.W.takesIn K (.ref p2) = some true
  p2_r : ∃ rest, PySem.W.recIn K p2 "property" = some (Value.ref g2 :: rest)
  p3_g : PySem.W.specialIn K (.ref p3) "__get__" = some (some (.builtin "property.__get__"))
  p3_t : PySem.W.takesIn K (.ref p3) = some true
  p3_r : ∃ rest, PySem.W.recIn K p3 "property" = some (Value.ref g3 :: rest)
  p4_g : PySem.W.specialIn K (.ref p4) "__get__" = some (some (.builtin "property.__get__"))
  p4_t : PySem.W.takesIn K (.ref p4) = some true
  p4_r : ∃ rest, PySem.W.recIn K p4 "property" = some (Value.ref g4 :: rest)
  p5_g : PySem.W.specialIn K (.ref p5) "__get__" = some (some (.builtin "property.__get__"))
  p5_t : PySem.W.takesIn K (.ref p5) = some true
  p5_r : ∃ rest, PySem.W.recIn K p5 "property" = some (Value.ref g5 :: rest)
  a_fDof : PySem.W.findIn K (.ref cP) "deeds_of" = some (some (.ref fDof))
  n_fDof : PySem.W.isFn K (.ref fDof) = true
  a_fHp : PySem.W.findIn K (.ref cP) "has_place" = some (some (.ref fHp))
  n_fHp : PySem.W.isFn K (.ref fHp) = true
  gD : PySem.W.nsIn K mainGlobals "Deed" = some (some (.ref CD))
  rdCD : RdF K CD
  mostCD : ∃ t, PySem.W.findCls K (.ref CD) (.type "type") "MOST" = some (.val (.int 3 t))
  gN : PySem.W.nsIn K mainGlobals "needed" = some (some (.ref fN))
  w_fP : ∃ fd, L2.FunD K "__init__" "Program.__init__" (defArgs sPi) (defBody sPi) (defScope sPi) (dvsP t0 t1 t2) (kwsP t3 t4) fP fd
  w_fN : ∃ fd, L2.FunD K "needed" "needed" (defArgs sNe) (defBody sNe) (defScope sNe) [] kwsN fN fd
  w_i0 : FnF K "__init__" "BadName.__init__" sErrN i0
  w_i1 : FnF K "__init__" "BadDeed.__init__" sErrD i1
  w_i10 : FnF K "__init__" "Twice.__init__" sErrT i10
  w_i11 : FnF K "__init__" "TooMany.__init__" sErrM i11
  w_fU : FnF K "__init__" "Use.__init__" sUse fU
  w_fM : FnF K "__init__" "Make.__init__" sMake fM
  w_fD : FnF K "__init__" "Do.__init__" sDo fD
  w_fNm : FnF K "names" "Deed.names" sNames fNm
  w_g1 : FnF K "loop" "Program.loop" (sPt 1) g1
  w_g2 : FnF K "between" "Program.between" (sPt 2) g2
  w_g3 : FnF K "second" "Program.second" (sPt 3) g3
  w_g4 : FnF K "behind" "Program.behind" (sPt 4) g4
  w_g5 : FnF K "results" "Program.results" sRs g5
  w_fDof : FnF K "deeds_of" "Program.deeds_of" sDof fDof
  w_fHp : FnF K "has_place" "Program.has_place" sHp fHp
  g_fIs : PySem.W.nsIn K mainGlobals "is_name" = some (some (.ref fIs))
  w_fIs : FnF K "is_name" "is_name" sIs fIs
  g_fNum : PySem.W.nsIn K mainGlobals "is_number" = some (some (.ref fNum))
  w_fNum : FnF K "is_number" "is_number" sNum fNum
  g_fCnt : PySem.W.nsIn K mainGlobals "is_count" = some (some (.ref fCnt))
  w_fCnt : FnF K "is_count" "is_count" sCnt fCnt
  g_fPri : PySem.W.nsIn K mainGlobals "is_price" = some (some (.ref fPri))
  w_fPri : FnF K "is_price" "is_price" sPri fPri
  g_fCns : PySem.W.nsIn K mainGlobals "check_names" = some (some (.ref fCns))
  w_fCns : FnF K "check_names" "check_names" sCns fCns
  g_fCun : PySem.W.nsIn K mainGlobals "check_unlike" = some (some (.ref fCun))
  w_fCun : FnF K "check_unlike" "check_unlike" sCun fCun
  g_fAsc : PySem.W.nsIn K mainGlobals "ascending" = some (some (.ref fAsc))
  w_fAsc : FnF K "ascending" "ascending" sAsc fAsc
  g_fCus : PySem.W.nsIn K mainGlobals "check_used" = some (some (.ref fCus))
  w_fCus : FnF K "check_used" "check_used" sCus fCus
  g_fCp : PySem.W.nsIn K mainGlobals "check_parts" = some (some (.ref fCp))
  w_fCp : FnF K "check_parts" "check_parts" sCp fCp
  g_fCz : PySem.W.nsIn K mainGlobals "check_sizes" = some (some (.ref fCz))
  w_fCz : FnF K "check_sizes" "check_sizes" sCz fCz
  g_fCt : PySem.W.nsIn K mainGlobals "check_told_names" = some (some (.ref fCt))
  w_fCt : FnF K "check_told_names" "check_told_names" sCt fCt
  g_fAn : PySem.W.nsIn K mainGlobals "all_names" = some (some (.ref fAn))
  w_fAn : FnF K "all_names" "all_names" sAn fAn
  g_fCv : PySem.W.nsIn K mainGlobals "check_values" = some (some (.ref fCv))
  w_fCv : FnF K "check_values" "check_values" sCv fCv
  g_fCd : PySem.W.nsIn K mainGlobals "check_deed_partchecks" = some (some (.ref fCd))
  w_fCd : FnF K "check_deed" "check_deed" sCd fCd
  g_fAl : PySem.W.nsIn K mainGlobals "needed_along" = some (some (.ref fAl))
  w_fAl : FnF K "needed_along" "needed_along" sAl fAl
  g_fHd : PySem.W.nsIn K mainGlobals "needed_at_head" = some (some (.ref fHd))
  w_fHd : FnF K "needed_at_head" "needed_at_head" sHd fHd
  g_fEn : PySem.W.nsIn K mainGlobals "needed_at_end" = some (some (.ref fEn))
  w_fEn : FnF K "needed_at_end" "needed_at_end" sEn fEn
  g_fIp : PySem.W.nsIn K mainGlobals "needed_in_part" = some (some (.ref fIp))
  w_fIp : FnF K "needed_in_part" "needed_in_part" sIp fIp
  g_fPen : PySem.W.nsIn K mainGlobals "_law_pen" = some (some (.ref fPen))
  w_fPen : FnF K "_law_pen" "_law_pen" sPen fPen
  g_fDraw : PySem.W.nsIn K mainGlobals "_law_draw" = some (some (.ref fDraw))
  w_fDraw : FnF K "_law_draw" "_law_draw" sDraw fDraw
  g_fPick : PySem.W.nsIn K mainGlobals "_law_pick" = some (some (.ref fPick))
  w_fPick : FnF K "_law_pick" "_law_pick" sPick fPick
  g_fSome : PySem.W.nsIn K mainGlobals "_law_some" = some (some (.ref fSome))
  w_fSome : FnF K "_law_some" "_law_some" sSome fSome
  g_fNames : PySem.W.nsIn K mainGlobals "_law_names" = some (some (.ref fNames))
  w_fNames : FnF K "_law_names" "_law_names" sLNames fNames
  g_fReal : PySem.W.nsIn K mainGlobals "_law_real_deed" = some (some (.ref fReal))
  w_fReal : FnF K "_law_real_deed" "_law_real_deed" sReal fReal
  g_fOr : PySem.W.nsIn K mainGlobals "_law_order" = some (some (.ref fOr))
  w_fOr : FnF K "_law_order" "_law_order" sOr fOr
  g_fDs : PySem.W.nsIn K mainGlobals "_law_deeds" = some (some (.ref fDs))
  w_fDs : FnF K "_law_deeds" "_law_deeds" sDs fDs
  g_fSi : PySem.W.nsIn K mainGlobals "_law_site" = some (some (.ref fSi))
  w_fSi : FnF K "_law_site" "_law_site" sSi fSi
  g_fRp : PySem.W.nsIn K mainGlobals "_law_real_part" = some (some (.ref fRp))
  w_fRp : FnF K "_law_real_part" "_law_real_part" sRp fRp
  g_fRl : PySem.W.nsIn K mainGlobals "_law_real" = some (some (.ref fRl))
  w_fRl : FnF K "_law_real" "_law_real" sRl fRl
  g_fIw : PySem.W.nsIn K mainGlobals "_law_is_wanted" = some (some (.ref fIw))
  w_fIw : FnF K "_law_is_wanted" "_law_is_wanted" sIw fIw
  g_fWo : PySem.W.nsIn K mainGlobals "_law_words_of" = some (some (.ref fWo))
  w_fWo : FnF K "_law_words_of" "_law_words_of" sWo fWo
  g_fWa : PySem.W.nsIn K mainGlobals "_law_wanted" = some (some (.ref fWa))
  w_fWa : FnF K "_law_wanted" "_law_wanted" sWa fWa
  g_fRe : PySem.W.nsIn K mainGlobals "_law_rest" = some (some (.ref fRe))
  w_fRe : FnF K "_law_rest" "_law_rest" sRe fRe
  g_fAr : PySem.W.nsIn K mainGlobals "_law_ahead_right" = some (some (.ref fAr))
  w_fAr : FnF K "_law_ahead_right" "_law_ahead_right" sAr fAr
  g_fLr : PySem.W.nsIn K mainGlobals "_law_loop_right" = some (some (.ref fLr))
  w_fLr : FnF K "_law_loop_right" "_law_loop_right" sLr fLr
  g_fLaw : PySem.W.nsIn K mainGlobals "law" = some (some (.ref fLaw))
  w_fLaw : FnF K "law" "law" sLaw fLaw
section
variable {K : PySem.W.Frag} {mg : Str → Option Value} {h : Heap} {CS CD pNm c0 c1 c10 c11 dU dM dD cP i0 i1 i10 i11 fU fM fD fNm g1 g2 g3 g4 g5 fDof fHp p1 p2 p3 p4 p5 fP fN tPA tLO t0 t1 t2 t3 t4 fIs fNum fCnt fPri fCns fCun fAsc fCus fCp fCz fCt fAn fCv fCd fAl fHd fEn fIp fPen fDraw fPick fSome fNames fReal fOr fDs fSi fRp fRl fIw fWo fWa fRe fAr fLr fLaw : Addr}
theorem HeadF.law {l : PySem.W.OpenLaw} {w : World} {fa : Addr} (D : HeadF K CS CD pNm c0 c1 c10 c11 dU dM dD cP i0 i1 i10 i11 fU fM fD fNm g1 g2 g3 g4 g5 fDof fHp p1 p2 p3 p4 p5 fP fN tPA tLO t0 t1 t2 t3 t4 fIs fNum fCnt fPri fCns fCun fAsc fCus fCp fCz fCt fAn fCv fCd fAl fHd fEn fIp fPen fDraw fPick fSome fNames fReal fOr fDs fSi fRp fRl fIw fWo fWa fRe fAr fLr fLaw) (X : K.In h) (G : h.Ns mainGlobals mg) (hfa : mg "law" = some (.ref fa)) : ∃ fd cs sp, LawG l w K 11 63 "_law_script" mg fa h fd cs sp := by
  have e := hfa.symm.trans (PySem.W.mg_of X G D.g_fLaw)
  cases e
  have TB : TxtB mg := ⟨PySem.W.mg_none_of X G D.n_int, PySem.W.mg_none_of X G D.n_len, PySem.W.mg_none_of X G D.n_abs, PySem.W.mg_none_of X G D.n_list, PySem.W.mg_none_of X G D.n_str, PySem.W.mg_none_of X G D.n_tuple, PySem.W.mg_none_of X G D.n_isinstance, PySem.W.mg_none_of X G D.n_repr, PySem.W.mg_none_of X G D.n_range, PySem.W.mg_none_of X G D.n_enumerate, PySem.W.mg_none_of X G D.n_ValueError⟩
  have TA : TxtA mg := ⟨PySem.W.mg_none_of X G D.n_set, PySem.W.mg_none_of X G D.n_sorted, PySem.W.mg_none_of X G D.n_tuple⟩
  have TN : TxtN mg := ⟨(let ⟨t, e⟩ := D.gLet; ⟨t, PySem.W.mg_of X G e⟩), (let ⟨t, e⟩ := D.gMost; ⟨t, PySem.W.mg_of X G e⟩)⟩
  have TP : TxtP mg := ⟨PySem.W.mg_none_of X G D.n_bool, PySem.W.mg_none_of X G D.n_dict, PySem.W.mg_none_of X G D.n_reversed, (let ⟨t, e⟩ := D.gPrice; ⟨t, PySem.W.mg_of X G e⟩)⟩
  have TQ : TxtQ mg K := ⟨⟨tPA, PySem.W.mg_of X G D.gPA, D.sPA⟩, ⟨tLO, PySem.W.mg_of X G D.gLO, D.sLO⟩, (let ⟨t, e⟩ := D.gAh; ⟨t, PySem.W.mg_of X G e⟩), (let ⟨t, e⟩ := D.gIn; ⟨t, PySem.W.mg_of X G e⟩), (let ⟨t, e⟩ := D.gNa; ⟨t, PySem.W.mg_of X G e⟩)⟩
  obtain ⟨fd_i0, F_i0⟩ := D.w_i0.ex
  have b_i0 := F_i0.binds (ps := ["self", "value"]) fun _ _ _ _ _ _ us hl => match us, hl with | [_, _], _ => rfl
  obtain ⟨fd_i1, F_i1⟩ := D.w_i1.ex
  have b_i1 := F_i1.binds (ps := ["self", "value"]) fun _ _ _ _ _ _ us hl => match us, hl with | [_, _], _ => rfl
  obtain ⟨fd_i10, F_i10⟩ := D.w_i10.ex
  have b_i10 := F_i10.binds (ps := ["self", "name"]) fun _ _ _ _ _ _ us hl => match us, hl with | [_, _], _ => rfl
  obtain ⟨fd_i11, F_i11⟩ := D.w_i11.ex
  have b_i11 := F_i11.binds (ps := ["self", "most"]) fun _ _ _ _ _ _ us hl => match us, hl with | [_, _], _ => rfl
  obtain ⟨fd_fU, F_fU⟩ := D.w_fU.ex
  obtain ⟨fd_fM, F_fM⟩ := D.w_fM.ex
  have b_fM := F_fM.binds (ps := ["self", "name"]) fun _ _ _ _ _ _ us hl => match us, hl with | [_, _], _ => rfl
  obtain ⟨fd_fD, F_fD⟩ := D.w_fD.ex
  obtain ⟨fd_fNm, F_fNm⟩ := D.w_fNm.ex
  have b_fNm := F_fNm.binds (ps := ["self"]) fun _ _ _ _ _ _ us hl => match us, hl with | [_], _ => rfl
  obtain ⟨fd_g1, F_g1⟩ := D.w_g1.ex
  have b_g1 := F_g1.binds (ps := ["self"]) fun _ _ _ _ _ _ us hl => match us, hl with | [_], _ => rfl
  obtain ⟨fd_g2, F_g2⟩ := D.w_g2.ex
  have b_g2 := F_g2.binds (ps := ["self"]) fun _ _ _ _ _ _ us hl => match us, hl with | [_], _ => rfl
  obtain ⟨fd_g3, F_g3⟩ := D.w_g3.ex
  have b_g3 := F_g3.binds (ps := ["self"]) fun _ _ _ _ _ _ us hl => match us, hl with | [_], _ => rfl
  obtain ⟨fd_g4, F_g4⟩ := D.w_g4.ex
  have b_g4 := F_g4.binds (ps := ["self"]) fun _ _ _ _ _ _ us hl => match us, hl with | [_], _ => rfl
  obtain ⟨fd_g5, F_g5⟩ := D.w_g5.ex
  have b_g5 := F_g5.binds (ps := ["self"]) fun _ _ _ _ _ _ us hl => match us, hl with | [_], _ => rfl
  obtain ⟨fd_fDof, F_fDof⟩ := D.w_fDof.ex
  have b_fDof := F_fDof.binds (ps := ["self", "part"]) fun _ _ _ _ _ _ us hl => match us, hl with | [_, _], _ => rfl
  obtain ⟨fd_fHp, F_fHp⟩ := D.w_fHp.ex
  have b_fHp := F_fHp.binds (ps := ["self", "value"]) fun _ _ _ _ _ _ us hl => match us, hl with | [_, _], _ => rfl
  obtain ⟨fd_fIs, F_fIs⟩ := D.w_fIs.ex
  have b_fIs := F_fIs.binds (ps := ["value"]) fun _ _ _ _ _ _ us hl => match us, hl with | [_], _ => rfl
  obtain ⟨fd_fNum, F_fNum⟩ := D.w_fNum.ex
  have b_fNum := F_fNum.binds (ps := ["value"]) fun _ _ _ _ _ _ us hl => match us, hl with | [_], _ => rfl
  obtain ⟨fd_fCnt, F_fCnt⟩ := D.w_fCnt.ex
  have b_fCnt := F_fCnt.binds (ps := ["value"]) fun _ _ _ _ _ _ us hl => match us, hl with | [_], _ => rfl
  obtain ⟨fd_fPri, F_fPri⟩ := D.w_fPri.ex
  have b_fPri := F_fPri.binds (ps := ["value"]) fun _ _ _ _ _ _ us hl => match us, hl with | [_], _ => rfl
  obtain ⟨fd_fCns, F_fCns⟩ := D.w_fCns.ex
  have b_fCns := F_fCns.binds (ps := ["values"]) fun _ _ _ _ _ _ us hl => match us, hl with | [_], _ => rfl
  obtain ⟨fd_fCun, F_fCun⟩ := D.w_fCun.ex
  have b_fCun := F_fCun.binds (ps := ["names"]) fun _ _ _ _ _ _ us hl => match us, hl with | [_], _ => rfl
  obtain ⟨fd_fAsc, F_fAsc⟩ := D.w_fAsc.ex
  have b_fAsc := F_fAsc.binds (ps := ["names"]) fun _ _ _ _ _ _ us hl => match us, hl with | [_], _ => rfl
  obtain ⟨fd_fCus, F_fCus⟩ := D.w_fCus.ex
  have b_fCus := F_fCus.binds (ps := ["names"]) fun _ _ _ _ _ _ us hl => match us, hl with | [_], _ => rfl
  obtain ⟨fd_fCp, F_fCp⟩ := D.w_fCp.ex
  have b_fCp := F_fCp.binds (ps := ["parts"]) fun _ _ _ _ _ _ us hl => match us, hl with | [_], _ => rfl
  obtain ⟨fd_fCz, F_fCz⟩ := D.w_fCz.ex
  have b_fCz := F_fCz.binds (ps := ["parts"]) fun _ _ _ _ _ _ us hl => match us, hl with | [_], _ => rfl
  obtain ⟨fd_fCt, F_fCt⟩ := D.w_fCt.ex
  have b_fCt := F_fCt.binds (ps := ["given", "again", "results"]) fun _ _ _ _ _ _ us hl => match us, hl with | [_, _, _], _ => rfl
  obtain ⟨fd_fAn, F_fAn⟩ := D.w_fAn.ex
  have b_fAn := F_fAn.binds (ps := ["parts", "given", "again", "results"]) fun _ _ _ _ _ _ us hl => match us, hl with | [_, _, _, _], _ => rfl
  obtain ⟨fd_fCv, F_fCv⟩ := D.w_fCv.ex
  have b_fCv := F_fCv.binds (ps := ["parts", "given", "again", "results"]) fun _ _ _ _ _ _ us hl => match us, hl with | [_, _, _, _], _ => rfl
  obtain ⟨fd_fCd, F_fCd⟩ := D.w_fCd.ex
  have b_fCd := F_fCd.binds (ps := ["deed", "place", "known", "again"]) fun _ _ _ _ _ _ us hl => match us, hl with | [_, _, _, _], _ => rfl
  obtain ⟨fd_fAl, F_fAl⟩ := D.w_fAl.ex
  have b_fAl := F_fAl.binds (ps := ["deeds", "names"]) fun _ _ _ _ _ _ us hl => match us, hl with | [_, _], _ => rfl
  obtain ⟨fd_fHd, F_fHd⟩ := D.w_fHd.ex
  have b_fHd := F_fHd.binds (ps := ["loop", "comes", "names"]) fun _ _ _ _ _ _ us hl => match us, hl with | [_, _, _], _ => rfl
  obtain ⟨fd_fEn, F_fEn⟩ := D.w_fEn.ex
  have b_fEn := F_fEn.binds (ps := ["program", "part", "first", "further", "second"]) fun _ _ _ _ _ _ us hl => match us, hl with | [_, _, _, _, _], _ => rfl
  obtain ⟨fd_fIp, F_fIp⟩ := D.w_fIp.ex
  have b_fIp := F_fIp.binds (ps := ["program", "part", "first", "further", "second"]) fun _ _ _ _ _ _ us hl => match us, hl with | [_, _, _, _, _], _ => rfl
  obtain ⟨fd_fPen, F_fPen⟩ := D.w_fPen.ex
  have b_fPen := F_fPen.binds (ps := ["_law_script"]) fun _ _ _ _ _ _ us hl => match us, hl with | [_], _ => rfl
  obtain ⟨fd_fDraw, F_fDraw⟩ := D.w_fDraw.ex
  have b_fDraw := F_fDraw.binds (ps := ["_law_pen_here", "_law_many"]) fun _ _ _ _ _ _ us hl => match us, hl with | [_, _], _ => rfl
  obtain ⟨fd_fPick, F_fPick⟩ := D.w_fPick.ex
  have b_fPick := F_fPick.binds (ps := ["_law_pen_here", "_law_some_here"]) fun _ _ _ _ _ _ us hl => match us, hl with | [_, _], _ => rfl
  obtain ⟨fd_fSome, F_fSome⟩ := D.w_fSome.ex
  have b_fSome := F_fSome.binds (ps := ["_law_pen_here", "_law_pool", "_law_least", "_law_most"]) fun _ _ _ _ _ _ us hl => match us, hl with | [_, _, _, _], _ => rfl
  obtain ⟨fd_fNames, F_fNames⟩ := D.w_fNames.ex
  have b_fNames := F_fNames.binds (ps := ["_law_pen_here", "_law_many"]) fun _ _ _ _ _ _ us hl => match us, hl with | [_, _], _ => rfl
  obtain ⟨fd_fReal, F_fReal⟩ := D.w_fReal.ex
  have b_fReal := F_fReal.binds (ps := ["_law_made", "_law_used"]) fun _ _ _ _ _ _ us hl => match us, hl with | [_, _], _ => rfl
  obtain ⟨fd_fOr, F_fOr⟩ := D.w_fOr.ex
  have b_fOr := F_fOr.binds (ps := []) fun _ _ _ _ _ _ us hl => match us, hl with | [], _ => rfl
  obtain ⟨fd_fDs, F_fDs⟩ := D.w_fDs.ex
  have b_fDs := F_fDs.binds (ps := ["_law_pen_here", "_law_known", "_law_free", "_law_most"]) fun _ _ _ _ _ _ us hl => match us, hl with | [_, _, _, _], _ => rfl
  obtain ⟨fd_fSi, F_fSi⟩ := D.w_fSi.ex
  have b_fSi := F_fSi.binds (ps := ["_law_pen_here", "_law_loops", "_law_most"]) fun _ _ _ _ _ _ us hl => match us, hl with | [_, _, _], _ => rfl
  obtain ⟨fd_fRp, F_fRp⟩ := D.w_fRp.ex
  have b_fRp := F_fRp.binds (ps := ["_law_deeds_here"]) fun _ _ _ _ _ _ us hl => match us, hl with | [_], _ => rfl
  obtain ⟨fd_fRl, F_fRl⟩ := D.w_fRl.ex
  have b_fRl := F_fRl.binds (ps := ["_law_site_here"]) fun _ _ _ _ _ _ us hl => match us, hl with | [_], _ => rfl
  obtain ⟨fd_fIw, F_fIw⟩ := D.w_fIw.ex
  have b_fIw := F_fIw.binds (ps := ["_law_deeds_here", "_law_results_so", "_law_word"]) fun _ _ _ _ _ _ us hl => match us, hl with | [_, _, _], _ => rfl
  obtain ⟨fd_fWo, F_fWo⟩ := D.w_fWo.ex
  have b_fWo := F_fWo.binds (ps := ["_law_site_here"]) fun _ _ _ _ _ _ us hl => match us, hl with | [_], _ => rfl
  obtain ⟨fd_fWa, F_fWa⟩ := D.w_fWa.ex
  have b_fWa := F_fWa.binds (ps := ["_law_site_here", "_law_deeds_here"]) fun _ _ _ _ _ _ us hl => match us, hl with | [_, _], _ => rfl
  obtain ⟨fd_fRe, F_fRe⟩ := D.w_fRe.ex
  have b_fRe := F_fRe.binds (ps := ["_law_site_here", "_law_at", "_law_rounds_so"]) fun _ _ _ _ _ _ us hl => match us, hl with | [_, _, _], _ => rfl
  obtain ⟨fd_fAr, F_fAr⟩ := D.w_fAr.ex
  have b_fAr := F_fAr.binds (ps := ["_law_site_here", "_law_thing", "_law_rounds_so"]) fun _ _ _ _ _ _ us hl => match us, hl with | [_, _, _], _ => rfl
  obtain ⟨fd_fLr, F_fLr⟩ := D.w_fLr.ex
  have b_fLr := F_fLr.binds (ps := ["_law_site_here", "_law_thing", "_law_rounds_so"]) fun _ _ _ _ _ _ us hl => match us, hl with | [_, _, _], _ => rfl
  obtain ⟨fd_fLaw, F_fLaw⟩ := D.w_fLaw.ex
  have b_fLaw := F_fLaw.binds (ps := ["_law_script"]) fun _ _ _ _ _ _ us hl => match us, hl with | [_], _ => rfl
  obtain ⟨fd_fP, F_fP⟩ := D.w_fP
  obtain ⟨fd_fN, F_fN⟩ := D.w_fN
  have b_L : ∀ (t : Shared) (u : Value), BindsTo t fd_fLaw ⟨[u], []⟩ [("_law_script", u)] := by
    obtain ⟨oc, od, kV, doc, pm, an, cdv, ct, osl, rfl, lk, hcd⟩ := F_fLaw.ex
    exact fun t u => .of_eq rfl
  have dcs : Dcs K mg ⟨dU, dM, dD⟩ fU fM fD :=
    { mu := D.kU.mak, mm := D.kM.mak, md := D.kD.mak, gu := PySem.W.mg_of X G D.kU.g, gm := PySem.W.mg_of X G D.kM.g, gd := PySem.W.mg_of X G D.kD.g
      du := ⟨D.kU.cls, D.kU_uses, D.kU_makes, D.kU_names⟩, dm := ⟨D.kM.cls, D.kM_uses, D.kM_makes, D.kM_names⟩, dd := ⟨D.kD.cls, D.kD_uses, D.kD_makes, D.kD_names⟩ }
  have k3 : D3C K ⟨dU, dM, dD⟩ := ⟨dcs.du, dcs.dm, dcs.dd⟩
  have deedC : DeedC K mg CD := ⟨PySem.W.mg_of X G D.gD, let ⟨t, e⟩ := D.mostCD; ⟨.type "type", _, ⟨D.rdCD.rd, D.rdCD.ga⟩, ⟨e, ⟨_, rfl⟩⟩⟩⟩
  have PC : PCls K cP := ⟨D.kP.cls, D.kP_names, D.kP_parts, D.kP_given, D.kP_again, D.kP_results⟩
  refine ⟨fd_fLaw, [], spLaw K, ⟨nofun, nofun, nofun, b_L, fun H a ns hl hT hS => ⟨a, ns, rfl, hS, fun H' => rfl⟩, fun base Xb Gb TBs SB => ?_⟩⟩
  have c_fDraw : C8.Cal l.prog w K mg base 1 "_law_draw" spDraw [] := ⟨_, _, _, _, ok_draw F_fDraw TB, PySem.W.mg_of X G D.g_fDraw, F_fDraw.kp, b_fDraw, .nil⟩
  have c_fPen : C8.Cal l.prog w K mg base 1 "_law_pen" (spPen K) [] := ⟨_, _, _, _, ok_pen F_fPen TB, PySem.W.mg_of X G D.g_fPen, F_fPen.kp, b_fPen, .nil⟩
  have c_fPick : C8.Cal l.prog w K mg base 2 "_law_pick" (spPick K) [] := ⟨_, _, _, _, ok_pick F_fPick TB c_fDraw, PySem.W.mg_of X G D.g_fPick, F_fPick.kp, b_fPick, .nil⟩
  have c_fIs : C8.Cal l.prog w K mg base 1 "is_name" (spIs K) [] := ⟨_, _, _, _, ok_is F_fIs TB TN, PySem.W.mg_of X G D.g_fIs, F_fIs.kp, b_fIs, .nil⟩
  have EN : ErrC l.prog w K mg base "BadName" "value" c0 i0 := ⟨D.e0.O, D.e0.i, D.e0.t, ⟨_, ok_errN F_i0, b_i0⟩, PySem.W.mg_of X G D.e0.g, D.e0.v⟩
  have ED : ErrC l.prog w K mg base "BadDeed" "value" c1 i1 := ⟨D.e1.O, D.e1.i, D.e1.t, ⟨_, ok_errD F_i1, b_i1⟩, PySem.W.mg_of X G D.e1.g, D.e1.v⟩
  have ET : ErrC l.prog w K mg base "Twice" "name" c10 i10 := ⟨D.e10.O, D.e10.i, D.e10.t, ⟨_, ok_errT F_i10, b_i10⟩, PySem.W.mg_of X G D.e10.g, D.e10.v⟩
  have EM : ErrC l.prog w K mg base "TooMany" "most" c11 i11 := ⟨D.e11.O, D.e11.i, D.e11.t, ⟨_, ok_errM F_i11, b_i11⟩, PySem.W.mg_of X G D.e11.g, D.e11.v⟩
  have c_fCns : CalL l.prog w K mg base 3 "check_names" (spCns K c0) := ⟨⟨_, _, _, ok_cns F_fCns c_fIs EN, PySem.W.mg_of X G D.g_fCns, F_fCns.kp, b_fCns⟩⟩
  have c_fCun : CalL l.prog w K mg base 3 "check_unlike" (spCun K c10) := ⟨⟨_, _, _, ok_cun F_fCun ET, PySem.W.mg_of X G D.g_fCun, F_fCun.kp, b_fCun⟩⟩
  have c_fCus : CalL l.prog w K mg base 4 "check_used" (spCus K ⟨c0, c10, c11, c1⟩) := ⟨⟨_, _, _, ok_cus (fT := i10) F_fCus TB c_fCun deedC EM ED, PySem.W.mg_of X G D.g_fCus, F_fCus.kp, b_fCus⟩⟩
  have c_fAsc : C8.Cal l.prog w K mg base 1 "ascending" (spAsc K) [] := ⟨_, _, _, _, ok_asc F_fAsc TA, PySem.W.mg_of X G D.g_fAsc, F_fAsc.kp, b_fAsc, .nil⟩
  have cks : Cks l.prog w K mg base ⟨c0, c10, c11, c1⟩ := ⟨c_fCns, c_fCus, c_fAsc⟩
  have OU : FnR l.prog w K mg base (L2N.CX l.prog w) 5 fU (spUse K ⟨c0, c10, c11, c1⟩) := ok_use cks F_fU
  have OD : FnR l.prog w K mg base (L2N.CX l.prog w) 5 fD (spDo K ⟨c0, c10, c11, c1⟩) := ok_do cks F_fD
  have OM : FnOk l.prog w K mg base (L2N.CX l.prog w) 4 fM fd_fM ["self", "name"] (spMake K ⟨c0, c10, c11, c1⟩) := ok_make cks F_fM
  have pN1 : PropOf K dU "names" pNm fNm := ⟨D.kU_nm, D.pNm_g, D.pNm_t, D.pNm_r⟩
  have pN2 : PropOf K dM "names" pNm fNm := ⟨D.kM_nm, D.pNm_g, D.pNm_t, D.pNm_r⟩
  have pN3 : PropOf K dD "names" pNm fNm := ⟨D.kD_nm, D.pNm_g, D.pNm_t, D.pNm_r⟩
  have ONm : FnOk l.prog w K mg base CX0 1 fNm fd_fNm ["self"] (spNames K ⟨dU, dM, dD⟩) := ok_names F_fNm k3
  have c_fNum : C8.Cal l.prog w K mg base 1 "is_number" spNum [] := ⟨_, _, _, _, ok_num F_fNum TB TP, PySem.W.mg_of X G D.g_fNum, F_fNum.kp, b_fNum, .nil⟩
  have c_fCnt : C8.Cal l.prog w K mg base 2 "is_count" spCnt [] := ⟨_, _, _, _, ok_cnt F_fCnt c_fNum, PySem.W.mg_of X G D.g_fCnt, F_fCnt.kp, b_fCnt, .nil⟩
  have c_fPri : C8.Cal l.prog w K mg base 3 "is_price" spPri [] := ⟨_, _, _, _, ok_pri F_fPri TP c_fCnt, PySem.W.mg_of X G D.g_fPri, F_fPri.kp, b_fPri, .nil⟩
  have cS_fCns : C8.Cal l.prog w K mg base 2 "check_names" (spCnsS K) [] := ⟨_, _, _, _, ok_cnsS F_fCns c_fIs, PySem.W.mg_of X G D.g_fCns, F_fCns.kp, b_fCns, .nil⟩
  have cS_fCun : C8.Cal l.prog w K mg base 1 "check_unlike" (spCunS K) [] := ⟨_, _, _, _, ok_cunS F_fCun, PySem.W.mg_of X G D.g_fCun, F_fCun.kp, b_fCun, .nil⟩
  have cS_fAsc : C8.Cal l.prog w K mg base 1 "ascending" (spAscM K) [] := ⟨_, _, _, _, ok_ascM F_fAsc TA, PySem.W.mg_of X G D.g_fAsc, F_fAsc.kp, b_fAsc, .nil⟩
  have c_fCp : C8.Cal l.prog w K mg base 1 "check_parts" (spCp K ⟨dU, dM, dD⟩) [] := ⟨_, _, _, _, ok_cp F_fCp, PySem.W.mg_of X G D.g_fCp, F_fCp.kp, b_fCp, .nil⟩
  have c_fCz : C8.Cal l.prog w K mg base 1 "check_sizes" (spCz K ⟨dU, dM, dD⟩) [] := ⟨_, _, _, _, ok_cz F_fCz TB TQ, PySem.W.mg_of X G D.g_fCz, F_fCz.kp, b_fCz, .nil⟩
  have c_fCt : C8.Cal l.prog w K mg base 4 "check_told_names" (spCt K) [] := ⟨_, _, _, _, ok_ct F_fCt TB TA cS_fCns cS_fCun c_fPri, PySem.W.mg_of X G D.g_fCt, F_fCt.kp, b_fCt, .nil⟩
  have c_fAn : C8.Cal l.prog w K mg base 3 "all_names" (spAn K ⟨dU, dM, dD⟩) [] := ⟨_, _, _, _, ok_an F_fAn TB TQ cS_fAsc ONm b_fNm k3 pN1 pN2 pN3, PySem.W.mg_of X G D.g_fAn, F_fAn.kp, b_fAn, .nil⟩
  have c_fCd : C8.Cal l.prog w K mg base 1 "check_deed_partchecks" (spCd K ⟨dU, dM, dD⟩) [] := ⟨_, _, _, _, ok_cd F_fCd k3, PySem.W.mg_of X G D.g_fCd, F_fCd.kp, b_fCd, .nil⟩
  have c_fCv : C8.Cal l.prog w K mg base 2 "check_values" (spCv K ⟨dU, dM, dD⟩) [] := ⟨_, _, _, _, ok_cv F_fCv TB TQ k3 cS_fAsc c_fCd, PySem.W.mg_of X G D.g_fCv, F_fCv.kp, b_fCv, .nil⟩
  have OPi : FnOk l.prog w K mg base CX0 5 fP fd_fP pPi (spPi K ⟨dU, dM, dD⟩) := ok_pi F_fP TB TP TA c_fCp c_fCz c_fCt c_fAn c_fCv
  have c_fAl : C8.Cal l.prog w K mg base 2 "needed_along" (spAl K ⟨dU, dM, dD⟩) [] := ⟨_, _, _, _, ok_al F_fAl TB TP k3 cS_fAsc, PySem.W.mg_of X G D.g_fAl, F_fAl.kp, b_fAl, .nil⟩
  have c_fHd : C8.Cal l.prog w K mg base 3 "needed_at_head" (spHd K ⟨dU, dM, dD⟩) [] := ⟨_, _, _, _, ok_hd F_fHd c_fAl, PySem.W.mg_of X G D.g_fHd, F_fHd.kp, b_fHd, .nil⟩
  have q1 : PropOf K cP "loop" p1 g1 := ⟨D.a_p1, D.p1_g, D.p1_t, D.p1_r⟩
  have q2 : PropOf K cP "between" p2 g2 := ⟨D.a_p2, D.p2_g, D.p2_t, D.p2_r⟩
  have q3 : PropOf K cP "second" p3 g3 := ⟨D.a_p3, D.p3_g, D.p3_t, D.p3_r⟩
  have q4 : PropOf K cP "behind" p4 g4 := ⟨D.a_p4, D.p4_g, D.p4_t, D.p4_r⟩
  have q5 : PropOf K cP "results" p5 g5 := ⟨D.a_p5, D.p5_g, D.p5_t, D.p5_r⟩
  have PG : PGet l.prog w K mg base ⟨dU, dM, dD⟩ cP :=
    ⟨PC, ⟨⟨p1, g1, _, q1, ok_p1 F_g1 PC, b_g1⟩⟩, ⟨⟨p2, g2, _, q2, ok_p2 F_g2 PC, b_g2⟩⟩, ⟨⟨p3, g3, _, q3, ok_p3 F_g3 PC, b_g3⟩⟩, ⟨⟨p4, g4, _, q4, ok_p4 F_g4 PC, b_g4⟩⟩, ⟨⟨p5, g5, _, q5, ok_rs F_g5 PC, b_g5⟩⟩, ⟨⟨fDof, _, _, [], D.kP.cls, ⟨D.a_fDof, D.n_fDof, F_fDof.kp⟩, ok_dof F_fDof PC, b_fDof, .nil⟩⟩, ⟨⟨fHp, _, _, [], D.kP.cls, ⟨D.a_fHp, D.n_fHp, F_fHp.kp⟩, ok_hp F_fHp TB TQ PC c_fCnt, b_fHp, .nil⟩⟩⟩
  have c_fEn : C8.Cal l.prog w K mg base 4 "needed_at_end" (spEn K ⟨dU, dM, dD⟩ cP) [] := ⟨_, _, _, _, ok_en F_fEn PG c_fAl c_fHd, PySem.W.mg_of X G D.g_fEn, F_fEn.kp, b_fEn, .nil⟩
  have c_fIp : C8.Cal l.prog w K mg base 5 "needed_in_part" (spIp K ⟨dU, dM, dD⟩ cP) [] := ⟨_, _, _, _, ok_ip F_fIp PG c_fAl c_fEn, PySem.W.mg_of X G D.g_fIp, F_fIp.kp, b_fIp, .nil⟩
  have NT : NeT l.prog w K mg base ⟨dU, dM, dD⟩ cP fN fd_fN := ⟨ok_ne F_fN PG c_fIp, PySem.W.mg_of X G D.gN, F_fN.kp, F_fN⟩
  have MT : PM l.prog w K mg base ⟨dU, dM, dD⟩ cP fP fd_fP t0 t1 t2 t3 t4 := ⟨D.kP.mak, OPi, PySem.W.mg_of X G D.kP.g, F_fP, PC, D.s_t1, D.s_t2⟩
  have c_fSome : C8.Cal l.prog w K mg base 2 "_law_some" (spSome K) [] := ⟨_, _, _, _, ok_some F_fSome TB (PySem.W.mg_none_of X G D.n_min) c_fDraw, PySem.W.mg_of X G D.g_fSome, F_fSome.kp, b_fSome, .nil⟩
  have c_fNames : C8.Cal l.prog w K mg base 3 "_law_names" spLNames [] := ⟨_, _, _, _, ok_lnames F_fNames c_fPick c_fSome, PySem.W.mg_of X G D.g_fNames, F_fNames.kp, b_fNames, .nil⟩
  have c_fReal : C8.Cal l.prog w K mg base 7 "_law_real_deed" (spReal K ⟨dU, dM, dD⟩) [] := ⟨_, _, _, _, ok_real F_fReal TB dcs (NN.fnR_less OU) (NN.fnOk_less OM) b_fM (NN.fnR_less OD), PySem.W.mg_of X G D.g_fReal, F_fReal.kp, b_fReal, .nil⟩
  have c_fOr : C8.Cal l.prog w K mg base 1 "_law_order" spOr [] := ⟨_, _, _, _, ok_or F_fOr, PySem.W.mg_of X G D.g_fOr, F_fOr.kp, b_fOr, .nil⟩
  have c_fDs : C8.Cal l.prog w K mg base 3 "_law_deeds" (spDs K) [] := ⟨_, _, _, _, ok_ds F_fDs TB c_fDraw c_fPick c_fSome, PySem.W.mg_of X G D.g_fDs, F_fDs.kp, b_fDs, .nil⟩
  have c_fSi : C8.Cal l.prog w K mg base 4 "_law_site" spSg [] := ⟨_, _, _, _, ok_sg F_fSi TB TP c_fDraw c_fNames c_fDs, PySem.W.mg_of X G D.g_fSi, F_fSi.kp, b_fSi, .nil⟩
  have c_fRp : C8.Cal l.prog w K mg base 8 "_law_real_part" (spRp K ⟨dU, dM, dD⟩) [] := ⟨_, _, _, _, ok_rp F_fRp c_fReal, PySem.W.mg_of X G D.g_fRp, F_fRp.kp, b_fRp, .nil⟩
  have c_fRl : C8.Cal l.prog w K mg base 9 "_law_real" (spRlG K ⟨dU, dM, dD⟩ cP) [] := ⟨_, _, _, _, ok_rlG F_fRl MT c_fOr c_fRp, PySem.W.mg_of X G D.g_fRl, F_fRl.kp, b_fRl, .nil⟩
  have c_fIw : C8.Cal l.prog w K mg base 1 "_law_is_wanted" spIw [] := ⟨_, _, _, _, ok_iw F_fIw, PySem.W.mg_of X G D.g_fIw, F_fIw.kp, b_fIw, .nil⟩
  have c_fWo : C8.Cal l.prog w K mg base 2 "_law_words_of" spWoG [] := ⟨_, _, _, _, ok_woG F_fWo TB TA c_fOr, PySem.W.mg_of X G D.g_fWo, F_fWo.kp, b_fWo, .nil⟩
  have c_fWa : C8.Cal l.prog w K mg base 3 "_law_wanted" spWaG [] := ⟨_, _, _, _, ok_waG F_fWa TB c_fWo c_fIw, PySem.W.mg_of X G D.g_fWa, F_fWa.kp, b_fWa, .nil⟩
  have c_fRe : C8.Cal l.prog w K mg base 1 "_law_rest" spRe [] := ⟨_, _, _, _, ok_re F_fRe, PySem.W.mg_of X G D.g_fRe, F_fRe.kp, b_fRe, .nil⟩
  have OA : FnG l.prog w K mg base 8 fAr fd_fAr ["_law_site_here", "_law_thing", "_law_rounds_so"] (spAr K ⟨dU, dM, dD⟩ cP) := ok_ar F_fAr TB SB NT c_fWa
  have OL : FnG l.prog w K mg base 8 fLr fd_fLr ["_law_site_here", "_law_thing", "_law_rounds_so"] (spAr K ⟨dU, dM, dD⟩ cP) := ok_lr F_fLr TB SB NT c_fWa c_fRe
  exact ok_law F_fLaw TB SB NT OA (PySem.W.mg_of X G D.g_fAr) F_fAr.kp b_fAr OL (PySem.W.mg_of X G D.g_fLr) F_fLr.kp b_fLr c_fPen c_fDraw c_fSi c_fRl c_fWa
end
end K33
set_option Elab.async false
set_option linter.all false
set_option maxRecDepth 100000
set_option maxHeartbeats 0
namespace K33
open PySem PySem.W PySem.Calls PyProof.Rows NX K33H
theorem headF {h : Heap} {K : HK.Fg} (c : HK.Says K33H.fns [] K33H.ex h K) : HeadF K (a_CS K) (a_CD K) (a_pNm K) (a_c0 K) (a_c1 K) (a_c10 K) (a_c11 K) (a_dU K) (a_dM K) (a_dD K) (a_cP K) (a_i0 K) (a_i1 K) (a_i10 K) (a_i11 K) (a_fU K) (a_fM K) (a_fD K) (a_fNm K) (a_g1 K) (a_g2 K) (a_g3 K) (a_g4 K) (a_g5 K) (a_fDof K) (a_fHp K) (a_p1 K) (a_p2 K) (a_p3 K) (a_p4 K) (a_p5 K) (a_fP K) (a_fN K) (a_tPA K) (a_tLO K) (a_t0 K) (a_t1 K) (a_t2 K) (a_t3 K) (a_t4 K) (a_fIs K) (a_fNum K) (a_fCnt K) (a_fPri K) (a_fCns K) (a_fCun K) (a_fAsc K) (a_fCus K) (a_fCp K) (a_fCz K) (a_fCt K) (a_fAn K) (a_fCv K) (a_fCd K) (a_fAl K) (a_fHd K) (a_fEn K) (a_fIp K) (a_fPen K) (a_fDraw K) (a_fPick K) (a_fSome K) (a_fNames K) (a_fReal K) (a_fOr K) (a_fDs K) (a_fSi K) (a_fRp K) (a_fRl K) (a_fIw K) (a_fWo K) (a_fWa K) (a_fRe K) (a_fAr K) (a_fLr K) (a_fLaw K) :=
  ⟨HK.eqV_ok (c.at_ 0),
  HK.eqV_ok (c.at_ 1),
  HK.eqV_ok (c.at_ 2),
  HK.eqV_ok (c.at_ 3),
  HK.eqV_ok (c.at_ 4),
  HK.eqV_ok (c.at_ 5),
  HK.eqV_ok (c.at_ 6),
  HK.eqV_ok (c.at_ 7),
  HK.eqV_ok (c.at_ 8),
  HK.eqV_ok (c.at_ 9),
  HK.eqV_ok (c.at_ 10),
  HK.eqV_ok (c.at_ 11),
  HK.eqV_ok (c.at_ 12),
  HK.eqV_ok (c.at_ 13),
  HK.eqV_ok (c.at_ 14),
  HK.eqV_ok (c.at_ 15),
  HK.eqV_ok (c.at_ 16),
  HK.strB_ok (c.at_ 17),
  HK.intB_ok (c.at_ 18),
  HK.intB_ok (c.at_ 19),
  HK.intB_ok (c.at_ 20),
  HK.intB_ok (c.at_ 21),
  HK.intB_ok (c.at_ 22),
  HK.eqV_ok (c.at_ 23),
  HK.eqV_ok (c.at_ 24),
  tupS_ok (c.at_ 25),
  tupS_ok (c.at_ 26),
  tupS_ok (c.at_ 27),
  tupS_ok (c.at_ 28),
  HK.baseB_ok (c.at_ 29),
  HK.errB_ok (c.at_ 30),
  HK.errB_ok (c.at_ 31),
  HK.errB_ok (c.at_ 32),
  HK.errB_ok (c.at_ 33),
  HK.clsB_ok (c.at_ 34),
  HK.eqV_ok (c.at_ 35),
  HK.eqV_ok (c.at_ 36),
  HK.eqV_ok (c.at_ 37),
  HK.eqV_ok (c.at_ 38),
  HK.clsB_ok (c.at_ 39),
  HK.eqV_ok (c.at_ 40),
  HK.eqV_ok (c.at_ 41),
  HK.eqV_ok (c.at_ 42),
  HK.eqV_ok (c.at_ 43),
  HK.clsB_ok (c.at_ 44),
  HK.eqV_ok (c.at_ 45),
  HK.eqV_ok (c.at_ 46),
  HK.eqV_ok (c.at_ 47),
  HK.eqV_ok (c.at_ 48),
  HK.clsB_ok (c.at_ 49),
  HK.eqV_ok (c.at_ 50),
  HK.eqV_ok (c.at_ 51),
  HK.eqV_ok (c.at_ 52),
  HK.eqV_ok (c.at_ 53),
  HK.eqV_ok (c.at_ 54),
  HK.eqV_ok (c.at_ 55),
  HK.eqV_ok (c.at_ 56),
  HK.eqV_ok (c.at_ 57),
  HK.eqV_ok (c.at_ 58),
  HK.eqV_ok (c.at_ 59),
  HK.eqV_ok (c.at_ 60),
  HK.eqB_ok (c.at_ 61),
  HK.recB_ok (c.at_ 62),
  HK.eqV_ok (c.at_ 63),
  HK.eqB_ok (c.at_ 64),
  HK.recB_ok (c.at_ 65),
  HK.eqV_ok (c.at_ 66),
  HK.eqB_ok (c.at_ 67),
  HK.recB_ok (c.at_ 68),
  HK.eqV_ok (c.at_ 69),
  HK.eqB_ok (c.at_ 70),
  HK.recB_ok (c.at_ 71),
  HK.eqV_ok (c.at_ 72),
  HK.eqB_ok (c.at_ 73),
  HK.recB_ok (c.at_ 74),
  HK.eqV_ok (c.at_ 75),
  HK.eqB_ok (c.at_ 76),
  HK.recB_ok (c.at_ 77),
  HK.eqV_ok (c.at_ 78),
  c.at_ 79,
  HK.eqV_ok (c.at_ 80),
  c.at_ 81,
  HK.eqV_ok (c.at_ 82),
  HK.rdB_ok (c.at_ 83),
  HK.cvalI_ok (c.at_ 84),
  HK.eqV_ok (c.at_ 85),
  c.def_ 0,
  c.def_ 1,
  HK.fnF_of (c.def_ 2),
  HK.fnF_of (c.def_ 3),
  HK.fnF_of (c.def_ 4),
  HK.fnF_of (c.def_ 5),
  HK.fnF_of (c.def_ 6),
  HK.fnF_of (c.def_ 7),
  HK.fnF_of (c.def_ 8),
  HK.fnF_of (c.def_ 9),
  HK.fnF_of (c.def_ 10),
  HK.fnF_of (c.def_ 11),
  HK.fnF_of (c.def_ 12),
  HK.fnF_of (c.def_ 13),
  HK.fnF_of (c.def_ 14),
  HK.fnF_of (c.def_ 15),
  HK.fnF_of (c.def_ 16),
  HK.eqV_ok (c.at_ 86),
  HK.fnF_of (c.def_ 17),
  HK.eqV_ok (c.at_ 87),
  HK.fnF_of (c.def_ 18),
  HK.eqV_ok (c.at_ 88),
  HK.fnF_of (c.def_ 19),
  HK.eqV_ok (c.at_ 89),
  HK.fnF_of (c.def_ 20),
  HK.eqV_ok (c.at_ 90),
  HK.fnF_of (c.def_ 21),
  HK.eqV_ok (c.at_ 91),
  HK.fnF_of (c.def_ 22),
  HK.eqV_ok (c.at_ 92),
  HK.fnF_of (c.def_ 23),
  HK.eqV_ok (c.at_ 93),
  HK.fnF_of (c.def_ 24),
  HK.eqV_ok (c.at_ 94),
  HK.fnF_of (c.def_ 25),
  HK.eqV_ok (c.at_ 95),
  HK.fnF_of (c.def_ 26),
  HK.eqV_ok (c.at_ 96),
  HK.fnF_of (c.def_ 27),
  HK.eqV_ok (c.at_ 97),
  HK.fnF_of (c.def_ 28),
  HK.eqV_ok (c.at_ 98),
  HK.fnF_of (c.def_ 29),
  HK.eqV_ok (c.at_ 99),
  HK.fnF_of (c.def_ 30),
  HK.eqV_ok (c.at_ 100),
  HK.fnF_of (c.def_ 31),
  HK.eqV_ok (c.at_ 101),
  HK.fnF_of (c.def_ 32),
  HK.eqV_ok (c.at_ 102),
  HK.fnF_of (c.def_ 33),
  HK.eqV_ok (c.at_ 103),
  HK.fnF_of (c.def_ 34),
  HK.eqV_ok (c.at_ 104),
  HK.fnF_of (c.def_ 35),
  HK.eqV_ok (c.at_ 105),
  HK.fnF_of (c.def_ 36),
  HK.eqV_ok (c.at_ 106),
  HK.fnF_of (c.def_ 37),
  HK.eqV_ok (c.at_ 107),
  HK.fnF_of (c.def_ 38),
  HK.eqV_ok (c.at_ 108),
  HK.fnF_of (c.def_ 39),
  HK.eqV_ok (c.at_ 109),
  HK.fnF_of (c.def_ 40),
  HK.eqV_ok (c.at_ 110),
  HK.fnF_of (c.def_ 41),
  HK.eqV_ok (c.at_ 111),
  HK.fnF_of (c.def_ 42),
  HK.eqV_ok (c.at_ 112),
  HK.fnF_of (c.def_ 43),
  HK.eqV_ok (c.at_ 113),
  HK.fnF_of (c.def_ 44),
  HK.eqV_ok (c.at_ 114),
  HK.fnF_of (c.def_ 45),
  HK.eqV_ok (c.at_ 115),
  HK.fnF_of (c.def_ 46),
  HK.eqV_ok (c.at_ 116),
  HK.fnF_of (c.def_ 47),
  HK.eqV_ok (c.at_ 117),
  HK.fnF_of (c.def_ 48),
  HK.eqV_ok (c.at_ 118),
  HK.fnF_of (c.def_ 49),
  HK.eqV_ok (c.at_ 119),
  HK.fnF_of (c.def_ 50),
  HK.eqV_ok (c.at_ 120),
  HK.fnF_of (c.def_ 51),
  HK.eqV_ok (c.at_ 121),
  HK.fnF_of (c.def_ 52)⟩
end K33
open PySem PySem.W PySem.Calls PyProof.Rows
theorem PySem.Challenge.cw_loopstow_k33_needed_in_loops_holds : PySem.Challenge.rw_loopstow_k33_needed_in_loops.Holds := by
  w_on; o_law
  refine HandSHeadRun.head_any (r := OpenLaw.row PySem.Challenge.rw_loopstow_k33_needed_in_loops) (q := view (OpenLaw.row PySem.Challenge.rw_loopstow_k33_needed_in_loops).prog [94]) (H := K33H.hk) (ob := K33H.ob) (M := 20000) (loose := K33H.loose) (d := HandSHeadRun.topDef (OpenLaw.row PySem.Challenge.rw_loopstow_k33_needed_in_loops).prog 94) (kwd := []) (fun s => HK.obs_eq s)
    (by kernel_rfl) (fun s => by kernel_rfl) K33H.run (by kernel_rfl) (by kernel_rfl) (by kernel_rfl) (by rfl) (by first | assumption | decide +kernel) (by decide +kernel) ⟨rfl, rfl, rfl, rfl, rfl, by decide +kernel⟩ ?hw ?hc
  case hw => w_witness2
  case hc =>
    refine HK.walkGE (l := PySem.Challenge.rw_loopstow_k33_needed_in_loops) (n := 63) (k := 11) (x := "_law_script") rfl (by decide) (by kernel_rfl) ⟨rfl, by decide, by decide⟩ (by rfl) ?G
    intro w mg fa h Y G hmg0
    obtain ⟨K, KX, c⟩ := Y
    have hmg : mg ("law" : PySem.Str) = some (.ref fa) := by
      have e : (HandSHeadRun.topDef (OpenLaw.row PySem.Challenge.rw_loopstow_k33_needed_in_loops).prog 94).name = ("law" : PySem.Str) := by kernel_rfl
      rw [← e]
      exact hmg0
    exact ⟨K, KX, (K33.headF c).law KX G hmg⟩
