import PyProof.Rows.All
import Wide.All
import OpenK.AllK
import Wide.FinOn
import HandS.ForMost
import HandS.Exc
import HandS.ExcInit
import HandS.ExcField
import HandS.ExcIs
import HandS.IsInst
import HandS.TryOnly
import KE.KExcIs
import PyProof.ReprRoads
import HandS.Lambda
import HandS.Codes
import HandS.EndTab
import HandS.ClsMeth
import HandS.OwnEq
import PyProof.InstEq
import HandS.HeadHook4
import HandS.Head2
import PySem.Challenge.RW_loopstow_k06_whole_powers_and_turned_loo
import HandS.FStr
import HandS.StrMore
import HandS.WordsExc
import KE.KUnpackStar
import PyProof.Rows.SetFrom
import HandS.Strs
import HandS.SetFor
import HandS.More
import HandS.Star
import HandS.SuiteRaise
import HandS.RaiseFrom
import HandS.ExcInitHot
import HandS.HotCalls
import HandS.Property
import HandS.Flow
import HandS.RaiseMore
import HandS.SortKw
import KE.KSortKey
import PyProof.TupleOfSeq
import KE.GoesEnum
import KE.GoesMore
import HandS.NoneIn
import HandS.Defaults
import HandS.MakeKwOnly
import HandS.WordsDict
import HandS.Small
import HandS.Iter
import HandS.DictComp
import HandS.TupMul
import HandS.ExcValue
import HandS.ExcValueHot
import HandS.TupAny
import PyProof.CallFns
import PyProof.ReprReads
import PyProof.Rows.StrMeet
import PyProof.Rows.SortStr
import HandS.List
set_option Elab.async false
set_option linter.all false
set_option maxRecDepth 100000
set_option maxHeartbeats 4000000
/-! Rules of my own: an error that is caught under a name and kept in a local name behind the suite; what is asked of it there. -/
namespace NX
open PySem PySem.Spec PyProof.Rows L2
/-- the kept error at a: its class, its dict -/
def Kept (a : Addr) (cls : Value) (d : Option Addr) : HO := .ext fun h => ∃ o vs, h.get? a = some o ∧ o.cls = cls ∧ o.dict = d ∧ o.data = .fields vs
theorem kept_ne {a b : Addr} {cls : Value} {d : Option Addr} : Kept a cls d ≠ .own b := fun z => by
  unfold Kept at z
  cases z
theorem kept_ok {P : Program} {w : World} {H : Hp} {h : Heap} {a : Addr} {cls : Value} {d : Option Addr} {o : Obj} {vs : Array Value} (e : h.get? a = some o) (z : Zc cls d o) (f : o.data = .fields vs) : ObjOk P w H h a (Kept a cls d) :=
  ⟨⟨o, vs, e, z.1, z.2, f⟩, ⟨o, e⟩, fun h1 h2 ⟨o1, w1, e1, r1⟩ k => ⟨o1, w1, k _ e1, r1⟩⟩
section
variable {X : Cx} {pins : List (Addr × Obj)} {σ : L2.St} {H : Hp} {s : Shared}
/-- an object that nobody tracks, and that is none of the entry's, is tracked from now on -/
theorem adopt {a : Addr} {cls : Value} {d : Option Addr} {o : Obj} {vs : Array Value} (I : Inv X ((a, o) :: pins) σ H s) (z : Zc cls d o) (f : o.data = .fields vs) (new : X.s_0.heap.get? a = none) (np : ∀ p ∈ X.pn ++ pins, p.1 ≠ a) :
    Inv X pins σ (upd H a (Kept a cls d)) s := by
  obtain ⟨ga, na, nL, nF, nC⟩ := I.pin (a, o) (List.mem_append_right _ List.mem_cons_self)
  have ga : s.heap.get? a = some o := ga
  have na : H a = none := na
  have B := I.base
  have nb : ∀ {b u}, X.s_0.heap.get? b = some u → b ≠ a := fun {b u} e q => by rw [q, new] at e; cases e
  refine ⟨I.ok, I.os, I.bare, ⟨B.keep, B.slot, fun b u e n hx => ?_, B.there, fun b xs e => ?_, fun b u v e => ?_, fun b ps e => ?_⟩, I.loc, I.cell, ?_, fun x c e => ?_, fun p hp => ?_, ?_, I.len⟩
  · rw [upd_ne (nb e)]
    exact B.free b u e n hx
  · have q := B.tups b xs e
    rw [upd_ne (ne_of_none q na)]
    exact q
  · have q := B.frzs b u v e
    rw [upd_ne (ne_of_none q na)]
    exact q
  · obtain ⟨more, q⟩ := B.tbls b ps e
    exact ⟨more, by rw [upd_ne (ne_of_none q na)]; exact q⟩
  · rw [upd_ne (Ne.symm nL)]
    exact I.free
  · obtain ⟨v, oc, e1, e2⟩ := I.cell x c e
    have hne : c ≠ a := fun q => by
      rw [q, ga] at e1
      cases e1
      exact nC _ e2
    rw [upd_ne hne]
    exact I.freeC x c e
  · have hp' : p ∈ X.pn ++ (a, o) :: pins := by
      rcases List.mem_append.mp hp with q | q
      · exact List.mem_append_left _ q
      · exact List.mem_append_right _ (List.mem_cons_of_mem _ q)
    obtain ⟨e1, e2, e3⟩ := I.pin p hp'
    exact ⟨e1, by rw [upd_ne (np p hp)]; exact e2, e3⟩
  · intro b u e
    by_cases hb : b = a
    · rw [hb, upd_same] at e
      cases e
      rw [hb]
      exact kept_ok ga z f
    · rw [upd_ne hb] at e
      exact (I.hok b u e).stay (fun _ _ _ q => q) (fun c q => by rw [upd_ne (ne_of_none q na)]; exact q) fun c xs q => by rw [upd_ne (ne_of_none q na)]; exact q
/-- what «except x as n: suite» wishes of an error of the body, if the error is kept: slot i is n's, the suite's ends see the kept error -/
def wKeep (K : PySem.W.Frag) (c : Value) (i : Nat) (ts : Addr → Value → Option Addr → TS) (Wout : WX) (D : Ends) : WX := fun cls d σ H =>
  ∃ b, PySem.W.exmOne K cls c = some b ∧ (b = false → Wout cls d σ H) ∧
    (b = true → ∀ a, H a = none → ts a cls d ⟨fun σ' H' => D.nx (σ'.set i none) (upd H' a (Kept a cls d)), fun v H' => D.rt v (upd H' a (Kept a cls d)), fun σ' H' => D.bk (σ'.set i none) (upd H' a (Kept a cls d)), fun σ' H' => D.ct (σ'.set i none) (upd H' a (Kept a cls d))⟩ (σ.set i (some (.ref a))) H)
end
section
variable {X : Cx} {x n : Str} {c : Value} {i : Nat} {body suite : List Stmt} {b₀ : Stmt} {np p1 p2 : Pos} {tb : WX → TS} {ts : Addr → Value → Option Addr → TS} {Wout : WX}
theorem ps_try_keep (hs : X.stack = X.env :: X.outer) (hf : X.env.frame = some X.env.locals) (hN : X.N.Nodup) (hi : X.N[i]? = some n) (hln : X.env.kindOf n = some .local) (hex : X.ex = []) (hc : Names X x c) (tk : Takes X Wout)
    (hb : ∀ (W : WX) (pn : List (Addr × Obj)) (xe : Value → Shared → Prop), Takes (X.tr pn xe) W → PassesOwn (model X.prog X.w) X.A X.env xe → PSs (X.tr pn xe) body (tb W))
    (hsu : ∀ (a : Addr) (oe : Obj) (cls : Value) (d : Option Addr) (pn : List (Addr × Obj)), Zc cls d oe → (∃ vs, oe.data = .fields vs) → PSs (X.suite a ((a, oe) :: pn)) (b₀ :: suite) (ts a cls d)) :
    PS X (.Try body [.ExceptHandler (some (.Name x np)) (some n) (b₀ :: suite) p1] [] [] p2) (fun D σ H => tb (wKeep X.K c i ts Wout D) D σ H) := by
  refine ⟨fun pins s σ H D I h => ?_⟩
  have ok := I.ok
  have frames : X.A.frames = some (X.env :: X.outer) := by rw [ok.frames, hs]
  -- the wish of the body: what the clause does with an error
  have caught : ∀ (u : Value) (s' : Shared), XE (X.tr (X.pn ++ pins) (fun e s₁ => wpAny (model X.prog X.w) X.A (noteFrame e X.env) (fun _ s₂ => wpAny (model X.prog X.w) X.A (setFlight e none) (fun _ s₃ =>
      wpAny (model X.prog X.w) X.A (handleBy e X.env [.ExceptHandler (some (.Name x np)) (some n) (b₀ :: suite) p1]) (SP X pins D) X.xe s₃) X.xe s₂) X.xe s₁)) (wKeep X.K c i ts Wout D) u s' →
      wpAny (model X.prog X.w) X.A (noteFrame u X.env) (fun _ s₂ => wpAny (model X.prog X.w) X.A (setFlight u none) (fun _ s₃ =>
        wpAny (model X.prog X.w) X.A (handleBy u X.env [.ExceptHandler (some (.Name x np)) (some n) (b₀ :: suite) p1]) (SP X pins D) X.xe s₃) X.xe s₂) X.xe s' := by
    intro u s' xx
    obtain ⟨a, B, sI, pins', σ', H', cls, d, rfl, J', nb, up, sky, na, os, ag, b, hb1, hno, hyes⟩ := xx
    have J : Inv X pins σ' H' sI := J'.ofTry ok
    have sky' : Sky B (X.env :: X.outer) a (Zc cls d) X.env.locals s'.heap := by rw [← hs]; exact sky
    refine Sky.land Zc.steady frames hf sky' fun h3 fl3 up3 => ?_
    obtain ⟨oe3, vs3, he3, hz3, hd3⟩ := fl3.there
    have Ba : B.get? a = none := fl3.2.1
    have aFr : a ∉ frs (X.env :: X.outer) := fun hm => by
      obtain ⟨_, o', e', hnf⟩ := fl3.2.2.1.mem hm
      rw [he3] at e'
      cases e'
      exact hnf _ hd3
    have aS : a ∉ frs X.stack := by rw [hs]; exact aFr
    have aI : sI.heap.get? a = none := by
      cases e : sI.heap.get? a with
      | none => rfl
      | some o =>
        have q := nb a o e aS
        rw [Ba] at q
        cases q
    have a0 : X.s_0.heap.get? a = none := by
      cases e : X.s_0.heap.get? a with
      | none => rfl
      | some o =>
        obtain ⟨o', q⟩ := J.base.there a o e (by rw [hex]; simp)
        rw [aI] at q
        cases q
    have aL : a ≠ X.env.locals := fun z => aFr (List.mem_filterMap.mpr ⟨X.env, List.mem_cons_self, by rw [hf, z]⟩)
    have aF : a ∉ X.fs := fun hm => by
      obtain ⟨e, he, q⟩ := List.mem_filterMap.mp hm
      exact aFr (List.mem_filterMap.mpr ⟨e, List.mem_cons_of_mem _ he, q⟩)
    have aP : ∀ p ∈ X.pn ++ pins, p.1 ≠ a := fun p hp z => by
      have q := (J.pin p hp).1
      rw [z, aI] at q
      cases q
    have J3 : Inv X pins σ' H' { s' with heap := h3 } := J.landed nb fl3.1 (up.trans up3) os ag
    have S3 := J3.suite he3 hd3 na aL aF
    refine wpAny_handleBy_cons (codeAny_handlers_test ?_) (by intro q; cases q)
    have cl3 : PySem.W.Looks (model X.prog X.w) h3 (typeOf (.ref a)) cls := fun A Q E s k q => wpAny_typeOf_ref (k _ _ he3) (by rw [hz3.1]; exact q)
    have match_ := PySem.W.exm_one (M := model X.prog X.w) J3.kIn cl3 hb1
    have names : ∀ {Q : Value → Shared → Prop} {E : Value → Shared → Prop}, Q c { s' with heap := h3 } → wpAny (model X.prog X.w) (X.A.mark (some (.ref a))) (eval (.Name x np) X.env) Q E { s' with heap := h3 } := fun {Q E} q => by
      obtain ⟨hg, hdb, hm | ⟨hm, hv, hnn⟩⟩ := hc
      · exact ld_glob (X := X.suite a ((a, oe3) :: (X.pn ++ pins))) S3 hg hm q hdb
      · exact ld_blt (X := X.suite a ((a, oe3) :: (X.pn ++ pins))) S3 hg hm hv q hnn hdb
    refine names (match_.here ?_)
    cases b with
    | false =>
      show wpAny _ X.A (handleBy (.ref a) X.env []) _ _ _
      refine wpAny_handleBy_nil ?_
      obtain ⟨_, _, _, oe, vs, T, _, _, he, _, hd, h1, _⟩ := id fl3
      unfold PySem.passOn
      refine wpAny_bind (wpAny_field he hd h1 ?_)
      rw [if_neg (show ¬ ((Value.ref T == Value.none) = true) from by simp)]
      have out : wpAny (model X.prog X.w) X.A (setFlight (.ref a) X.env.frame) (fun _ s4 => wpAny (model X.prog X.w) X.A (throw (.ref a) : Sem Flow) (SP X pins D) X.xe s4) X.xe { s' with heap := h3 } := by
        rw [hf]
        refine HandSPX.setFlight_upZ fl3 fun h4 hh4 up4 => wpAny_throw (tk _ _ ?_)
        exact ⟨a, B, sI, pins, σ', H', cls, d, rfl, J, nb, (up.trans up3).trans up4, .inr (.inr (by rw [hs]; exact hh4)), na, os, ag, hno rfl⟩
      first
        | exact wpAny_bind (wpAny_pure (wpAny_bind out))
        | exact wpAny_bind out
    | true =>
      refine codeAny_handlers_suite_as ?_
      refine HandSPX.lands_againZ fl3 fun h4 fl4 up4 => ?_
      obtain ⟨oe4, vs4, he4, hz4, hd4⟩ := fl4.there
      have J4 : Inv X pins σ' H' { s' with heap := h4 } := J.landed nb fl4.1 ((up.trans up3).trans up4) os ag
      have S4 := J4.suite he4 hd4 na aL aF
      refine store_ok (X := X.suite a ((a, oe4) :: (X.pn ++ pins))) (v := .ref a) S4 hN hi (.inl hln) rfl (fun s5 S5 => ?_) (.inr hln)
      refine wpAny_mono ((hsu a oe4 cls d (X.pn ++ pins) hz4 ⟨_, hd4⟩).run [] s5 _ H' _ S5 (hyes rfl a na)) (fun f s6 hsp => ?_) (fun _ _ z => False.elim z)
      -- behind the suite: the name goes, the error is kept
      have last : ∀ {σ6 : L2.St} {H6 : Hp} {Q : Shared → Prop}, Inv (X.suite a ((a, oe4) :: (X.pn ++ pins))) [] σ6 H6 s6 → (∀ s7, Inv X pins (σ6.set i none) (upd H6 a (Kept a cls d)) s7 → Q s7) →
          wpAny (model X.prog X.w) X.A (do bindName X.env n .none; unbindBehindTheSuite X.env n p1) (fun _ s7 => Q s7) X.xe s6 := fun {σ6 H6 Q} S6 hq => by
        have W6 : Inv X ((a, oe4) :: pins) σ6 H6 s6 := ⟨ok, S6.os, S6.bare, S6.base, S6.loc, S6.cell, S6.free, S6.freeC, fun p hp => S6.pin p (by
          rw [List.append_nil]
          rcases List.mem_append.mp hp with q | q
          · exact List.mem_cons_of_mem _ (List.mem_append_left _ q)
          · rcases List.mem_cons.mp q with q | q
            · rw [q]
              exact List.mem_cons_self
            · exact List.mem_cons_of_mem _ (List.mem_append_right _ q)), S6.hok, S6.len⟩
        exact gone_ok W6 hN hi hln fun s7 J7 => hq s7 (adopt J7 hz4 hd4 a0 aP)
      cases f with
      | next =>
        obtain ⟨σ6, H6, S6, q6⟩ := hsp
        exact last S6 fun s7 J7 => ⟨_, _, J7, q6⟩
      | brk =>
        obtain ⟨σ6, H6, S6, q6⟩ := hsp
        exact last S6 fun s7 J7 => ⟨_, _, J7, q6⟩
      | cont =>
        obtain ⟨σ6, H6, S6, q6⟩ := hsp
        exact last S6 fun s7 J7 => ⟨_, _, J7, q6⟩
      | ret u =>
        obtain ⟨v6, σ6, H6, S6, r6, q6⟩ := hsp
        exact last S6 fun s7 J7 => ⟨_, _, _, J7, r6, q6⟩
  refine wpAny_Try_except (wpAny_mono ((hb _ _ _ (fun u s' xx => caught u s' xx) PassesOwn.looking).run [] s σ H D (I.toTry _) h) (fun f s1 hsp => ?_) (fun e s1 he => he))
  cases f with
  | next =>
    obtain ⟨σ', H', J', q⟩ := hsp
    exact wpAny_execs_nil ⟨σ', H', J'.ofTry ok, q⟩
  | brk =>
    obtain ⟨σ', H', J', q⟩ := hsp
    exact ⟨σ', H', J'.ofTry ok, q⟩
  | cont =>
    obtain ⟨σ', H', J', q⟩ := hsp
    exact ⟨σ', H', J'.ofTry ok, q⟩
  | ret u =>
    obtain ⟨v, σ', H', J', r, q⟩ := hsp
    exact ⟨v, σ', H', J'.ofTry ok, r, q⟩
end
/-- isinstance(e, c) of a kept error -/
def rIsKept (K : PySem.W.Frag) : List V → Hp → VK → Prop := fun xs H Q => ∃ (a D : Addr) (d : Addr) (fs : List (Str × V)) (c : V) (u : Value) (b : Bool), xs = [.ref a, c] ∧ ClsV c u ∧ H a = some (Kept a (.ref D) (some d)) ∧ H d = some (.xd fs) ∧ ExcC K D ∧ PySem.W.kitOne K (.ref D) u = some b ∧ Q (.bl b) H
section
variable {X : Cx} {e : Expr} {te : TE} {pos : Pos} {n : Str} {C : Addr}
theorem inst_kept {pins : List (Addr × Obj)} {σ : L2.St} {H : Hp} {s : Shared} {a D d : Addr} {fs : List (Str × V)} (I : Inv X pins σ H s) (ha : H a = some (Kept a (.ref D) (some d))) (hd : H d = some (.xd fs)) :
    ∃ o od, PySem.W.InstAt s.heap a o D (some od) ∧ s.heap.get? d = some od ∧ ∃ mA, s.heap.Ns1 d mA ∧ (∀ f, RelO (fs.lookup f) (mA f)) := by
  have x : ObjOk X.prog X.w H s.heap a (.ext fun h => ∃ o vs, h.get? a = some o ∧ o.cls = .ref D ∧ o.dict = some d ∧ o.data = .fields vs) := I.hok a _ ha
  obtain ⟨⟨o, vs, e1, e2, e3, e4⟩, _, _⟩ := x
  obtain ⟨mA, hns, hr⟩ := (show ObjOk X.prog X.w H s.heap d (.xd fs) from I.hok d _ hd)
  obtain ⟨od, ho, _⟩ := lookIn_ns hns
  exact ⟨o, od, ⟨e1, e2, by unfold PySem.W.notCls; rw [e4] <;> rfl, by rw [e3]; exact ho⟩, ho, mA, hns, hr⟩
theorem call_isKept : CallR X (.builtin "isinstance") (rIsKept X.K) := by
  intro pins s σ H xs us Q I r h
  obtain ⟨a, D, d, fs, c, u, b, rfl, hc, ha, hd, E, k, q⟩ := h
  obtain ⟨u1, u2, rfl, r1, r2⟩ := vals2 r
  have e2 := hc.eq r2
  subst e2
  obtain rfl : u1 = Value.ref a := r1
  obtain ⟨o, od, J, _⟩ := inst_kept I ha hd
  have hcl : (PySem.W.clsIn X.K D).isSome = true := by
    have z := E.hd
    unfold PySem.W.hasDictIn at z
    cases q : PySem.W.clsIn X.K D with
    | some cd => rfl
    | none => rw [q] at z; cases z
  exact PySem.W.kia_one (PySem.W.kitx_exc hcl E.hg E.hk E.hs E.ha E.hn E.ht E.hm) I.kIn J k (fun z => nomatch z) fun tk => ⟨.bl b, H, I.tok tk, rfl, q⟩
/-- e.n of a kept error -/
def tKept (K : PySem.W.Frag) (n : Str) (te : TE) : TE := fun σ H Q => te σ H fun x H1 => ∃ (a D d : Addr) (fs : List (Str × V)) (v : V), x = .ref a ∧ H1 a = some (Kept a (.ref D) (some d)) ∧ H1 d = some (.xd fs) ∧ XfC K D ∧ PySem.W.findIn K (.ref D) n = some none ∧ fs.lookup n = some v ∧ Q v H1
theorem pe_kept (he : PE X e te) (hb : attributeBase e n X.env (eval e X.env) = eval e X.env := by rfl) : PE X (.Attribute e n pos) (tKept X.K n te) := by
  refine ⟨fun pins s σ H Q I h => attr_of hb (thn (he.run pins s σ H _ I h) fun u s1 ⟨x, H1, I1, rx, a, D, d, fs, v, ex, ha, hd, T, hno, l, q⟩ => ?_)⟩
  subst ex
  obtain rfl : u = Value.ref a := rx
  obtain ⟨o, od, J, ho, mA, hns, hr⟩ := inst_kept I1 ha hd
  obtain ⟨od', ho', hl⟩ := lookIn_ns hns
  rw [ho] at ho'
  cases ho'
  obtain ⟨y, hy, ry⟩ := RelO.some_of (v := v) (o := mA n) (by rw [← l]; exact hr n)
  exact HandSPX.exc_get I1.kIn J T.ga T.gg T.exC (PySem.W.findObj_own T.hdC hno rfl (by rw [hl, hy])) (handed_of ry) ⟨v, H1, I1.tok _, ry, q⟩
end
end NX

set_option Elab.async false
set_option linter.all false
set_option maxRecDepth 100000
set_option maxHeartbeats 4000000
/-! Rules of my own: the text that repr tells of made data, dicts in it too. -/
namespace NX
open PySem PySem.Spec PyProof.Rows L2
def keyD : Key → PyData
  | .inl i => .int i
  | .inr x => .str x
mutual
inductive Dr (K : PySem.W.Frag) (H : Hp) : V → PyData → Prop
  | non : Dr K H .non .none
  | bl (b : Bool) : Dr K H (.bl b) (.bool b)
  | int (i : Int) : Dr K H (.int i) (.int i)
  | str (x : Str) : Dr K H (.str x) (.str x)
  | lst {a : Addr} {xs : List V} {ds : List PyData} : SqL K H a xs → DrAll K H xs ds → Dr K H (.ref a) (.list ds)
  | tup {a : Addr} {xs : List V} {ds : List PyData} : SqT K H a xs → DrAll K H xs ds → Dr K H (.ref a) (.tuple ds)
  | dct {a : Addr} {kvs : List (Key × V)} {ds : List PyData} : H a = some (.dK kvs) → DrAll K H (kvs.map (·.2)) ds → Dr K H (.ref a) (.dict ((kvs.map fun p => keyD p.1).zip ds))
inductive DrAll (K : PySem.W.Frag) (H : Hp) : List V → List PyData → Prop
  | nil : DrAll K H [] []
  | cons {v : V} {vs : List V} {d : PyData} {ds : List PyData} : Dr K H v d → DrAll K H vs ds → DrAll K H (v :: vs) (d :: ds)
end
theorem DrAll.length {K : PySem.W.Frag} {H : Hp} : ∀ {vs : List V} {ds : List PyData}, DrAll K H vs ds → vs.length = ds.length
  | _, _, .nil => rfl
  | _, _, .cons _ t => congrArg (· + 1) t.length
/-- a dict stands at the place of the loaded modules -/
def SysB (h : Heap) : Prop := ∃ (o : Obj) (es : Array DictEntry) (ep : Nat), h.get? sysModules = some o ∧ o.data = .dict es ep
section
variable {X : Cx} {pins : List (Addr × Obj)} {σ : L2.St} {H : Hp} {s : Shared}
theorem key_reads {h : Heap} : ∀ {k : Key} {v : Value}, keyIs k v = true → Reads h v (keyD k) [] := fun {k v} e => by
  rcases keyIs_shape e with ⟨i, t, rfl, rfl⟩ | ⟨x, t, rfl, rfl⟩
  · exact Reads.int i t
  · exact Reads.str x t
theorem keys_read {h : Heap} {P : Program} {w : World} : ∀ {es : List DictEntry} {vs : List (Key × Value)}, Pairs (mixKind P w) es vs → ∃ as, ReadsAll h (es.map (·.key)) (vs.map fun p => keyD p.1) as ∧ as = [] ∧ es.map (·.val) = vs.map (·.2)
  | _, _, .nil => ⟨_, ReadsAll.nil, rfl, rfl⟩
  | _, _, .cons h1 h2 t => by
    obtain ⟨as, q, rfl, e⟩ := keys_read t
    exact ⟨_, ReadsAll.cons (key_reads h1) q, rfl, by rw [List.map_cons, List.map_cons, e, h2]⟩
theorem kv_vals : ∀ {ks : List (Key × V)} {vs : List (Key × Value)}, KV ks vs → Vals (ks.map (·.2)) (vs.map (·.2)) ∧ vs.map (fun p => keyD p.1) = ks.map (fun p => keyD p.1)
  | _, _, .nil => ⟨.nil, rfl⟩
  | _, _, .cons h t => by
    obtain ⟨q, e⟩ := kv_vals t
    exact ⟨.cons h.2 q, by rw [List.map_cons, List.map_cons, e, h.1]⟩
theorem zip_fst {α β : Type} : ∀ {l : List α} {m : List β}, l.length = m.length → (l.zip m).map (·.1) = l
  | [], [], _ => rfl
  | a :: l, b :: m, h => by rw [List.zip_cons_cons, List.map_cons, zip_fst (Nat.succ.inj h)]
theorem zip_snd {α β : Type} : ∀ {l : List α} {m : List β}, l.length = m.length → (l.zip m).map (·.2) = m
  | [], [], _ => rfl
  | a :: l, b :: m, h => by rw [List.zip_cons_cons, List.map_cons, zip_snd (Nat.succ.inj h)]
mutual
theorem Dr.reads (I : Inv X pins σ H s) (S : SysB X.base) : ∀ {v : V} {d : PyData}, Dr X.K H v d → ∀ (u : Value), RelV v u → ∃ as, Reads s.heap u d as ∧ sysModules ∉ as
  | _, _, .non, _, r => by
    cases r
    exact ⟨_, Reads.none, by simp⟩
  | _, _, .bl b, _, r => by
    cases r
    exact ⟨_, Reads.bool b, by simp⟩
  | _, _, .int i, _, r => by
    obtain ⟨t, rfl⟩ := r
    exact ⟨_, Reads.int i t, by simp⟩
  | _, _, .str x, _, r => by
    obtain ⟨t, rfl⟩ := r
    exact ⟨_, Reads.str x t, by simp⟩
  | _, _, .lst hs ha, _, r => by
    cases r
    obtain ⟨its, rv, ⟨o, n, ho, hc, _, hd⟩, _⟩ := I.list hs
    obtain ⟨as, hr, hn⟩ := DrAll.reads I S ha its rv
    refine ⟨_, Reads.list ho hc hd hr, fun hm => ?_⟩
    rcases List.mem_cons.mp hm with e | e
    · obtain ⟨o2, es2, ep2, k2, c2⟩ := S
      have q := (I.bs _ _ k2).1
      rw [e, ho] at q
      have q2 := Option.some.inj q
      rw [← q2, hd] at c2
      cases c2
    · exact hn e
  | _, _, .tup hs ha, _, r => by
    cases r
    obtain ⟨its, rv, ⟨o, ho, hc, n, hd⟩, _⟩ := I.tuple hs
    obtain ⟨as, hr, hn⟩ := DrAll.reads I S ha its rv
    exact ⟨_, Reads.tuple ho hc hd hr, hn⟩
  | _, _, @Dr.dct _ _ a kvs ds hs ha, _, r => by
    cases r
    obtain ⟨_, lo, vs, kv, o, es, ep, ho, hex, hd, _, hp, _⟩ := (show ObjOk X.prog X.w H s.heap a (.dK kvs) from I.hok a _ hs)
    obtain ⟨rv, ek⟩ := kv_vals kv
    obtain ⟨as, hr, hn⟩ := DrAll.reads I S ha _ rv
    obtain ⟨bs, hk, rfl, ev⟩ := keys_read (h := s.heap) hp
    have el : (kvs.map fun p => keyD p.1).length = ds.length := by
      rw [List.length_map, ← ha.length, List.length_map]
    refine ⟨_, Reads.dict ho hex.1 hd (as := []) (bs := as) (by rw [zip_fst el, ← ek]; exact hk) (by rw [zip_snd el, ev]; exact hr), fun hm => ?_⟩
    rcases List.mem_append.mp hm with e | e
    · rcases List.mem_cons.mp e with e | e
      · rw [← e] at lo
        simp at lo
      · simp at e
    · exact hn e
theorem DrAll.reads (I : Inv X pins σ H s) (S : SysB X.base) : ∀ {vs : List V} {ds : List PyData}, DrAll X.K H vs ds → ∀ (us : List Value), Vals vs us → ∃ as, ReadsAll s.heap us ds as ∧ sysModules ∉ as
  | _, _, .nil, _, r => by
    cases r
    exact ⟨_, ReadsAll.nil, by simp⟩
  | _, _, .cons h1 h2, _, r => by
    cases r with
    | cons r1 r2 =>
      obtain ⟨as, q1, n1⟩ := Dr.reads I S h1 _ r1
      obtain ⟨bs, q2, n2⟩ := DrAll.reads I S h2 _ r2
      exact ⟨_, ReadsAll.cons q1 q2, fun hm => (List.mem_append.mp hm).elim n1 n2⟩
end
/-- repr(x), x a list, a tuple or a dict -/
def rRepr (K : PySem.W.Frag) : List V → Hp → VK → Prop := fun xs H Q => ∃ (a : Addr) (d : PyData), xs = [.ref a] ∧ Dr K H (.ref a) d ∧ d.showable = true ∧ d.depth ≤ 50 ∧ d.shown.length ≤ sizeLine ∧ Q (.str d.shown) H
theorem call_repr (hg : X.A.guards = some []) (hu : X.A.units + 64 < cLine) (S : SysB X.base) : CallR X (.builtin "repr") (rRepr X.K) := by
  intro pins s σ H xs us Q I r h
  obtain ⟨a, d, rfl, hd, hs, hdp, hl, q⟩ := h
  cases r with
  | cons r1 r2 =>
    cases r2
    cases r1
    obtain ⟨as, hr, hn⟩ := Dr.reads I S hd _ rfl
    refine PySem.repr_of_reads' hr hs (fun _ => hn) hg (by omega) (fun _ _ e => e) (fun h' u tk k => ?_) hl
    exact ⟨.str d.shown, H, I.kept k, ⟨u, rfl⟩, q⟩
end
end NX

set_option Elab.async false
set_option linter.all false
set_option maxRecDepth 100000
set_option maxHeartbeats 4000000
/-! A def's promise where no repr is under way, and the call of such a def. -/
namespace NX
open PySem PySem.Spec PyProof.Rows L2
structure FnG (P : Program) (w : World) (K : PySem.W.Frag) (mg : Str → Option Value) (base : Heap) (k : Nat) (f : Addr) (fd : FuncData) (ps : List Str) (sp : Sp) : Prop where
  len : ∀ vs H Q E, sp vs H Q E → vs.length = ps.length
  run : ∀ (A : Around) (st : List Env) (s : Shared) (H : Hp) (args : Args) (us : List Value) (vs : List V) (Q : VK), A.guards = some [] → Room k A → Env0 P w K mg base A st s H → BindsTo s fd args (ps.zip us) → Vals vs us → sp vs H Q C8.E0 →
    codeAny (model P w) A (.call (.ref f) args) (CR C8.CX0 st P w H s Q C8.E0) s
section
variable {X : Cx} {k j : Nat} {f : Addr} {fd : FuncData} {ps : List Str} {sp : Sp} {x : Str} {p pos : Pos} {e : Expr} {es : List Expr} {t : TA}
theorem pe_callG (F : FnG X.prog X.w X.K X.mg X.base k f fd ps sp) (gd : X.A.guards = some []) (hr : Room j X.A) (hj : k ≤ j) (hg : Gl X x) (hm : X.mg x = some (.ref f)) (hk : PySem.W.keepIn X.K (.ref f) = true) (hb : Binds X.K fd ps []) (ha : PA X (e :: es) t)
    (hd : (x == ("__debug__" : Str)) = false := by decide) (he : starEach (e :: es) X.env = (false, eval e X.env) :: starEach es X.env := by rfl) (hpl : (backTo pos (starEach es X.env)).any (·.1) = false := by rfl) :
    PE X (.Call (.Name x p) (e :: es) [] pos) (tCall sp [] C8.E0 t) := by
  refine ⟨fun pins s σ H Q I h => wpAny_Call_Name_kw (ld_glob I hg hm ?_ hd)⟩
  refine PySem.W.callWith_K (h₀ := X.base) I.ok.mod.kin hk (thn (ha.run pos pins s σ H _ I h) fun us s1 ⟨vs, H1, I1, rv, q⟩ => ⟨I1.kIn, ?_⟩) he hpl
  have q : sp vs H1 Q C8.E0 := by simpa using q
  have hl : us.length = ps.length := by rw [← F.len _ _ _ _ q, rv.length]
  have bt := hb s1 us I1.kIn (by simpa using hl)
  refine wpAny_call (codeAny_mono (F.run X.A X.stack s1 H1 ⟨us, []⟩ us vs Q gd (hr.mono hj) I1.env0 (by simpa using bt) rv q) fun r s' hq => ?_)
  cases r with
  | error er => exact False.elim (show False from hq)
  | ok fl =>
    cases fl with
    | ret w => exact I1.after hq
    | next => exact False.elim hq
    | brk => exact False.elim hq
    | cont => exact False.elim hq
end
end NX

set_option Elab.async false
set_option linter.all false
set_option maxRecDepth 100000
set_option maxHeartbeats 4000000
/-! The end of a row whose law wants an empty guard (FnG), in my own words. -/
namespace NX
open PySem PySem.Spec PyProof.Rows L2 LamX
section
variable {P : Program} {w : World} {K : PySem.W.Frag} {mg mb : Str → Option Value} {k : Nat} {fa a : Addr} {cs : List (Addr × Addr)} {fd : FuncData} {x : Str} {sp : Sp} {z : Shared} {vs : List Value} {ns : List Int}
/-- what is tracked at first: the empty tables, and the script where it is not written -/
def trackd (K : PySem.W.Frag) (cs : List (Addr × Addr)) (a : Addr) (vs : List Value) (ns : List Int) : Hp := fun b =>
  if b ∈ cs.map (·.2) then some (.tbl #[]) else if b = a ∧ K.lookup a = none then some (.frz { cls := .type "list", data := .seq vs.toArray } (.lst (ns.map V.int))) else none
/-- the heap of the call, as the tracked one sees it -/
structure Start (P : Program) (w : World) (K : PySem.W.Frag) (cs : List (Addr × Addr)) (a : Addr) (vs : List Value) (ns : List Int) (z : Shared) : Prop where
  KX : K.In z.heap
  hT : ∀ p ∈ cs, z.heap.get? p.2 = some { cls := .none, data := .fields #[] }
  nT : ∀ p ∈ cs, K.lookup p.2 = none
  ha : z.heap.get? a = some { cls := .type "list", data := .seq vs.toArray }
  hi : IntsAre vs ns
  hl : ns.length ≤ sizeLine
theorem Start.tab (S : Start P w K cs a vs ns z) {b : Addr} (h : b ∈ cs.map (·.2)) : z.heap.get? b = some { cls := .none, data := .fields #[] } ∧ K.lookup b = none := by
  obtain ⟨p, hp, rfl⟩ := List.mem_map.mp h
  exact ⟨S.hT p hp, S.nT p hp⟩
theorem Start.ne (S : Start P w K cs a vs ns z) : a ∉ cs.map (·.2) := fun h => by
  have q := (S.tab h).1
  rw [S.ha] at q
  injection q with q
  injection q with q1 q2 q3
  cases q3
theorem Start.at_tab (S : Start P w K cs a vs ns z) : ∀ p ∈ cs, trackd K cs a vs ns p.2 = some (.tbl #[]) := fun p hp => if_pos (List.mem_map.mpr ⟨p, hp, rfl⟩)
theorem Start.sq (S : Start P w K cs a vs ns z) : SqL K (trackd K cs a vs ns) a (ns.map V.int) := by
  cases hk : K.lookup a with
  | none => exact .inl (.inr ⟨_, (if_neg S.ne).trans (if_pos ⟨rfl, hk⟩)⟩)
  | some o =>
    have e := S.KX a o hk
    rw [S.ha] at e
    cases e
    exact .inr ⟨_, vs.toArray, _, hk, rfl, rfl, rfl, by rw [List.size_toArray, S.hi.length]; exact S.hl, by simpa using vals_ints S.hi⟩
/-- a tracked place is a table, or the script -/
theorem Start.cases (S : Start P w K cs a vs ns z) {b : Addr} {u : HO} (h : trackd K cs a vs ns b = some u) : (b ∈ cs.map (·.2) ∧ u = .tbl #[]) ∨ (b = a ∧ K.lookup a = none ∧ u = .frz { cls := .type "list", data := .seq vs.toArray } (.lst (ns.map V.int))) := by
  unfold trackd at h
  split at h
  · rename_i hb
    exact .inl ⟨hb, (Option.some.inj h).symm⟩
  · split at h
    · rename_i hb
      exact .inr ⟨hb.1, hb.2, (Option.some.inj h).symm⟩
    · cases h
theorem Start.ok (S : Start P w K cs a vs ns z) : HOk P w (trackd K cs a vs ns) z.heap := fun b u h => by
  rcases S.cases h with ⟨hb, rfl⟩ | ⟨rfl, _, rfl⟩
  · exact (S.tab hb).1
  · exact ⟨S.ha, by rw [List.length_map]; exact S.hl, vs, _, vals_ints S.hi, S.ha⟩
/-- what is neither a list nor an empty row of fields is not tracked -/
theorem Start.off (S : Start P w K cs a vs ns z) {b : Addr} {o : Obj} (e : z.heap.get? b = some o) (h1 : ∀ us n, o.data ≠ .seq us n) (h2 : o.data ≠ .fields #[]) : trackd K cs a vs ns b = none := by
  cases q : trackd K cs a vs ns b with
  | none => rfl
  | some u =>
    rcases S.cases q with ⟨hb, _⟩ | ⟨rfl, _, _⟩
    · rw [(S.tab hb).1] at e
      cases e
      exact (h2 rfl).elim
    · rw [S.ha] at e
      cases e
      exact (h1 _ _ rfl).elim
theorem Start.kin (S : Start P w K cs a vs ns z) : K.In (hidT z.heap (trackd K cs a vs ns)) := fun b o e => hidT_get (S.KX b o e) (by
  cases q : trackd K cs a vs ns b with
  | none => rfl
  | some u =>
    rcases S.cases q with ⟨hb, _⟩ | ⟨rfl, hk, _⟩
    · rw [(S.tab hb).2] at e
      cases e
    · rw [hk] at e
      cases e)
theorem Start.ns_ (S : Start P w K cs a vs ns z) {b : Addr} {m : Str → Option Value} (h : z.heap.Ns b m) : (hidT z.heap (trackd K cs a vs ns)).Ns b m := by
  obtain ⟨o, es, ep, e, d, r⟩ := h
  exact ⟨o, es, ep, hidT_get e (S.off e (fun us n q => by rw [d] at q; cases q) (fun q => by rw [d] at q; cases q)), d, r⟩
theorem Start.mod (S : Start P w K cs a vs ns z) (hg : z.heap.Ns mainGlobals mg) (hb : z.heap.Ns builtinsNs mb) (hbb : ∀ y : Str, y ≠ "__name__" → mb y = bootBuiltins y) (lim : z.heap.NoLimit) : L2.Mod K mg (hidT z.heap (trackd K cs a vs ns)) :=
  ⟨S.kin, S.ns_ hg, ⟨mb, S.ns_ hb, hbb⟩, by obtain ⟨mc, h1, h2⟩ := lim; exact ⟨mc, S.ns_ h1, h2⟩⟩
theorem Start.tabB (S : Start P w K cs a vs ns z) (hg : z.heap.Ns mainGlobals mg) (C : ∀ p ∈ cs, PySem.W.CodeHd z.heap p.1 p.2)
    (hm : ∃ (bm : Addr) (ob : Obj), mg "__builtins__" = some (.ref bm) ∧ bm ≠ builtinsNs ∧ z.heap.get? bm = some ob ∧ ob.cls = .type "module" ∧ ob.dict = some builtinsNs ∧ ob.data = .plain) : ∀ p ∈ cs, TabB (hidT z.heap (trackd K cs a vs ns)) mg p.1 p.2 := fun p hp => by
  have tp := S.hT p hp
  have gne : ∀ {b : Addr} {o : Obj}, z.heap.get? b = some o → (∀ es ep, o.data ≠ .dict es ep) → b ≠ mainGlobals := fun {b o} e d q => by
    obtain ⟨og, es, ep, eg, dg, _⟩ := hg
    rw [q, eg] at e
    cases e
    exact d es ep dg
  refine ⟨?_, ?_, fun q => gne tp (by intro es ep h; cases h) q.symm⟩
  · obtain ⟨o, us, file, tf, flags, tg, inF, text, tt, e1, r⟩ := C p hp
    refine ⟨o, us, file, tf, flags, tg, inF, text, tt, hidT_get e1 (S.off e1 (fun vs n q => ?_) fun q => ?_), r⟩
    · rw [r.2.1] at q
      cases q
    · rw [r.2.1] at q
      cases q
      have q2 := r.2.2.1
      simp at q2
  · obtain ⟨bm, ob, b1, b2, b3, b4, b5, b6⟩ := hm
    refine ⟨bm, ob, b1, b2, gne b3 (by intro es ep h; rw [b6] at h; cases h), fun q => ?_, hidT_get b3 (S.off b3 (fun vs n q => by rw [b6] at q; cases q) (fun q => by rw [b6] at q; cases q)), b4, b5, b6⟩
    rw [q, tp] at b3
    cases b3
    cases b6
theorem Start.env (S : Start P w K cs a vs ns z) (hg : z.heap.Ns mainGlobals mg) (hb : z.heap.Ns builtinsNs mb) (hbb : ∀ y : Str, y ≠ "__name__" → mb y = bootBuiltins y) (lim : z.heap.NoLimit) (gs : z.gens = #[]) : Env0 P w K mg (hidT z.heap (trackd K cs a vs ns)) callerA [] z (trackd K cs a vs ns) :=
  ⟨rfl, S.mod hg hb hbb lim, fun b o e => of_hidT e, Nat.le_of_eq (hidT_size _ _), trivial, fun b q => absurd (show b ∈ ([] : List Addr) from q) (by simp), S.ok, .of_eq gs⟩
theorem Start.sys (S : Start P w K cs a vs ns z) (h : SysB z.heap) : SysB (hidT z.heap (trackd K cs a vs ns)) := by
  obtain ⟨o, es, ep, e, d⟩ := h
  exact ⟨o, es, ep, hidT_get e (S.off e (fun us n q => by rw [d] at q; cases q) (fun q => by rw [d] at q; cases q)), d⟩
/-- the call of the law: it tells True, and what stood stands -/
theorem endG (S : Start P w K cs a vs ns z) (hg : z.heap.Ns mainGlobals mg) (hb : z.heap.Ns builtinsNs mb) (hbb : ∀ y : Str, y ≠ "__name__" → mb y = bootBuiltins y) (lim : z.heap.NoLimit) (gs : z.gens = #[]) (C : ∀ p ∈ cs, PySem.W.CodeHd z.heap p.1 p.2)
    (hm : ∃ (bm : Addr) (ob : Obj), mg "__builtins__" = some (.ref bm) ∧ bm ≠ builtinsNs ∧ z.heap.get? bm = some ob ∧ ob.cls = .type "module" ∧ ob.dict = some builtinsNs ∧ ob.data = .plain) (hr : Room k callerA) (hs : SysB z.heap)
    (F : ∀ base : Heap, K.In base → base.Ns mainGlobals mg → (∀ p ∈ cs, TabB base mg p.1 p.2) → SysB base → FnG P w K mg base k fa fd [x] sp) (bind : ∀ (t : Shared) (u : Value), BindsTo t fd ⟨[u], []⟩ [(x, u)])
    (ask : ∀ H : Hp, (∀ p ∈ cs, H p.2 = some (.tbl #[])) → SqL K H a (ns.map V.int) → sp [.ref a] H (fun v _ => v = .bl true) C8.E0) :
    codeAny (model P w) callerA (.call (.ref fa) ⟨[.ref a], []⟩) (fun r t => r = .ok (.ret (.bool true)) ∧ OldK z.heap t.heap ∧ t.os = z.os ∧ AllBare t.gens) z := by
  refine codeAny_mono ((F _ S.kin (S.ns_ hg) (S.tabB hg C hm) (S.sys hs)).run callerA [] z _ ⟨[.ref a], []⟩ [.ref a] [.ref a] _ rfl hr (S.env hg hb hbb lim gs) (bind z (.ref a)) (.cons rfl .nil) (ask _ S.at_tab S.sq)) fun r t h => ?_
  cases r with
  | error e => exact False.elim (show False from h)
  | ok fl =>
    cases fl with
    | next => exact False.elim h
    | brk => exact False.elim h
    | cont => exact False.elim h
    | ret u =>
      obtain ⟨v, H', os, bare, un, ok', ru, q⟩ := h
      have q : v = .bl true := q
      subst q
      obtain rfl : u = Value.bool true := ru
      have kept : ∀ b o, b ∉ cs.map (·.2) → z.heap.get? b = some o → t.heap.get? b = some o := fun b o nb e => by
        cases y : trackd K cs a vs ns b with
        | none => exact un.keep b o e y (by intro n; exact absurd (show b ∈ ([] : List Addr) from n) (by simp)) (by simp)
        | some u =>
          rcases S.cases y with ⟨hb, _⟩ | ⟨rfl, _, rfl⟩
          · exact absurd hb nb
          · obtain ⟨e2, _⟩ := ok' _ _ (un.frzs _ _ _ y)
            rw [S.ha] at e
            cases e
            exact e2
      have grow : ∀ p ∈ cs, ∃ more : Array Value, t.heap.get? p.2 = some { cls := .none, data := .fields more } := fun p hp => by
        obtain ⟨more, y⟩ := un.tbls p.2 #[] (S.at_tab p hp)
        exact ⟨_, ok' p.2 _ y⟩
      refine ⟨rfl, ⟨fun b o e => ?_, fun b o e => ?_⟩, os, bare⟩
      · by_cases hb : b ∈ cs.map (·.2)
        · obtain ⟨p, hp, rfl⟩ := List.mem_map.mp hb
          obtain ⟨more, hmo⟩ := grow p hp
          rw [S.hT p hp] at e
          cases e
          exact .inr (.inl ⟨((C p hp).tab (S.hT p hp)).isCodeTable, rfl, #[], more, rfl, by rw [Array.empty_append]; exact hmo⟩)
        · exact .inl (kept b o hb e)
      · by_cases hb : b ∈ cs.map (·.2)
        · obtain ⟨p, hp, rfl⟩ := List.mem_map.mp hb
          obtain ⟨more, hmo⟩ := grow p hp
          exact ⟨_, hmo⟩
        · exact ⟨o, kept b o hb e⟩
end
/-- what the head has to tell of the law at fa -/
structure LawG (l : PySem.W.OpenLaw) (w : World) (K : PySem.W.Frag) (k n : Nat) (x : Str) (mg : Str → Option Value) (fa : Addr) (h : Heap) (fd : FuncData) (cs : List (Addr × Addr)) (sp : Sp) : Prop where
  hT : ∀ p ∈ cs, h.get? p.2 = some { cls := .none, data := .fields #[] }
  nT : ∀ p ∈ cs, K.lookup p.2 = none
  C : ∀ p ∈ cs, PySem.W.CodeHd h p.1 p.2
  bind : ∀ (t : Shared) (u : Value), BindsTo t fd ⟨[u], []⟩ [(x, u)]
  ask : ∀ (H : Hp) (a : Addr) (ns : List Int), ns.length ≤ n → (∀ p ∈ cs, H p.2 = some (.tbl #[])) → SqL K H a (ns.map V.int) → sp [.ref a] H (fun v _ => v = .bl true) C8.E0
  F : ∀ base : Heap, K.In base → base.Ns mainGlobals mg → (∀ p ∈ cs, TabB base mg p.1 p.2) → SysB base → FnG l.prog w K mg base k fa fd [x] sp
theorem walkG {l : PySem.W.OpenLaw} {n k : Nat} {q : Program} {loose : List Str} {XP : (Str → Option Value) → Heap → Prop} {YP : World → Heap → Prop} {d : DefRec} {K : Params → PySem.W.Frag} {x : Str} (hn : l.most = some n) (hn2 : n ≤ sizeLine) (hdf : d.params.defaults = []) (hr : Room k callerA) (hi : importsNone q = true)
    (hY : ∀ (w : World) (h : Heap), YP w h → (K w.params).In h) (G : ∀ (w : World) (mg : Str → Option Value) (fa : Addr) (h : Heap), YP w h → (K w.params).In h → h.Ns mainGlobals mg → mg d.name = some (.ref fa) → ∃ fd cs sp, LawG l w (K w.params) k n x mg fa h fd cs sp) :
    PySem.W.WalkO q loose XP YP l.row.toRowW d [] (fun f vs => PySem.call f vs) := by
  refine Att.attach_callB hn hdf fun w s₀ s₁ mg mb fa o pm cd doc a vs ns T Y ho hd hcd hmg hobj hints hlen hbits hgen => ?_
  have KX := hY w _ Y
  obtain ⟨fd, cs, sp, L⟩ := G w mg fa _ Y KX T.T.g hmg
  exact endG ⟨KX, L.hT, L.nT, hobj, hints, Nat.le_trans hlen hn2⟩ T.T.g T.T.b T.T.builtins T.T.nolimit hgen L.C T.T.bmain hr (by obtain ⟨mm, ⟨o, es, ep, e, d, _⟩, _⟩ := (T.T.seer hi).mods; exact ⟨o, es, ep, e, d⟩) L.F L.bind (fun H h1 h2 => L.ask H a ns hlen h1 h2)
end NX

set_option Elab.async false
set_option linter.all false
set_option maxRecDepth 100000
set_option maxHeartbeats 4000000
/-! A rule of my own: C.m(k=e, ..), m a classmethod, by keywords alone. -/
namespace NX
open PySem PySem.Spec PyProof.Rows L2
section
variable {X : Cx} {CX : CXT} {k : Nat} {C p g : Addr} {mc : Value} {sp : Sp} {E : XK} {o : Expr} {kws : List Keyword} {m : Str} {pos apos : Pos} {ta : TE} {t : TA} {pl : Sem Bool} {fd : FuncData} {ps ks : List Str}
theorem pe_cmethK (he : PE X o ta) (r : ClX.CRead X.K C mc) (c : ClX.CMet X.K C mc m p g) (F : FnOk X.prog X.w X.K X.mg X.base CX k g fd ps sp) (hb : ∀ (s : Shared) (us : List Value), us.length + 1 = ps.length → BindsTo s fd ⟨[.ref C], ks.zip us⟩ (ps.zip (.ref C :: us)))
    (hr : Room k X.A) (hx : Passes CX X E) (ha : PK X kws t) (hall : (backToKw pos (keywordEach kws X.env)).all (·.1.isSome) = true := by rfl) (hks : (backToKw pos (keywordEach kws X.env)).filterMap (·.1) = ks := by rfl)
    (hpl : ((backTo pos (starEach [] X.env)).any (·.1) || (backToKw pos (keywordEach kws X.env)).any (·.1.isNone)) = false := by rfl)
    (ht : eval (.Call (.Attribute o m apos) [] kws pos) X.env = (do
      let ov ← eval o X.env
      standAt apos.atName
      let (f, first) ← holding [ov] (getMethod ov m pl)
      callWith pos f first (backTo pos (starEach [] X.env)) (backToKw pos (keywordEach kws X.env))) := by rfl) :
    PE X (.Call (.Attribute o m apos) [] kws pos) (ClX.tCMeth C sp E ta t) := by
  refine ⟨fun pins s σ H Q I h => PySem.W.methodCall_KW (pl := pl) (thn (he.run pins s σ H _ I h) fun u s1 ⟨x, H1, I1, rx, ex, q⟩ => ?_) ht⟩
  subst ex
  obtain rfl : u = Value.ref C := rx
  refine ClX.getmethcm_ok I1 r c fun s2 I2 => ?_
  refine PySem.W.callWith_of hpl (PySem.W.keeps_M (K := X.K) (self := .ref C) c.fi) (PyProof.Rows.evalArgs_kw2_nil hall (thn (ha.run pos _ s2 σ H1 _ I2 q) fun us s3 ⟨vs, H2, I3, rv, q2⟩ => ⟨⟨ClX.pin_at I3, I3.kIn⟩, ?_⟩))
  rw [hks]
  have r2 : Vals (V.ref C :: vs) (Value.ref C :: us) := .cons rfl rv
  have hl : us.length + 1 = ps.length := by
    have z := F.len _ _ _ _ q2
    rw [← z, r2.length]
    rfl
  have z : wpAny (model X.prog X.w) X.A (call (.ref s1.heap.objs.size) ([] ++ []) (ks.zip us)) (EP X ((s1.heap.objs.size, PySem.W.methodObj (.ref g) (.ref C)) :: pins) σ Q) X.xe s3 := by
    refine wpAny_call (PySem.W.method_call (ClX.pin_at I3) (codeAny_mono (F.run X.A X.stack s3 H2 ⟨[.ref C], ks.zip us⟩ (.ref C :: us) (.ref C :: vs) Q E hr I3.env0 (hb s3 us hl) r2 q2) fun r s' hq => ?_))
    cases r with
    | error er => exact hx _ σ H2 s3 er s' I3 hq
    | ok fl =>
      cases fl with
      | ret w => exact I3.after hq
      | next => exact False.elim hq
      | brk => exact False.elim hq
      | cont => exact False.elim hq
  exact thn z fun _ _ y => ClX.unpinE y
end
end NX

set_option Elab.async false
set_option linter.all false
set_option maxRecDepth 100000
set_option maxHeartbeats 4000000
/-! Rules of my own: == and != of an object whose class has an own equality; any answer, any other side. -/
namespace NX
open PySem PySem.Spec PyProof.Rows L2
/-- what the class at C says of == and != -/
structure EqC (K : PySem.W.Frag) (C f : Addr) : Prop where
  cl : Cls K C
  eq : PySem.W.findIn K (.ref C) "__eq__" = some (some (.ref f))
  ne : PySem.W.findIn K (.ref C) "__ne__" = some (some (.builtin "object.__ne__"))
  fn : PySem.W.isFn K (.ref f) = true
  ob : PySem.W.mroIn K C (.type "object") = some true
section
variable {X : Cx} {n : Nat} {f : Addr} {fd : FuncData} {ps : List Str} {sp : Sp} {CX : CXT} {E : XK}
/-- the own equality is called by the machine -/
theorem run_own (F : FnOk X.prog X.w X.K X.mg X.base CX n f fd ps sp) (hb : Binds X.K fd ps []) (hx : Passes CX X E) {A : Around} {pins : List (Addr × Obj)} {σ : L2.St} {H : Hp} {s : Shared} {x y : V} {u v : Value} {Q : VK}
    (sb : Sub X n A) (I : Inv X pins σ H s) (rx : RelV x u) (ry : RelV y v) (q : sp [x, y] H Q E) : wpAny (model X.prog X.w) A (call (.ref f) [u, v]) (EP X pins σ Q) X.xe s := by
  have e := I.env0
  have e0 : Env0 X.prog X.w X.K X.mg X.base A X.stack s H := ⟨by rw [sb.fr]; exact e.frames, e.mod, e.bs, e.bsz, e.funs, e.frf, e.hok, e.bare⟩
  have hl : [u, v].length = ps.length := (F.len _ _ _ _ q)
  have r2 : Vals [x, y] [u, v] := .cons rx (.cons ry .nil)
  refine wpAny_call (codeAny_mono (F.run A X.stack s H ⟨[u, v], []⟩ [u, v] [x, y] Q E sb.room e0 (by
    have z := hb s [u, v] I.kIn (by simpa using hl)
    simpa using z) r2 q) fun r s' hq => ?_)
  cases r with
  | error er => exact hx pins σ H s er s' I hq
  | ok fl =>
    cases fl with
    | ret w => exact I.after hq
    | next => exact False.elim hq
    | brk => exact False.elim hq
    | cont => exact False.elim hq
def rOwn (K : PySem.W.Frag) (f : Addr) (sp : Sp) (E : XK) (neg : Bool) : R2 := fun x y H Q => ∃ (a C dx : Addr) (fs : List (Str × V)) (tb : Value), x = .ref a ∧ H a = some (.ins C dx fs) ∧ EqC K C f ∧ PySem.W.notFirst K C tb = true ∧ TyX K H y tb ∧
  sp [x, y] H (fun v H' => ∃ b, v = .bl b ∧ Q (.bl (if neg then !b else b)) H') E
theorem op_eqOwn (F : FnOk X.prog X.w X.K X.mg X.base CX n f fd ps sp) (hb : Binds X.K fd ps []) (hx : Passes CX X E) (hr : Room n X.A) : OpR X (compareOp .Eq) (rOwn X.K f sp E false) := by
  intro pins s σ H x y u v Q I rx ry h
  obtain ⟨a, C, dx, fs, tb, rfl, ha, T, nf, ty, q⟩ := h
  obtain rfl : u = Value.ref a := rx
  obtain ⟨mA, O, _⟩ := ins_get I.hok ha
  obtain ⟨od, J, _⟩ := O.look
  obtain ⟨m, fr⟩ := I.fr
  obtain ⟨P, Z, p, _⟩ := kit_of I ry ty
  show wpAny (model X.prog X.w) X.A (richCompare .Eq (.ref a) v) (EP X pins σ Q) X.xe s
  refine PySem.W.cmp_K (op := .Eq) (tb := tb) hr.units0 fr I.ok.mod.kin J (Z.ty _ _ I.kIn p) nf T.eq T.fn ?_
  refine wpAny_mono (run_own (x := .ref a) F hb hx ⟨hr, rfl⟩ I rfl ry q) (fun r s' hq => ?_) fun _ _ z => z
  obtain ⟨w, H', I', rw', b, rfl, q'⟩ := hq
  obtain rfl : r = Value.bool b := rw'
  exact ⟨.bl b, H', I', rfl, q'⟩
end
end NX
namespace NX
open PySem PySem.W PyProof.Rows Builtin
section
variable {prog : Program} {w : World} {A : Around} {E : Value → Shared → Prop} {s : Shared} {K : Frag} {x C f : Addr} {ox : Obj} {od : Option Obj} {b tb : Value}
/-- object.__ne__ found by the class is bound and called -/
theorem bound_ne {M : Model} {args : List Value} {Q : Option Value → Shared → Prop} (X : K.In s.heap) (I : InstAt s.heap x ox C od) (hs : findIn K (.ref C) "__ne__" = some (some (.builtin "object.__ne__")))
    (h : wpAny M A (call (.builtin "object.__ne__") (.ref x :: args)) (fun v => Q (some v)) E s) : wpAny M A (callSpecialIfBound? (.ref x) "__ne__" args) Q E s := by
  simp only [callSpecialIfBound?, bindSpecialIfBound?]
  refine wpAny_holding (wpAny_bind (wpAny_bind (wpAny_bind (I.type.here ((looks_findIn X hs).here ?_)))))
  simp only [F.cmp_object.ne.bind]
  have last : wpAny M A (call (.builtin "object.__ne__") ([.ref x] ++ args) >>= fun v => pure (some v)) Q E s := wpAny_bind (wpAny_mono h (fun v s' q => wpAny_pure q) fun _ _ q => q)
  refine wpAny_bind (wpAny_askSetting (wpAny_ite ?_))
  split
  · exact wpAny_bind (wpAny_pure (wpAny_pure last))
  · exact wpAny_tryCatch (wpAny_bind (wpAny_pure (wpAny_pure last)))
/-- .. and asks the own equality, whose answer it turns -/
theorem call_ne {Q : Value → Shared → Prop} (hu : A.units + 1 < cLine) (X : K.In s.heap) (I : InstAt s.heap x ox C od) (he : findIn K (.ref C) "__eq__" = some (some (.ref f))) (hf : isFn K (.ref f) = true) (ho : mroIn K C (.type "object") = some true)
    (h : wpAny (model prog w) A.in1 (call (.ref f) [.ref x, b]) (fun v s' => ∃ k, v = .bool k ∧ Q (.bool (!k)) s') E s) : wpAny (model prog w) A (call (.builtin "object.__ne__") [.ref x, b]) Q E s := by
  obtain ⟨hp, g, d, t, os⟩ := s
  have sub : Looks (model prog w) hp (isInstance (.ref x) (.type "object")) true := I.type.andThen (looks_mroIn X ho)
  refine wpAny_call (codeAny_call_builtin F.cmp_object.ne.plain F.cmpEntry_ne (@check_slot (model prog w) _ _ ⟨hp, g, d, t, os⟩ "object.__ne__" "object" "__ne__" (.ref x) [b] [] _ F.cmpKind_ne F.cmpSplit_ne sub (F.cmpArgs_ne _ _) ?_))
  unfold Builtin.«object.__ne__»
  repeat (first
    | with_reducible refine wpAny_cRoomFor (show A.in1.units < cLine from hu) ?_
    | (refine wpAny_bind (m := callSpecialIfBound? (.ref x) (Str.ofString "__eq__") [b]) (ifBound_K X I he hf (wpAny_mono h (fun r s' hr => ?_) fun _ _ e => e)))
    | wp_step)
  obtain ⟨k, rfl, q⟩ := hr
  exact wpAny_bind (wpAny_truthy_bool (wpAny_pure q))
/-- x != b -/
theorem rich_ne {Q : Value → Shared → Prop} (hu : A.units + 1 < cLine) (X : K.In s.heap) (I : InstAt s.heap x ox C od) (hb : Looks (model prog w) s.heap (typeOf b) tb) (hn : notFirst K C tb = true) (hs : findIn K (.ref C) "__ne__" = some (some (.builtin "object.__ne__")))
    (he : findIn K (.ref C) "__eq__" = some (some (.ref f))) (hf : isFn K (.ref f) = true) (ho : mroIn K C (.type "object") = some true)
    (h : wpAny (model prog w) A.in1 (call (.ref f) [.ref x, b]) (fun v s' => ∃ k, v = .bool k ∧ Q (.bool (!k)) s') E s) : wpAny (model prog w) A (richCompare .NotEq (.ref x) b) Q E s := by
  have one : wpAny (model prog w) A (tryCompare (.ref x) "__ne__" b) (fun r s' => ∃ k, r = some (.bool k) ∧ Q (.bool k) s') E s := by
    unfold tryCompare
    refine wpAny_bind (bound_ne X I hs (call_ne (Q := fun v s' => ∃ k, v = .bool k ∧ Q (.bool k) s') hu X I he hf ho (wpAny_mono h (fun v s' ⟨k, e, q⟩ => ⟨k, e, _, rfl, q⟩) fun _ _ e => e) |> fun z => wpAny_mono z (fun v s' ⟨k, e, q⟩ => ?_) fun _ _ e => e))
    subst e
    exact wpAny_pure ⟨k, rfl, q⟩
  unfold richCompare
  simp only [oneThing_ref]
  refine wpAny_holding (wpAny_bind (wpAny_cRoomFor (Nat.lt_of_succ_lt hu) ?_))
  rw [cmpInfo_NotEq]
  dsimp only
  refine wpAny_bind (I.type.here (wpAny_bind (hb.here ?_)))
  split
  · rename_i q
    have e : subIn K tb (.ref C) = some false := by
      rcases Bool.or_eq_true_iff.mp hn with e | e
      · rw [beq_iff_eq.mp e] at q
        simp at q
      · exact beq_iff_eq.mp e
    refine wpAny_bind ((looks_subIn X e).here ?_)
    simp only [Bool.false_eq_true, if_false]
    refine wpAny_bind (wpAny_mono one (fun r s' ⟨k, z, hq⟩ => ?_) fun _ _ e => e)
    subst z
    exact wpAny_pure hq
  · refine wpAny_bind (wpAny_pure ?_)
    simp only [Bool.false_eq_true, if_false]
    refine wpAny_bind (wpAny_mono one (fun r s' ⟨k, z, hq⟩ => ?_) fun _ _ e => e)
    subst z
    exact wpAny_pure hq
end
end NX
namespace NX
open PySem PySem.Spec PyProof.Rows L2
section
variable {X : Cx} {n : Nat} {f : Addr} {fd : FuncData} {ps : List Str} {sp : Sp} {CX : CXT} {E : XK}
theorem op_neOwn (F : FnOk X.prog X.w X.K X.mg X.base CX n f fd ps sp) (hb : Binds X.K fd ps []) (hx : Passes CX X E) (hr : Room (n + 1) X.A) : OpR X (compareOp .NotEq) (rOwn X.K f sp E true) := by
  intro pins s σ H x y u v Q I rx ry h
  obtain ⟨a, C, dx, fs, tb, rfl, ha, T, nf, ty, q⟩ := h
  obtain rfl : u = Value.ref a := rx
  obtain ⟨mA, O, _⟩ := ins_get I.hok ha
  obtain ⟨od, J, _⟩ := O.look
  obtain ⟨P, Z, p, _⟩ := kit_of I ry ty
  show wpAny (model X.prog X.w) X.A (richCompare .NotEq (.ref a) v) (EP X pins σ Q) X.xe s
  refine rich_ne (hu_of hr) I.kIn J (Z.ty _ _ I.kIn p) nf T.ne T.eq T.fn T.ob (wpAny_mono (run_own (x := .ref a) F hb hx ⟨hr.in1, rfl⟩ I rfl ry q) (fun r s' hq => ?_) fun _ _ z => z)
  obtain ⟨w, H', I', rw', b, rfl, q'⟩ := hq
  obtain rfl : r = Value.bool b := rw'
  exact ⟨b, rfl, .bl (!b), H', I', rfl, q'⟩
end
end NX

set_option Elab.async false
set_option linter.all false
set_option maxRecDepth 100000
set_option maxHeartbeats 4000000
/-! What the head tells of classes, errors and defs, in bundles. -/
namespace NX
open PySem L2 LamX PySem.Spec PyProof.Rows
section
variable {K : PySem.W.Frag}
theorem kit_self {C : Addr} : PySem.W.kitOne K (.ref C) (.ref C) = some true := by
  unfold PySem.W.kitOne
  rw [if_pos (beq_self_eq_true _)]
theorem kitCls_of {t : Value} {D : Addr} {b : Bool} (i : PySem.W.isClsIn K D = true) (ty : PySem.W.typeIn K (.ref D) = some (.type "type")) (s : PySem.W.subIn K t (.ref D) = some b) : PySem.W.kitCls K t (.ref D) = some b := by
  have e : ((PySem.W.clsIn K D).isSome && PySem.W.typeIn K (.ref D) == some (.type "type")) = true := by
    have i' : (PySem.W.clsIn K D).isSome = true := i
    rw [i', ty] <;> rfl
  show (if ((PySem.W.clsIn K D).isSome && PySem.W.typeIn K (.ref D) == some (.type "type")) = true then PySem.W.subIn K t (.ref D) else none) = some b
  rw [if_pos e]
  exact s
theorem kit_of {t : Value} {D : Addr} {b : Bool} (ne : (t == .ref D) = false) (i : PySem.W.isClsIn K D = true) (ty : PySem.W.typeIn K (.ref D) = some (.type "type")) (s : PySem.W.subIn K t (.ref D) = some b) : PySem.W.kitOne K t (.ref D) = some b := by
  unfold PySem.W.kitOne
  rw [if_neg (by rw [ne]; exact Bool.false_ne_true)]
  exact kitCls_of i ty s
theorem kit_ref {C D : Addr} {b : Bool} (ne : decide (C = D) = false) (i : PySem.W.isClsIn K D = true) (ty : PySem.W.typeIn K (.ref D) = some (.type "type")) (s : PySem.W.subIn K (.ref C) (.ref D) = some b) : PySem.W.kitOne K (.ref C) (.ref D) = some b :=
  kit_of (by
    have n : C ≠ D := of_decide_eq_false ne
    cases q : ((.ref C : Value) == .ref D) with
    | false => rfl
    | true =>
      have z : (Value.ref C) = .ref D := eq_of_beq q
      cases z
      exact absurd rfl n) i ty s
theorem kit_tyr {T : String} {D : Addr} {b : Bool} (i : PySem.W.isClsIn K D = true) (ty : PySem.W.typeIn K (.ref D) = some (.type "type")) (s : PySem.W.subIn K (.type T) (.ref D) = some b) : PySem.W.kitOne K (.type T) (.ref D) = some b :=
  kit_of (by
    cases q : ((.type T : Value) == .ref D) with
    | false => rfl
    | true =>
      have z : (Value.type T) = .ref D := eq_of_beq q
      cases z) i ty s
theorem kit_rty {T : String} {C : Addr} {b : Bool} (m : PySem.W.kitMeta T = true) (s : PySem.W.subIn K (.ref C) (.type T) = some b) : PySem.W.kitOne K (.ref C) (.type T) = some b := by
  have ne : ((.ref C : Value) == .type T) = false := by
    cases q : ((.ref C : Value) == .type T) with
    | false => rfl
    | true =>
      have z : (Value.ref C) = .type T := eq_of_beq q
      cases z
  unfold PySem.W.kitOne
  rw [if_neg (by rw [ne]; exact Bool.false_ne_true)]
  show (if PySem.W.kitMeta T = true then PySem.W.subIn K (.ref C) (.type T) else none) = some b
  rw [if_pos m]
  exact s
theorem exm_of {C S : Addr} {b : Bool} (h1 : PySem.W.subIn K (.ref S) (.type "BaseException") = some true) (i : PySem.W.isClsIn K S = true) (ty : PySem.W.typeIn K (.ref S) = some (.type "type")) (s : PySem.W.subIn K (.ref C) (.ref S) = some b) : PySem.W.exmOne K (.ref C) (.ref S) = some b := by
  have e1 : (PySem.W.subIn K (.ref S) (.type "BaseException") == some true) = true := by rw [h1] <;> rfl
  show (if (PySem.W.subIn K (.ref S) (.type "BaseException") == some true) = true then PySem.W.kitCls K (.ref C) (.ref S) else none) = some b
  rw [if_pos e1]
  exact kitCls_of i ty s
/-- a def as it stands in the written part -/
structure FnF (K : PySem.W.Frag) (x q : Str) (st : Stmt) (f : Addr) : Prop where
  ex : ∃ fd, Fun K x q st f fd
theorem fnF {x q : Str} {st : Stmt} {f : Addr} {oc : Value} {od an : Option Addr} {osl : Array (Option Value)} {kV doc pm cdv ct : Value} (l : K.lookup f = some ⟨oc, od, .func (PySem.W.fnOf x q (defArgs st) (defBody st) (defScope st) .none kV doc pm an cdv ct), osl⟩)
    (c : PySem.W.codeIn K cdv q = true) (k : PySem.W.keepIn K (.ref f) = true) : FnF K x q st f := ⟨⟨_, fun_mk l c k⟩⟩
/-- a def of ours, with its code object -/
structure FunC (K : PySem.W.Frag) (x : Str) (st : Stmt) (f : Addr) (fd : FuncData) (c : Addr) : Prop where
  ex : ∃ oc od kV doc pm an ct osl, fd = PySem.W.fnOf x x (defArgs st) (defBody st) (defScope st) .none kV doc pm an (.ref c) ct ∧ K.lookup f = some ⟨oc, od, .func fd, osl⟩ ∧ PySem.W.codeIn K (.ref c) x = true
  kp : PySem.W.keepIn K (.ref f) = true
/-- .. and the table of that -/
structure FnT (K : PySem.W.Frag) (x : Str) (st : Stmt) (f c Pc : Addr) : Prop where
  ex : ∃ fd, FunC K x st f fd c
  hd : PySem.W.codeHdIn K c Pc = true
theorem fnT {x : Str} {st : Stmt} {f c Pc : Addr} {oc e1 : Value} {od an e2 : Option Addr} {osl sl : Array (Option Value)} {kV doc pm ct : Value} {vs : Array Value}
    (l : K.lookup f = some ⟨oc, od, .func (PySem.W.fnOf x x (defArgs st) (defBody st) (defScope st) .none kV doc pm an (.ref c) ct), osl⟩)
    (cd : PySem.W.codeIn K (.ref c) x = true) (k : PySem.W.keepIn K (.ref f) = true) (lc : K.lookup c = some ⟨e1, e2, .fields vs, sl⟩) (h11 : vs[11]? = some (.ref Pc)) (hd : PySem.W.codeHdIn K c Pc = true) : FnT K x st f c Pc :=
  ⟨⟨_, ⟨oc, od, kV, doc, pm, an, ct, osl, rfl, l, cd⟩, k⟩, hd⟩
end
theorem FunC.binds {K : PySem.W.Frag} {x : Str} {st : Stmt} {f c : Addr} {fd : FuncData} {ps : List Str} (F : FunC K x st f fd c) (hb : ∀ (kV doc pm : Value) (an : Option Addr) (ct : Value) (us : List Value), us.length = ps.length → bindArgs (PySem.W.fnOf x x (defArgs st) (defBody st) (defScope st) .none kV doc pm an (.ref c) ct) ⟨us, []⟩ = pure (ps.zip us)) : Binds K fd ps [] := by
  obtain ⟨oc, od, kV, doc, pm, an, ct, osl, rfl, lk, hcd⟩ := F.ex
  exact .all fun us hl => hb kV doc pm an ct us hl
/-- an error of ours, which keeps the field y -/
structure ErrF (K : PySem.W.Frag) (x y : Str) (C fI CS : Addr) : Prop where
  g : PySem.W.nsIn K mainGlobals x = some (some (.ref C))
  i : PySem.W.findIn K (.ref C) "__init__" = some (some (.ref fI))
  t : PySem.W.typeIn K (.ref fI) = some (.type "function")
  cls : ∃ nm q N bs sn sub ab col dd k0 k1 k2 k3 k5, K.lookup C = some (excClassObj nm q C N bs [.ref CS, .type "ValueError", .type "Exception", .type "BaseException", .type "object"] true sn sub ab col dd k0 k1 k2 k3 k5 "ValueError.__new__")
  sa : PySem.W.findIn K (.ref C) "__setattr__" = some (some (.builtin "object.__setattr__"))
  ex : PySem.W.subIn K (.ref C) (.type "BaseException") = some true
  ty : PySem.W.typeIn K (.ref C) = some (.type "type")
  kp : PySem.W.keepIn K (.ref C) = true
  v : PySem.W.findIn K (.ref C) y = some none
  ga : PySem.W.findIn K (.ref C) "__getattribute__" = some (some (.builtin "BaseException.__getattribute__"))
  gg : PySem.W.findIn K (.ref C) "__getattr__" = some none
  hd : PySem.W.hasDictIn K C = true
  cl : PySem.W.findIn K (.ref C) "__class__" = some (some (.builtin "object.__class__"))
  ob : PySem.W.mroIn K C (.type "object") = some true
  ic : PySem.W.isClsIn K C = true
  sS : PySem.W.subIn K (.ref C) (.ref CS) = some true
  sV : PySem.W.subIn K (.ref C) (.type "ValueError") = some true
theorem refs5 (CS : Addr) : PySem.HandSPX.refsVE [.ref CS, .type "ValueError", .type "Exception", .type "BaseException", .type "object"] = true := by
  show PySem.HandSPX.refsVE [.type "ValueError", .type "Exception", .type "BaseException", .type "object"] = true
  decide +kernel
/-- what is asked of the base of the errors, and of isinstance -/
structure BaseF (K : PySem.W.Frag) (CS : Addr) : Prop where
  g : PySem.W.nsIn K mainGlobals "StowError" = some (some (.ref CS))
  sB : PySem.W.subIn K (.ref CS) (.type "BaseException") = some true
  sI : PySem.W.isClsIn K CS = true
  sT : PySem.W.typeIn K (.ref CS) = some (.type "type")
  hn : PySem.W.specialIn K (.builtin "object.__class__") "__get__" = some (some (.builtin "getset_descriptor.__get__"))
  ht : PySem.W.takesIn K (.builtin "object.__class__") = some true
/-- a class of ours, made by an __init__ -/
structure ClsF (K : PySem.W.Frag) (x : Str) (C fI : Addr) : Prop where
  g : PySem.W.nsIn K mainGlobals x = some (some (.ref C))
  pg : PySem.W.plainGet K C Str.empty = true
  hd : PySem.W.hasDictIn K C = true
  po : PySem.W.plainOver K C = true
  sa : PySem.W.findIn K (.ref C) "__setattr__" = some (some (.builtin "object.__setattr__"))
  mkC : PySem.W.makesIn K C = true
  ini : PySem.W.findIn K (.ref C) "__init__" = some (some (.ref fI))
  ifn : PySem.W.isFn K (.ref fI) = true
  kp : PySem.W.keepIn K (.ref C) = true
theorem ClsF.cls {K : PySem.W.Frag} {x : Str} {C fI : Addr} (F : ClsF K x C fI) : Cls K C := ⟨F.pg, F.hd, F.po, F.sa⟩
theorem ClsF.mak {K : PySem.W.Frag} {x : Str} {C fI : Addr} (F : ClsF K x C fI) : Mk K C fI := ⟨F.mkC, F.ini, F.ifn, F.kp⟩
/-- a classmethod read off a class -/
structure CmF (K : PySem.W.Frag) (C : Addr) (m : Str) (p g : Addr) : Prop where
  at_ : PySem.W.findCls K (.ref C) (.type "type") m = some (.get (.builtin "classmethod.__get__") (.ref p) .none (.ref C))
  rc : ∃ rest, PySem.W.recIn K p "classmethod" = some (.ref g :: rest)
  fi : PySem.W.fnIn K g = true
structure RdF (K : PySem.W.Frag) (C : Addr) : Prop where
  rd : PySem.W.readsIn K C (.type "type") = true
  ga : PySem.W.specialIn K (.ref C) "__getattribute__" = some (some (.builtin "type.__getattribute__"))
section
variable {P : Program} {w : World} {K : PySem.W.Frag} {mg : Str → Option Value} {base h : Heap}
theorem ErrF.O {x y : Str} {C fI CS : Addr} (E : ErrF K x y C fI CS) : OexC K C := by
  obtain ⟨nm, q, N, bs, sn, sub, ab, col, dd, k0, k1, k2, k3, k5, e⟩ := E.cls
  exact ⟨⟨nm, q, N, bs, _, sn, sub, ab, col, dd, k0, k1, k2, k3, k5, e, refs5 CS⟩, E.sa, E.ex, E.ty, E.kp⟩
theorem ErrF.ec {x y : Str} {C fI CS : Addr} (E : ErrF K x y C fI CS) (B : BaseF K CS) : ExcC K C := ⟨E.ga, E.gg, E.ex, E.hd, E.cl, B.hn, B.ht, E.ob⟩
theorem ErrF.xf {x y : Str} {C fI CS : Addr} (E : ErrF K x y C fI CS) : XfC K C := ⟨E.ga, E.gg, E.ex, E.hd⟩
theorem ErrF.exm {x y : Str} {C fI CS : Addr} (E : ErrF K x y C fI CS) (B : BaseF K CS) : PySem.W.exmOne K (.ref C) (.ref CS) = some true := exm_of B.sB B.sI B.sT E.sS
theorem ErrF.ve {x y : Str} {C fI CS : Addr} (E : ErrF K x y C fI CS) : PySem.W.kitOne K (.ref C) (.type "ValueError") = some true := kit_rty (by decide +kernel) E.sV
/-- the tables of the lambdas: by the code objects of the defs that hold them -/
structure TbF (h : Heap) (K : PySem.W.Frag) (c p : Addr) : Prop where
  hd : PySem.W.CodeHd h c p
  n : K.lookup p = none
end
end NX

set_option Elab.async false
set_option linter.all false
set_option maxRecDepth 100000
set_option maxHeartbeats 4000000
/-! The head by one run in the kernel: the written part is what the end's heap holds at told addresses; what is asked of it is one Bool. -/
namespace HK
open PySem L2 LamX PySem.Spec PyProof.Rows NX
abbrev Fg := PySem.W.Frag
/-! ### addresses by names -/
/-- what the module's name x holds -/
abbrev g (x : Str) : Fg → Addr := fun K => He.ga K x
/-- what the class at C holds under m -/
abbrev m (C : Fg → Addr) (x : Str) : Fg → Addr := fun K => He.ma K (C K) x
/-- the def within a property, a classmethod -/
def inner (T : String) (p : Fg → Addr) : Fg → Addr := fun K => match PySem.W.recIn K (p K) T with
  | some (.ref a :: _) => a
  | _ => 0
/-- the classmethod object that the class at C holds under m -/
def cmO (C : Fg → Addr) (x : Str) : Fg → Addr := fun K => match PySem.W.findCls K (.ref (C K)) (.type "type") x with
  | some (.get _ (.ref p) _ _) => p
  | _ => 0
def codeAt (f : Fg → Addr) : Fg → Addr := fun K => match K.lookup (f K) with
  | some ⟨_, _, .func fd, _⟩ => (match fd.code with
    | .ref c => c
    | _ => 0)
  | _ => 0
def tabAt (f : Fg → Addr) : Fg → Addr := fun K => He.tabOf K (codeAt f K)
/-! ### defs -/
structure Df where
  at_ : Fg → Addr
  name : Str
  qual : Str
  params : Arguments
  body : List Stmt
  scope : Scope
  dfl : List He.Dv := []
  kwd : List (Str × He.Dv) := []
abbrev dOf (a : Fg → Addr) (x q : Str) (st : Stmt) : Df := ⟨a, x, q, defArgs st, defBody st, defScope st, [], []⟩
def fnW (K : Fg) (a : Addr) : He.FnW := match K.lookup a with
  | some ⟨_, _, .func fd, _⟩ => some (fd.name, fd.qualname, fd.params, fd.body, fd.scope, fd.globals, fd.closure, fd.builtins)
  | _ => none
def Df.val (d : Df) : He.FnW := some (d.name, d.qual, d.params, .stmts d.body, d.scope, mainGlobals, [], builtinsNs)
def Df.dvs (K : Fg) (d : Df) : List V := d.dfl.map (He.Dv.v K)
def Df.kws (K : Fg) (d : Df) : List (Str × V) := d.kwd.map fun q => (q.1, q.2.v K)
def Df.ok (K : Fg) (d : Df) : Bool := PySem.W.keepIn K (.ref (d.at_ K)) && (match K.lookup (d.at_ K) with
  | some ⟨_, _, .func fd, _⟩ => PySem.W.codeIn K fd.code d.qual && (He.dflB K fd.defaults (d.dvs K) && He.kwdB K fd.kwdefaults (d.kws K))
  | _ => false)
theorem Df.funD {K : Fg} {d : Df} (e : fnW K (d.at_ K) = d.val) (c : d.ok K = true) : ∃ fd, FunD K d.name d.qual d.params d.body d.scope (d.dvs K) (d.kws K) (d.at_ K) fd := by
  obtain ⟨kp, c2⟩ := He.ba c
  unfold fnW at e
  cases q : K.lookup (d.at_ K) with
  | none =>
    rw [q] at c2
    cases c2
  | some o =>
    obtain ⟨oc, od, dt, osl⟩ := o
    rw [q] at c2 e
    cases dt with
    | func fd =>
      obtain ⟨n1, n2, n3, n4, n5, n6, n7, n8, n9, n10, n11, n12, n13, n14, n15⟩ := fd
      have e2 : (some (n1, n2, n3, n4, n5, n6, n7, n15) : He.FnW) = some (d.name, d.qual, d.params, .stmts d.body, d.scope, mainGlobals, [], builtinsNs) := e
      simp only [Option.some.injEq, Prod.mk.injEq] at e2
      obtain ⟨h1, h2, h3, h4, h5, h6, h7, h8⟩ := e2
      subst h1 h2 h3 h4 h5 h6 h7 h8
      have c3 : (PySem.W.codeIn K n13 d.qual && (He.dflB K n8 (d.dvs K) && He.kwdB K n9 (d.kws K))) = true := c2
      obtain ⟨k1, k2⟩ := He.ba c3
      obtain ⟨k3, k4⟩ := He.ba k2
      exact ⟨_, ⟨oc, od, n8, n9, n10, n11, n12, n13, n14, osl, rfl, q, k1, He.dflB_ok k3, He.kwdB_ok k4⟩, kp⟩
    | _ => cases c2
/-! ### the Hook -/
/-- what is told of the written part K of the heap h -/
structure Says (fn : List Df) (tf : List (Fg → Addr)) (ex : Fg → List Bool) (h : Heap) (K : Fg) : Prop where
  fns : (fn.map fun d => fnW K (d.at_ K)) = fn.map Df.val
  fok : ∀ d ∈ fn, d.ok K = true
  more : (ex K).all id = true
  hd : ∀ f ∈ tf, PySem.W.codeHdIn K (codeAt f K) (tabAt f K) = true
  out : ∀ f ∈ tf, K.lookup (tabAt f K) = none
  empty : ∀ f ∈ tf, h.get? (tabAt f K) = some { cls := .none, data := .fields #[] }
def tabsB (gt : Addr → Option Obj) (tf : List (Fg → Addr)) (K : Fg) : Bool := tf.all fun f => PySem.W.codeHdIn K (codeAt f K) (tabAt f K) && (match gt (tabAt f K) with
  | some o => He.emptyTab o
  | none => false)
abbrev Al : Type := List He.FnW × Bool
def obsK (fn : List Df) (tf : List (Fg → Addr)) (ex : Fg → List Bool) (gt : Addr → Option Obj) (K : Fg) : Al := (fn.map fun d => fnW K (d.at_ K), (fn.all fun d => d.ok K) && ((ex K).all id && tabsB gt tf K))
/-- a list made of its items, before it is looked at -/
def frL {α β : Type} : List α → (List α → β) → β
  | [], k => k []
  | x :: r, k => frL r fun r => k (x :: r)
theorem frL_eq {α β : Type} : ∀ (l : List α) (k : List α → β), frL l k = k l
  | [], _ => rfl
  | x :: r, k => by
    show frL r (fun r => k (x :: r)) = _
    rw [frL_eq r]
def obs (as : List Addr) (fn : List Df) (tf : List (Fg → Addr)) (ex : Fg → List Bool) (gt : Addr → Option Obj) : Al := frL (He.frT gt as) fun K => obsK fn tf ex gt K
def val (fn : List Df) : Al := (fn.map Df.val, true)
theorem says_of {as : List Addr} {fn : List Df} {tf : List (Fg → Addr)} {ex : Fg → List Bool} {h : Heap} (e : obs as fn tf ex h.get? = val fn) : Says fn tf ex h (He.frT h.get? as) := by
  unfold obs at e
  rw [frL_eq] at e
  generalize hK : He.frT h.get? as = K at e
  have e1 : (fn.map fun d => fnW K (d.at_ K)) = fn.map Df.val := congrArg (fun z : Al => z.1) e
  have e2 : ((fn.all fun d => d.ok K) && ((ex K).all id && tabsB h.get? tf K)) = true := congrArg (fun z : Al => z.2) e
  obtain ⟨h1, h2⟩ := He.ba e2
  obtain ⟨h3, h4⟩ := He.ba h2
  have key : ∀ f ∈ tf, PySem.W.codeHdIn K (codeAt f K) (tabAt f K) = true ∧ ∃ o, h.get? (tabAt f K) = some o ∧ He.emptyTab o = true := fun p hp => by
    obtain ⟨h5, h6⟩ := He.ba (List.all_eq_true.mp h4 p hp)
    refine ⟨h5, ?_⟩
    cases q : h.get? (tabAt p K) with
    | none =>
      rw [q] at h6
      cases h6
    | some o =>
      rw [q] at h6
      exact ⟨o, rfl, h6⟩
  refine ⟨e1, fun d hd => List.all_eq_true.mp h1 d hd, h3, fun p hp => (key p hp).1, fun p hp => ?_, fun p hp => ?_⟩
  · obtain ⟨_, o, q, z⟩ := key p hp
    have r := He.frT_none (as := as) q z
    rw [hK] at r
    exact r
  · obtain ⟨_, o, q, z⟩ := key p hp
    rw [q, He.emptyTab_eq z]
def hook (as : List Addr) (fn : List Df) (tf : List (Fg → Addr)) (ex : Fg → List Bool) : PySem.W.Hook where
  α := Al
  obs := fun s => obs as fn tf ex s.heap.get?
  val := fun _ => val fn
  says := fun _ h => ∃ K : Fg, K.In h ∧ Says fn tf ex h K
  of := fun _ _ e => ⟨_, He.frT_in, says_of e⟩
  keeps := fun _ _ _ ⟨K, hK, c⟩ k => ⟨K, PySem.W.Frag.In.keeps hK k, ⟨c.fns, c.fok, c.more, c.hd, c.out, fun p hp => k _ _ (c.empty p hp)⟩⟩
theorem obs_eq {as : List Addr} {fn : List Df} {tf : List (Fg → Addr)} {ex : Fg → List Bool} (s : PySem.W.SharedT) : obs as fn tf ex (HandSHeadRun.getT s) = (hook as fn tf ex).obs s.abs := by
  have e : HandSHeadRun.getT s = s.abs.heap.get? := funext (HandSHeadRun.getT_eq s)
  rw [e] <;> rfl
section
variable {fn : List Df} {tf : List (Fg → Addr)} {ex : Fg → List Bool} {h : Heap} {K : Fg}
theorem Says.def_ (c : Says fn tf ex h K) (i : Nat) {d : Df} (hi : fn[i]? = some d := by rfl) : ∃ fd, FunD K d.name d.qual d.params d.body d.scope (d.dvs K) (d.kws K) (d.at_ K) fd := by
  have e2 : (fn.map fun d => fnW K (d.at_ K))[i]? = (fn.map Df.val)[i]? := by rw [c.fns]
  rw [List.getElem?_map, List.getElem?_map, hi] at e2
  exact Df.funD (Option.some.inj e2) (c.fok d (List.mem_of_getElem? hi))
/-- a def without defaults -/
theorem fnF_of {x q : Str} {st : Stmt} {f : Addr} (h : ∃ fd, FunD K x q (defArgs st) (defBody st) (defScope st) [] [] f fd) : FnF K x q st f := by
  obtain ⟨fd, F⟩ := h
  obtain ⟨oc, od, dV, kV, doc, pm, an, cdv, ct, osl, rfl, lk, hcd, hd, _⟩ := F.ex
  rcases hd with ⟨_, rfl⟩ | ⟨n, _⟩
  · exact fnF lk hcd F.kp
  · exact absurd rfl n
theorem fnT_of {x : Str} {st : Stmt} {f : Addr} (h : ∃ fd, FunD K x x (defArgs st) (defBody st) (defScope st) [] [] f fd) (a : Fg → Addr) (ha : a K = f) (hd : PySem.W.codeHdIn K (codeAt a K) (tabAt a K) = true) : FnT K x st f (codeAt a K) (tabAt a K) := by
  obtain ⟨fd, F⟩ := h
  obtain ⟨oc, od, dV, kV, doc, pm, an, cdv, ct, osl, rfl, lk, hcd, hdd, _⟩ := F.ex
  rcases hdd with ⟨_, rfl⟩ | ⟨n, _⟩
  · obtain ⟨c, rfl⟩ := He.codeIn_ref hcd
    have e : codeAt a K = c := by
      unfold codeAt
      rw [ha, lk]
    refine ⟨⟨_, ⟨oc, od, kV, doc, pm, an, ct, osl, ?_, lk, ?_⟩, F.kp⟩, hd⟩
    · rw [e]
    · rw [e]
      exact hcd
  · exact absurd rfl n
theorem Says.at_ (c : Says fn tf ex h K) (i : Nat) {b : Bool} (hi : (ex K)[i]? = some b := by rfl) : b = true := List.all_eq_true.mp c.more b (List.mem_of_getElem? hi)
end
/-! ### facts as Bools -/
section
variable {K : Fg}
def eqV (a b : Option (Option Value)) : Bool := decide (a = b)
theorem eqV_ok {a b : Option (Option Value)} (h : eqV a b = true) : a = b := of_decide_eq_true h
def eqB (a b : Option Bool) : Bool := decide (a = b)
theorem eqB_ok {a b : Option Bool} (h : eqB a b = true) : a = b := of_decide_eq_true h
def eqT (a b : Option Value) : Bool := decide (a = b)
theorem eqT_ok {a b : Option Value} (h : eqT a b = true) : a = b := of_decide_eq_true h
theorem notB_ok {b : Bool} (h : (!b) = true) : b = false := by
  cases b with
  | false => rfl
  | true => cases h
/-- a constant that is a text, an int -/
def strB (K : Fg) (x z : Str) : Bool := match PySem.W.nsIn K mainGlobals x with
  | some (some (.str y _)) => decide (y = z)
  | _ => false
theorem strB_ok {x z : Str} (h : strB K x z = true) : ∃ t, PySem.W.nsIn K mainGlobals x = some (some (.str z t)) := by
  unfold strB at h
  split at h
  · rename_i y t q
    rw [of_decide_eq_true h] at q
    exact ⟨t, q⟩
  · cases h
def intB (K : Fg) (x : Str) (i : Int) : Bool := match PySem.W.nsIn K mainGlobals x with
  | some (some (.int j _)) => decide (j = i)
  | _ => false
theorem intB_ok {x : Str} {i : Int} (h : intB K x i = true) : ∃ t, PySem.W.nsIn K mainGlobals x = some (some (.int i t)) := by
  unfold intB at h
  split at h
  · rename_i y t q
    rw [of_decide_eq_true h] at q
    exact ⟨t, q⟩
  · cases h
/-- an error class over the base CS -/
def errC (K : Fg) (C CS : Addr) : Bool := match K.lookup C with
  | some ⟨.type T, _, .cls cd, sl⟩ => decide (T = "type") && (decide (cd.mro = [.ref C, .ref CS, .type "ValueError", .type "Exception", .type "BaseException", .type "object"]) && (cd.hasDict && (!cd.hasDel && (match sl.toList with
    | [_, _, _, _, some (.builtin n), _] => decide (n = "ValueError.__new__")
    | _ => false))))
  | _ => false
theorem errC_ok {C CS : Addr} (h : errC K C CS = true) : ∃ nm q N bs sn sub ab col dd k0 k1 k2 k3 k5, K.lookup C = some (excClassObj nm q C N bs [.ref CS, .type "ValueError", .type "Exception", .type "BaseException", .type "object"] true sn sub ab col dd k0 k1 k2 k3 k5 "ValueError.__new__") := by
  unfold errC at h
  split at h
  · rename_i T dd cd sl q
    obtain ⟨h1, h⟩ := He.ba h
    obtain ⟨h2, h⟩ := He.ba h
    obtain ⟨h3, h⟩ := He.ba h
    obtain ⟨h4, h5⟩ := He.ba h
    obtain ⟨nm, bs, mro, ns, qn, hd, sn, sub, ab, col, del⟩ := cd
    have e1 : T = "type" := of_decide_eq_true h1
    have e2 : mro = [.ref C, .ref CS, .type "ValueError", .type "Exception", .type "BaseException", .type "object"] := of_decide_eq_true h2
    have e3 : hd = true := h3
    have e4 : del = false := by
      cases del with
      | false => rfl
      | true => cases h4
    subst e1 e2 e3 e4
    obtain ⟨l⟩ := sl
    split at h5
    · rename_i k0 k1 k2 k3 n k5 hl
      have e5 : n = "ValueError.__new__" := of_decide_eq_true h5
      have hl' : l = [k0, k1, k2, k3, some (.builtin n), k5] := hl
      subst e5 hl'
      exact ⟨nm, qn, ns, bs, sn, sub, ab, col, dd, k0, k1, k2, k3, k5, q⟩
    · cases h5
  · cases h
/-- an error of ours: the class x, its field y -/
def errB (K : Fg) (x y : Str) (C fI CS : Addr) : List Bool :=
  [eqV (PySem.W.nsIn K mainGlobals x) (some (some (.ref C))), eqV (PySem.W.findIn K (.ref C) "__init__") (some (some (.ref fI))), eqT (PySem.W.typeIn K (.ref fI)) (some (.type "function")), errC K C CS,
   eqV (PySem.W.findIn K (.ref C) "__setattr__") (some (some (.builtin "object.__setattr__"))), eqB (PySem.W.subIn K (.ref C) (.type "BaseException")) (some true), eqT (PySem.W.typeIn K (.ref C)) (some (.type "type")), PySem.W.keepIn K (.ref C),
   eqV (PySem.W.findIn K (.ref C) y) (some none), eqV (PySem.W.findIn K (.ref C) "__getattribute__") (some (some (.builtin "BaseException.__getattribute__"))), eqV (PySem.W.findIn K (.ref C) "__getattr__") (some none), PySem.W.hasDictIn K C,
   eqV (PySem.W.findIn K (.ref C) "__class__") (some (some (.builtin "object.__class__"))), eqB (PySem.W.mroIn K C (.type "object")) (some true), PySem.W.isClsIn K C, eqB (PySem.W.subIn K (.ref C) (.ref CS)) (some true), eqB (PySem.W.subIn K (.ref C) (.type "ValueError")) (some true)]
theorem all_at {l : List Bool} (h : l.all id = true) (i : Nat) {b : Bool} (hi : l[i]? = some b := by rfl) : b = true := List.all_eq_true.mp h b (List.mem_of_getElem? hi)
theorem errB_ok {x y : Str} {C fI CS : Addr} (h : (errB K x y C fI CS).all id = true) : ErrF K x y C fI CS :=
  ⟨eqV_ok (all_at h 0), eqV_ok (all_at h 1), eqT_ok (all_at h 2), errC_ok (all_at h 3), eqV_ok (all_at h 4), eqB_ok (all_at h 5), eqT_ok (all_at h 6), all_at h 7, eqV_ok (all_at h 8), eqV_ok (all_at h 9), eqV_ok (all_at h 10), all_at h 11, eqV_ok (all_at h 12), eqB_ok (all_at h 13), all_at h 14, eqB_ok (all_at h 15), eqB_ok (all_at h 16)⟩
def baseB (K : Fg) (CS : Addr) : List Bool :=
  [eqV (PySem.W.nsIn K mainGlobals "StowError") (some (some (.ref CS))), eqB (PySem.W.subIn K (.ref CS) (.type "BaseException")) (some true), PySem.W.isClsIn K CS, eqT (PySem.W.typeIn K (.ref CS)) (some (.type "type")),
   eqV (PySem.W.specialIn K (.builtin "object.__class__") "__get__") (some (some (.builtin "getset_descriptor.__get__"))), eqB (PySem.W.takesIn K (.builtin "object.__class__")) (some true)]
theorem baseB_ok {CS : Addr} (h : (baseB K CS).all id = true) : BaseF K CS := ⟨eqV_ok (all_at h 0), eqB_ok (all_at h 1), all_at h 2, eqT_ok (all_at h 3), eqV_ok (all_at h 4), eqB_ok (all_at h 5)⟩
def clsB (K : Fg) (x : Str) (C fI : Addr) : List Bool :=
  [eqV (PySem.W.nsIn K mainGlobals x) (some (some (.ref C))), PySem.W.plainGet K C Str.empty, PySem.W.hasDictIn K C, PySem.W.plainOver K C, eqV (PySem.W.findIn K (.ref C) "__setattr__") (some (some (.builtin "object.__setattr__"))), PySem.W.makesIn K C,
   eqV (PySem.W.findIn K (.ref C) "__init__") (some (some (.ref fI))), PySem.W.isFn K (.ref fI), PySem.W.keepIn K (.ref C)]
theorem clsB_ok {x : Str} {C fI : Addr} (h : (clsB K x C fI).all id = true) : ClsF K x C fI := ⟨eqV_ok (all_at h 0), all_at h 1, all_at h 2, all_at h 3, eqV_ok (all_at h 4), all_at h 5, eqV_ok (all_at h 6), all_at h 7, all_at h 8⟩
/-- a record's first -/
def recB (K : Fg) (p : Addr) (T : String) (gt : Addr) : Bool := match PySem.W.recIn K p T with
  | some (.ref a :: _) => decide (a = gt)
  | _ => false
theorem recB_ok {p gt : Addr} {T : String} (h : recB K p T gt = true) : ∃ rest, PySem.W.recIn K p T = some (.ref gt :: rest) := by
  unfold recB at h
  split at h
  · rename_i a r q
    rw [of_decide_eq_true h] at q
    exact ⟨r, q⟩
  · cases h
def getB (K : Fg) (C : Addr) (x : Str) (p : Addr) : Bool := match PySem.W.findCls K (.ref C) (.type "type") x with
  | some (.get gg pp ob c) => decide (gg = .builtin "classmethod.__get__") && (decide (pp = .ref p) && (decide (ob = .none) && decide (c = .ref C)))
  | _ => false
theorem getB_ok {C p : Addr} {x : Str} (h : getB K C x p = true) : PySem.W.findCls K (.ref C) (.type "type") x = some (.get (.builtin "classmethod.__get__") (.ref p) .none (.ref C)) := by
  unfold getB at h
  split at h
  · rename_i gg pp ob c q
    obtain ⟨h1, h⟩ := He.ba h
    obtain ⟨h2, h⟩ := He.ba h
    obtain ⟨h3, h4⟩ := He.ba h
    rw [q, of_decide_eq_true h1, of_decide_eq_true h2, of_decide_eq_true h3, of_decide_eq_true h4]
  · cases h
def cmB (K : Fg) (C : Addr) (x : Str) (p gt : Addr) : List Bool := [getB K C x p, recB K p "classmethod" gt, PySem.W.fnIn K gt]
theorem cmB_ok {C p gt : Addr} {x : Str} (h : (cmB K C x p gt).all id = true) : CmF K C x p gt := ⟨getB_ok (all_at h 0), recB_ok (all_at h 1), all_at h 2⟩
def rdB (K : Fg) (C : Addr) : List Bool := [PySem.W.readsIn K C (.type "type"), eqV (PySem.W.specialIn K (.ref C) "__getattribute__") (some (some (.builtin "type.__getattribute__")))]
theorem rdB_ok {C : Addr} (h : (rdB K C).all id = true) : RdF K C := ⟨all_at h 0, eqV_ok (all_at h 1)⟩
/-- a class's constant that is an int, read off the class -/
def cvalI (K : Fg) (C : Addr) (x : Str) (i : Int) : Bool := match PySem.W.findCls K (.ref C) (.type "type") x with
  | some (.val (.int j _)) => decide (j = i)
  | _ => false
theorem cvalI_ok {C : Addr} {x : Str} {i : Int} (h : cvalI K C x i = true) : ∃ t, PySem.W.findCls K (.ref C) (.type "type") x = some (.val (.int i t)) := by
  unfold cvalI at h
  split at h
  · rename_i j t q
    rw [of_decide_eq_true h] at q
    exact ⟨t, q⟩
  · cases h
end
/-! ### the end -/
theorem walkGE {l : PySem.W.OpenLaw} {n k : Nat} {q : Program} {loose : List Str} {XP : (Str → Option Value) → Heap → Prop} {YP : World → Heap → Prop} {d : DefRec} {x : Str} (hn : l.most = some n) (hn2 : n ≤ sizeLine) (hdf : d.params.defaults = []) (hr : Room k callerA) (hi : importsNone q = true)
    (G : ∀ (w : World) (mg : Str → Option Value) (fa : Addr) (h : Heap), YP w h → h.Ns mainGlobals mg → mg d.name = some (.ref fa) → ∃ K : Fg, K.In h ∧ ∃ fd cs sp, LawG l w K k n x mg fa h fd cs sp) :
    PySem.W.WalkO q loose XP YP l.row.toRowW d [] (fun f vs => PySem.call f vs) := by
  refine Att.attach_callB hn hdf fun w s₀ s₁ mg mb fa o pm cd doc a vs ns T Y ho hd hcd hmg hobj hints hlen hbits hgen => ?_
  obtain ⟨K, KX, fd, cs, sp, L⟩ := G w mg fa _ Y T.T.g hmg
  exact endG ⟨KX, L.hT, L.nT, hobj, hints, Nat.le_trans hlen hn2⟩ T.T.g T.T.b T.T.builtins T.T.nolimit hgen L.C T.T.bmain hr (by obtain ⟨mm, ⟨o, es, ep, e, d, _⟩, _⟩ := (T.T.seer hi).mods; exact ⟨o, es, ep, e, d⟩) L.F L.bind (fun H h1 h2 => L.ask H a ns hlen h1 h2)
end HK

set_option Elab.async false
set_option linter.all false
set_option maxRecDepth 100000
set_option maxHeartbeats 0
namespace K06H
open PySem PySem.W PySem.Calls PyProof.Rows NX L2
def top (i : Nat) : Stmt := PySem.Challenge.pw_loopstow_k06_whole_powers_and_turned_loo.main.body.getD i (.Pass ⟨0, 0, 0, 0⟩)
/-- a def's default by keyword -/
def kwA (f : HK.Fg → Addr) (x : PySem.Str) : HK.Fg → Addr := fun K => match K.lookup (f K) with
  | some ⟨_, _, .func fd, _⟩ => (match fd.kwdefaults with
    | .ref D => (match PySem.W.nsIn K D x with
      | some (some (.ref a)) => a
      | _ => 0)
    | _ => 0)
  | _ => 0
/-- a def's default by place -/
def dfA (f : HK.Fg → Addr) (i : Nat) : HK.Fg → Addr := fun K => match K.lookup (f K) with
  | some ⟨_, _, .func fd, _⟩ => (match fd.defaults with
    | .ref T => (match K.lookup T with
      | some ⟨_, _, .seq its _, _⟩ => (match its.toList[i]? with
        | some (.ref a) => a
        | _ => 0)
      | _ => 0)
    | _ => 0)
  | _ => 0
/-- a tuple of texts -/
def tupS (K : HK.Fg) (a : Addr) (zs : List PySem.Str) : Bool := match K.lookup a with
  | some ⟨.type c, _, .seq its _, _⟩ => decide (c = "tuple") && (decide (its.size ≤ sizeLine) && He.relAll (zs.map V.str) its.toList)
  | _ => false
theorem tupS_ok {K : HK.Fg} {a : Addr} {zs : List PySem.Str} (h : tupS K a zs = true) (H : Hp) : SqT K H a (zs.map V.str) := by
  unfold tupS at h
  split at h
  · rename_i c od its n sl q
    obtain ⟨h1, h2⟩ := He.ba h
    obtain ⟨h3, h4⟩ := He.ba h2
    exact .inr ⟨_, its, n, q, congrArg Value.type (of_decide_eq_true h1), rfl, of_decide_eq_true h3, He.relAll_ok h4⟩
  · cases h
def a_CS : HK.Fg → Addr := HK.g "StowError"
def a_CD : HK.Fg → Addr := HK.g "Deed"
def a_pNm : HK.Fg → Addr := HK.m (HK.g "Use") "names"
def a_c18 : HK.Fg → Addr := HK.g "NoLoop"
def a_c21 : HK.Fg → Addr := HK.g "TwoLoops"
def a_c0 : HK.Fg → Addr := HK.g "BadName"
def a_c1 : HK.Fg → Addr := HK.g "BadDeed"
def a_c4 : HK.Fg → Addr := HK.g "BadNumber"
def a_c10 : HK.Fg → Addr := HK.g "Twice"
def a_c11 : HK.Fg → Addr := HK.g "TooMany"
def a_dU : HK.Fg → Addr := HK.g "Use"
def a_dM : HK.Fg → Addr := HK.g "Make"
def a_dD : HK.Fg → Addr := HK.g "Do"
def a_cP : HK.Fg → Addr := HK.g "Program"
def a_i0 : HK.Fg → Addr := HK.m (HK.g "BadName") "__init__"
def a_i1 : HK.Fg → Addr := HK.m (HK.g "BadDeed") "__init__"
def a_i4 : HK.Fg → Addr := HK.m (HK.g "BadNumber") "__init__"
def a_i10 : HK.Fg → Addr := HK.m (HK.g "Twice") "__init__"
def a_i11 : HK.Fg → Addr := HK.m (HK.g "TooMany") "__init__"
def a_fU : HK.Fg → Addr := HK.m (HK.g "Use") "__init__"
def a_fM : HK.Fg → Addr := HK.m (HK.g "Make") "__init__"
def a_fD : HK.Fg → Addr := HK.m (HK.g "Do") "__init__"
def a_fNm : HK.Fg → Addr := HK.inner "property" (HK.m (HK.g "Use") "names")
def a_fEq : HK.Fg → Addr := HK.m (HK.g "Deed") "__eq__"
def a_g0 : HK.Fg → Addr := HK.inner "property" (HK.m (HK.g "Program") "ahead")
def a_g1 : HK.Fg → Addr := HK.inner "property" (HK.m (HK.g "Program") "loop")
def a_g2 : HK.Fg → Addr := HK.inner "property" (HK.m (HK.g "Program") "between")
def a_g3 : HK.Fg → Addr := HK.inner "property" (HK.m (HK.g "Program") "second")
def a_g4 : HK.Fg → Addr := HK.inner "property" (HK.m (HK.g "Program") "behind")
def a_g5 : HK.Fg → Addr := HK.inner "property" (HK.m (HK.g "Program") "given")
def a_g6 : HK.Fg → Addr := HK.inner "property" (HK.m (HK.g "Program") "again")
def a_g7 : HK.Fg → Addr := HK.inner "property" (HK.m (HK.g "Program") "results")
def a_g8 : HK.Fg → Addr := HK.inner "property" (HK.m (HK.g "Program") "names")
def a_g9 : HK.Fg → Addr := HK.inner "property" (HK.m (HK.g "Program") "loops")
def a_fPw : HK.Fg → Addr := HK.m (HK.g "Program") "__pow__"
def a_fUn : HK.Fg → Addr := HK.m (HK.g "Program") "unrolled"
def a_fTu : HK.Fg → Addr := HK.m (HK.g "Program") "turned"
def a_fPE : HK.Fg → Addr := HK.m (HK.g "Program") "__eq__"
def a_p0 : HK.Fg → Addr := HK.m (HK.g "Program") "ahead"
def a_p1 : HK.Fg → Addr := HK.m (HK.g "Program") "loop"
def a_p2 : HK.Fg → Addr := HK.m (HK.g "Program") "between"
def a_p3 : HK.Fg → Addr := HK.m (HK.g "Program") "second"
def a_p4 : HK.Fg → Addr := HK.m (HK.g "Program") "behind"
def a_p5 : HK.Fg → Addr := HK.m (HK.g "Program") "given"
def a_p6 : HK.Fg → Addr := HK.m (HK.g "Program") "again"
def a_p7 : HK.Fg → Addr := HK.m (HK.g "Program") "results"
def a_p8 : HK.Fg → Addr := HK.m (HK.g "Program") "names"
def a_p9 : HK.Fg → Addr := HK.m (HK.g "Program") "loops"
def a_fP : HK.Fg → Addr := HK.m (HK.g "Program") "__init__"
def a_fSt : HK.Fg → Addr := HK.m (HK.g "Program") "straight"
def a_tPA : HK.Fg → Addr := HK.g "PARTS"
def a_tLO : HK.Fg → Addr := HK.g "LOOPS"
def a_t0 : HK.Fg → Addr := dfA (HK.m (HK.g "Program") "__init__") 0
def a_t1 : HK.Fg → Addr := dfA (HK.m (HK.g "Program") "__init__") 2
def a_t2 : HK.Fg → Addr := dfA (HK.m (HK.g "Program") "__init__") 4
def a_t3 : HK.Fg → Addr := kwA (HK.m (HK.g "Program") "__init__") "given"
def a_t4 : HK.Fg → Addr := kwA (HK.m (HK.g "Program") "__init__") "results"
def a_fIs : HK.Fg → Addr := HK.g "is_name"
def a_fNum : HK.Fg → Addr := HK.g "is_number"
def a_fCnt : HK.Fg → Addr := HK.g "is_count"
def a_fPri : HK.Fg → Addr := HK.g "is_price"
def a_fCns : HK.Fg → Addr := HK.g "check_names"
def a_fCun : HK.Fg → Addr := HK.g "check_unlike"
def a_fAsc : HK.Fg → Addr := HK.g "ascending"
def a_fCus : HK.Fg → Addr := HK.g "check_used"
def a_fCp : HK.Fg → Addr := HK.g "check_parts"
def a_fCz : HK.Fg → Addr := HK.g "check_sizes"
def a_fCt : HK.Fg → Addr := HK.g "check_told_names"
def a_fAn : HK.Fg → Addr := HK.g "all_names"
def a_fCv : HK.Fg → Addr := HK.g "check_values"
def a_fCd : HK.Fg → Addr := HK.g "check_deed_partchecks"
def a_fCol : HK.Fg → Addr := HK.g "check_one_loop"
def a_fRep : HK.Fg → Addr := HK.g "repeated"
def a_fWp : HK.Fg → Addr := HK.g "with_parts"
def a_fPen : HK.Fg → Addr := HK.g "_law_pen"
def a_fDraw : HK.Fg → Addr := HK.g "_law_draw"
def a_fPick : HK.Fg → Addr := HK.g "_law_pick"
def a_fSome : HK.Fg → Addr := HK.g "_law_some"
def a_fNames : HK.Fg → Addr := HK.g "_law_names"
def a_fReal : HK.Fg → Addr := HK.g "_law_real_deed"
def a_fOr : HK.Fg → Addr := HK.g "_law_order"
def a_fDs : HK.Fg → Addr := HK.g "_law_deeds"
def a_fSi : HK.Fg → Addr := HK.g "_law_site"
def a_fRp : HK.Fg → Addr := HK.g "_law_real_part"
def a_fRl : HK.Fg → Addr := HK.g "_law_real"
def a_fHeard : HK.Fg → Addr := HK.g "_law_heard"
def a_fMn : HK.Fg → Addr := HK.g "_law_many"
def a_fWr : HK.Fg → Addr := HK.g "_law_wrong"
def a_fPd : HK.Fg → Addr := HK.g "_law_power_due"
def a_fUd : HK.Fg → Addr := HK.g "_law_unrolled_due"
def a_fTd : HK.Fg → Addr := HK.g "_law_turned_due"
def a_fKp : HK.Fg → Addr := HK.g "_law_is_kept"
def a_fLp : HK.Fg → Addr := HK.g "_law_power"
def a_fLaw : HK.Fg → Addr := HK.g "law"
def a_fPr : HK.Fg → Addr := HK.g "_law_power_right"
def a_cPr : HK.Fg → Addr := HK.codeAt (HK.g "_law_power_right")
def a_pPr : HK.Fg → Addr := HK.tabAt (HK.g "_law_power_right")
def a_fUr : HK.Fg → Addr := HK.g "_law_unrolled_right"
def a_cUr : HK.Fg → Addr := HK.codeAt (HK.g "_law_unrolled_right")
def a_pUr : HK.Fg → Addr := HK.tabAt (HK.g "_law_unrolled_right")
def a_fTr : HK.Fg → Addr := HK.g "_law_turned_right"
def a_cTr : HK.Fg → Addr := HK.codeAt (HK.g "_law_turned_right")
def a_pTr : HK.Fg → Addr := HK.tabAt (HK.g "_law_turned_right")
def fns : List HK.Df := [⟨a_fP, "__init__", "Program.__init__", L2.defArgs (L2.inClass (top 65) 0), L2.defBody (L2.inClass (top 65) 0), L2.defScope (L2.inClass (top 65) 0), [.adr a_t0, .non, .adr a_t1, .non, .adr a_t2], [("given", .adr a_t3), ("again", .non), ("results", .adr a_t4)]⟩,
  ⟨a_fSt, "straight", "Program.straight", L2.defArgs (L2.inClass (top 65) 16), L2.defBody (L2.inClass (top 65) 16), L2.defScope (L2.inClass (top 65) 16), [.int 0, .int 0], []⟩,
  HK.dOf a_i0 "__init__" "BadName.__init__" (L2.inClass (top 3) 0),
  HK.dOf a_i1 "__init__" "BadDeed.__init__" (L2.inClass (top 4) 0),
  HK.dOf a_i4 "__init__" "BadNumber.__init__" (L2.inClass (top 5) 0),
  HK.dOf a_i10 "__init__" "Twice.__init__" (L2.inClass (top 8) 0),
  HK.dOf a_i11 "__init__" "TooMany.__init__" (L2.inClass (top 9) 0),
  HK.dOf a_fU "__init__" "Use.__init__" (L2.inClass (top 29) 0),
  HK.dOf a_fM "__init__" "Make.__init__" (L2.inClass (top 30) 0),
  HK.dOf a_fD "__init__" "Do.__init__" (L2.inClass (top 31) 0),
  HK.dOf a_fNm "names" "Deed.names" (L2.inClass (top 28) 1),
  HK.dOf a_fEq "__eq__" "Deed.__eq__" (L2.inClass (top 28) 4),
  HK.dOf a_g0 "ahead" "Program.ahead" (L2.inClass (top 65) 1),
  HK.dOf a_g1 "loop" "Program.loop" (L2.inClass (top 65) 2),
  HK.dOf a_g2 "between" "Program.between" (L2.inClass (top 65) 3),
  HK.dOf a_g3 "second" "Program.second" (L2.inClass (top 65) 4),
  HK.dOf a_g4 "behind" "Program.behind" (L2.inClass (top 65) 5),
  HK.dOf a_g5 "given" "Program.given" (L2.inClass (top 65) 6),
  HK.dOf a_g6 "again" "Program.again" (L2.inClass (top 65) 7),
  HK.dOf a_g7 "results" "Program.results" (L2.inClass (top 65) 8),
  HK.dOf a_g8 "names" "Program.names" (L2.inClass (top 65) 9),
  HK.dOf a_g9 "loops" "Program.loops" (L2.inClass (top 65) 10),
  HK.dOf a_fPw "__pow__" "Program.__pow__" (L2.inClass (top 65) 17),
  HK.dOf a_fUn "unrolled" "Program.unrolled" (L2.inClass (top 65) 18),
  HK.dOf a_fTu "turned" "Program.turned" (L2.inClass (top 65) 19),
  HK.dOf a_fPE "__eq__" "Program.__eq__" (L2.inClass (top 65) 22),
  HK.dOf a_fIs "is_name" "is_name" (top 20),
  HK.dOf a_fNum "is_number" "is_number" (top 21),
  HK.dOf a_fCnt "is_count" "is_count" (top 22),
  HK.dOf a_fPri "is_price" "is_price" (top 23),
  HK.dOf a_fCns "check_names" "check_names" (top 24),
  HK.dOf a_fCun "check_unlike" "check_unlike" (top 25),
  HK.dOf a_fAsc "ascending" "ascending" (top 26),
  HK.dOf a_fCus "check_used" "check_used" (top 32),
  HK.dOf a_fCp "check_parts" "check_parts" (top 52),
  HK.dOf a_fCz "check_sizes" "check_sizes" (top 53),
  HK.dOf a_fCt "check_told_names" "check_told_names" (top 54),
  HK.dOf a_fAn "all_names" "all_names" (top 55),
  HK.dOf a_fCv "check_values" "check_values" (top 56),
  HK.dOf a_fCd "check_deed" "check_deed" (top 57),
  HK.dOf a_fCol "check_one_loop" "check_one_loop" (top 66),
  HK.dOf a_fRep "repeated" "repeated" (top 67),
  HK.dOf a_fWp "with_parts" "with_parts" (top 68),
  HK.dOf a_fPen "_law_pen" "_law_pen" (top 70),
  HK.dOf a_fDraw "_law_draw" "_law_draw" (top 71),
  HK.dOf a_fPick "_law_pick" "_law_pick" (top 72),
  HK.dOf a_fSome "_law_some" "_law_some" (top 73),
  HK.dOf a_fNames "_law_names" "_law_names" (top 74),
  HK.dOf a_fReal "_law_real_deed" "_law_real_deed" (top 75),
  HK.dOf a_fOr "_law_order" "_law_order" (top 76),
  HK.dOf a_fDs "_law_deeds" "_law_deeds" (top 77),
  HK.dOf a_fSi "_law_site" "_law_site" (top 78),
  HK.dOf a_fRp "_law_real_part" "_law_real_part" (top 79),
  HK.dOf a_fRl "_law_real" "_law_real" (top 80),
  HK.dOf a_fHeard "_law_heard" "_law_heard" (top 81),
  HK.dOf a_fMn "_law_many" "_law_many" (top 82),
  HK.dOf a_fWr "_law_wrong" "_law_wrong" (top 83),
  HK.dOf a_fPd "_law_power_due" "_law_power_due" (top 84),
  HK.dOf a_fUd "_law_unrolled_due" "_law_unrolled_due" (top 85),
  HK.dOf a_fTd "_law_turned_due" "_law_turned_due" (top 86),
  HK.dOf a_fKp "_law_is_kept" "_law_is_kept" (top 87),
  HK.dOf a_fLp "_law_power" "_law_power" (top 88),
  HK.dOf a_fLaw "law" "law" (top 92),
  HK.dOf a_fPr "_law_power_right" "_law_power_right" (top 89),
  HK.dOf a_fUr "_law_unrolled_right" "_law_unrolled_right" (top 90),
  HK.dOf a_fTr "_law_turned_right" "_law_turned_right" (top 91)]
def tf : List (HK.Fg → Addr) := [a_fPr, a_fUr, a_fTr]
def ex (K : HK.Fg) : List Bool := [HK.eqV (PySem.W.nsIn K mainGlobals "int") (some none),
  HK.eqV (PySem.W.nsIn K mainGlobals "len") (some none),
  HK.eqV (PySem.W.nsIn K mainGlobals "abs") (some none),
  HK.eqV (PySem.W.nsIn K mainGlobals "list") (some none),
  HK.eqV (PySem.W.nsIn K mainGlobals "str") (some none),
  HK.eqV (PySem.W.nsIn K mainGlobals "tuple") (some none),
  HK.eqV (PySem.W.nsIn K mainGlobals "isinstance") (some none),
  HK.eqV (PySem.W.nsIn K mainGlobals "repr") (some none),
  HK.eqV (PySem.W.nsIn K mainGlobals "range") (some none),
  HK.eqV (PySem.W.nsIn K mainGlobals "enumerate") (some none),
  HK.eqV (PySem.W.nsIn K mainGlobals "ValueError") (some none),
  HK.eqV (PySem.W.nsIn K mainGlobals "set") (some none),
  HK.eqV (PySem.W.nsIn K mainGlobals "sorted") (some none),
  HK.eqV (PySem.W.nsIn K mainGlobals "min") (some none),
  HK.eqV (PySem.W.nsIn K mainGlobals "bool") (some none),
  HK.eqV (PySem.W.nsIn K mainGlobals "dict") (some none),
  HK.eqV (PySem.W.nsIn K mainGlobals "reversed") (some none),
  HK.strB K "LETTERS" "abcdefghijklmnopqrstuvwxyz",
  HK.intB K "MOST_LETTERS" 6,
  HK.intB K "MOST_PRICE" 9,
  HK.intB K "MOST_AHEAD" 200,
  HK.intB K "MOST_IN_PART" 24,
  HK.intB K "MOST_NAMES" 6,
  HK.eqV (PySem.W.nsIn K mainGlobals "PARTS") (some (some (.ref (a_tPA K)))),
  HK.eqV (PySem.W.nsIn K mainGlobals "LOOPS") (some (some (.ref (a_tLO K)))),
  tupS K (a_tPA K) ["ahead", "loop", "between", "second", "behind"],
  tupS K (a_tLO K) ["loop", "second"],
  tupS K (a_t1 K) [],
  tupS K (a_t2 K) [],
  (HK.baseB K (a_CS K)).all id,
  (HK.errB K "BadName" "value" (a_c0 K) (a_i0 K) (a_CS K)).all id,
  (HK.errB K "BadDeed" "value" (a_c1 K) (a_i1 K) (a_CS K)).all id,
  (HK.errB K "BadNumber" "value" (a_c4 K) (a_i4 K) (a_CS K)).all id,
  (HK.errB K "Twice" "name" (a_c10 K) (a_i10 K) (a_CS K)).all id,
  (HK.errB K "TooMany" "most" (a_c11 K) (a_i11 K) (a_CS K)).all id,
  HK.eqV (PySem.W.nsIn K mainGlobals "NoLoop") (some (some (.ref (a_c18 K)))),
  (PySem.W.excIn K (a_c18 K) [.type "ValueError", .type "Exception", .type "BaseException", .type "object"] "ValueError.__new__"),
  (PySem.W.keepIn K (.ref (a_c18 K))),
  HK.eqT (PySem.W.typeIn K (.ref (a_c18 K))) (some (.type "type")),
  HK.eqV (PySem.W.findIn K (.ref (a_c18 K)) "__getattribute__") (some (some (.builtin "BaseException.__getattribute__"))),
  HK.eqV (PySem.W.findIn K (.ref (a_c18 K)) "__getattr__") (some none),
  HK.eqB (PySem.W.subIn K (.ref (a_c18 K)) (.type "BaseException")) (some true),
  (PySem.W.hasDictIn K (a_c18 K)),
  HK.eqV (PySem.W.findIn K (.ref (a_c18 K)) "__class__") (some (some (.builtin "object.__class__"))),
  HK.eqB (PySem.W.mroIn K (a_c18 K) (.type "object")) (some true),
  HK.eqB (PySem.W.subIn K (.ref (a_c18 K)) (.ref (a_CS K))) (some true),
  HK.eqB (PySem.W.subIn K (.ref (a_c18 K)) (.type "ValueError")) (some true),
  HK.eqV (PySem.W.nsIn K mainGlobals "TwoLoops") (some (some (.ref (a_c21 K)))),
  (PySem.W.excIn K (a_c21 K) [.type "ValueError", .type "Exception", .type "BaseException", .type "object"] "ValueError.__new__"),
  (PySem.W.keepIn K (.ref (a_c21 K))),
  HK.eqT (PySem.W.typeIn K (.ref (a_c21 K))) (some (.type "type")),
  HK.eqV (PySem.W.findIn K (.ref (a_c21 K)) "__getattribute__") (some (some (.builtin "BaseException.__getattribute__"))),
  HK.eqV (PySem.W.findIn K (.ref (a_c21 K)) "__getattr__") (some none),
  HK.eqB (PySem.W.subIn K (.ref (a_c21 K)) (.type "BaseException")) (some true),
  (PySem.W.hasDictIn K (a_c21 K)),
  HK.eqV (PySem.W.findIn K (.ref (a_c21 K)) "__class__") (some (some (.builtin "object.__class__"))),
  HK.eqB (PySem.W.mroIn K (a_c21 K) (.type "object")) (some true),
  HK.eqB (PySem.W.subIn K (.ref (a_c21 K)) (.ref (a_CS K))) (some true),
  HK.eqB (PySem.W.subIn K (.ref (a_c21 K)) (.type "ValueError")) (some true),
  HK.eqB (PySem.W.kitOne K (.ref (a_c4 K)) (.ref (a_c11 K))) (some false),
  HK.eqB (PySem.W.kitOne K (.ref (a_c4 K)) (.ref (a_c18 K))) (some false),
  HK.eqB (PySem.W.kitOne K (.ref (a_c4 K)) (.ref (a_c21 K))) (some false),
  HK.eqB (PySem.W.kitOne K (.ref (a_c11 K)) (.ref (a_c4 K))) (some false),
  HK.eqB (PySem.W.kitOne K (.ref (a_c11 K)) (.ref (a_c18 K))) (some false),
  HK.eqB (PySem.W.kitOne K (.ref (a_c11 K)) (.ref (a_c21 K))) (some false),
  HK.eqB (PySem.W.kitOne K (.ref (a_c18 K)) (.ref (a_c4 K))) (some false),
  HK.eqB (PySem.W.kitOne K (.ref (a_c18 K)) (.ref (a_c11 K))) (some false),
  HK.eqB (PySem.W.kitOne K (.ref (a_c18 K)) (.ref (a_c21 K))) (some false),
  HK.eqB (PySem.W.kitOne K (.ref (a_c21 K)) (.ref (a_c4 K))) (some false),
  HK.eqB (PySem.W.kitOne K (.ref (a_c21 K)) (.ref (a_c11 K))) (some false),
  HK.eqB (PySem.W.kitOne K (.ref (a_c21 K)) (.ref (a_c18 K))) (some false),
  (HK.clsB K "Use" (a_dU K) (a_fU K)).all id,
  HK.eqV (PySem.W.findIn K (.ref (a_dU K)) "uses") (some none),
  HK.eqV (PySem.W.findIn K (.ref (a_dU K)) "makes") (some none),
  HK.eqV (PySem.W.findIn K (.ref (a_dU K)) "_names") (some none),
  HK.eqV (PySem.W.findIn K (.ref (a_dU K)) "names") (some (some (.ref (a_pNm K)))),
  HK.eqB (PySem.W.kitOne K (.ref (a_dU K)) (.ref (a_CD K))) (some true),
  HK.eqV (PySem.W.findIn K (.ref (a_dU K)) "__eq__") (some (some (.ref (a_fEq K)))),
  HK.eqV (PySem.W.findIn K (.ref (a_dU K)) "__ne__") (some (some (.builtin "object.__ne__"))),
  HK.eqV (PySem.W.findIn K (.ref (a_dU K)) "__class__") (some (some (.builtin "object.__class__"))),
  HK.eqB (PySem.W.mroIn K (a_dU K) (.type "object")) (some true),
  (HK.clsB K "Make" (a_dM K) (a_fM K)).all id,
  HK.eqV (PySem.W.findIn K (.ref (a_dM K)) "uses") (some none),
  HK.eqV (PySem.W.findIn K (.ref (a_dM K)) "makes") (some none),
  HK.eqV (PySem.W.findIn K (.ref (a_dM K)) "_names") (some none),
  HK.eqV (PySem.W.findIn K (.ref (a_dM K)) "names") (some (some (.ref (a_pNm K)))),
  HK.eqB (PySem.W.kitOne K (.ref (a_dM K)) (.ref (a_CD K))) (some true),
  HK.eqV (PySem.W.findIn K (.ref (a_dM K)) "__eq__") (some (some (.ref (a_fEq K)))),
  HK.eqV (PySem.W.findIn K (.ref (a_dM K)) "__ne__") (some (some (.builtin "object.__ne__"))),
  HK.eqV (PySem.W.findIn K (.ref (a_dM K)) "__class__") (some (some (.builtin "object.__class__"))),
  HK.eqB (PySem.W.mroIn K (a_dM K) (.type "object")) (some true),
  (HK.clsB K "Do" (a_dD K) (a_fD K)).all id,
  HK.eqV (PySem.W.findIn K (.ref (a_dD K)) "uses") (some none),
  HK.eqV (PySem.W.findIn K (.ref (a_dD K)) "makes") (some none),
  HK.eqV (PySem.W.findIn K (.ref (a_dD K)) "_names") (some none),
  HK.eqV (PySem.W.findIn K (.ref (a_dD K)) "names") (some (some (.ref (a_pNm K)))),
  HK.eqB (PySem.W.kitOne K (.ref (a_dD K)) (.ref (a_CD K))) (some true),
  HK.eqV (PySem.W.findIn K (.ref (a_dD K)) "__eq__") (some (some (.ref (a_fEq K)))),
  HK.eqV (PySem.W.findIn K (.ref (a_dD K)) "__ne__") (some (some (.builtin "object.__ne__"))),
  HK.eqV (PySem.W.findIn K (.ref (a_dD K)) "__class__") (some (some (.builtin "object.__class__"))),
  HK.eqB (PySem.W.mroIn K (a_dD K) (.type "object")) (some true),
  (HK.clsB K "Program" (a_cP K) (a_fP K)).all id,
  HK.eqV (PySem.W.findIn K (.ref (a_cP K)) "_names") (some none),
  HK.eqV (PySem.W.findIn K (.ref (a_cP K)) "_parts") (some none),
  HK.eqV (PySem.W.findIn K (.ref (a_cP K)) "_given") (some none),
  HK.eqV (PySem.W.findIn K (.ref (a_cP K)) "_again") (some none),
  HK.eqV (PySem.W.findIn K (.ref (a_cP K)) "_results") (some none),
  HK.eqV (PySem.W.findIn K (.ref (a_cP K)) "__eq__") (some (some (.ref (a_fPE K)))),
  HK.eqV (PySem.W.findIn K (.ref (a_cP K)) "__ne__") (some (some (.builtin "object.__ne__"))),
  HK.eqV (PySem.W.findIn K (.ref (a_cP K)) "__class__") (some (some (.builtin "object.__class__"))),
  HK.eqB (PySem.W.mroIn K (a_cP K) (.type "object")) (some true),
  HK.eqV (PySem.W.findIn K (.ref (a_cP K)) "ahead") (some (some (.ref (a_p0 K)))),
  HK.eqV (PySem.W.findIn K (.ref (a_cP K)) "loop") (some (some (.ref (a_p1 K)))),
  HK.eqV (PySem.W.findIn K (.ref (a_cP K)) "between") (some (some (.ref (a_p2 K)))),
  HK.eqV (PySem.W.findIn K (.ref (a_cP K)) "second") (some (some (.ref (a_p3 K)))),
  HK.eqV (PySem.W.findIn K (.ref (a_cP K)) "behind") (some (some (.ref (a_p4 K)))),
  HK.eqV (PySem.W.findIn K (.ref (a_cP K)) "given") (some (some (.ref (a_p5 K)))),
  HK.eqV (PySem.W.findIn K (.ref (a_cP K)) "again") (some (some (.ref (a_p6 K)))),
  HK.eqV (PySem.W.findIn K (.ref (a_cP K)) "results") (some (some (.ref (a_p7 K)))),
  HK.eqV (PySem.W.findIn K (.ref (a_cP K)) "names") (some (some (.ref (a_p8 K)))),
  HK.eqV (PySem.W.findIn K (.ref (a_cP K)) "loops") (some (some (.ref (a_p9 K)))),
  HK.eqV (PySem.W.specialIn K (.ref (a_pNm K)) "__get__") (some (some (.builtin "property.__get__"))),
  HK.eqB (PySem.W.takesIn K (.ref (a_pNm K))) (some true),
  HK.recB K (a_pNm K) "property" (a_fNm K),
  HK.eqV (PySem.W.specialIn K (.ref (a_p0 K)) "__get__") (some (some (.builtin "property.__get__"))),
  HK.eqB (PySem.W.takesIn K (.ref (a_p0 K))) (some true),
  HK.recB K (a_p0 K) "property" (a_g0 K),
  HK.eqV (PySem.W.specialIn K (.ref (a_p1 K)) "__get__") (some (some (.builtin "property.__get__"))),
  HK.eqB (PySem.W.takesIn K (.ref (a_p1 K))) (some true),
  HK.recB K (a_p1 K) "property" (a_g1 K),
  HK.eqV (PySem.W.specialIn K (.ref (a_p2 K)) "__get__") (some (some (.builtin "property.__get__"))),
  HK.eqB (PySem.W.takesIn K (.ref (a_p2 K))) (some true),
  HK.recB K (a_p2 K) "property" (a_g2 K),
  HK.eqV (PySem.W.specialIn K (.ref (a_p3 K)) "__get__") (some (some (.builtin "property.__get__"))),
  HK.eqB (PySem.W.takesIn K (.ref (a_p3 K))) (some true),
  HK.recB K (a_p3 K) "property" (a_g3 K),
  HK.eqV (PySem.W.specialIn K (.ref (a_p4 K)) "__get__") (some (some (.builtin "property.__get__"))),
  HK.eqB (PySem.W.takesIn K (.ref (a_p4 K))) (some true),
  HK.recB K (a_p4 K) "property" (a_g4 K),
  HK.eqV (PySem.W.specialIn K (.ref (a_p5 K)) "__get__") (some (some (.builtin "property.__get__"))),
  HK.eqB (PySem.W.takesIn K (.ref (a_p5 K))) (some true),
  HK.recB K (a_p5 K) "property" (a_g5 K),
  HK.eqV (PySem.W.specialIn K (.ref (a_p6 K)) "__get__") (some (some (.builtin "property.__get__"))),
  HK.eqB (PySem.W.takesIn K (.ref (a_p6 K))) (some true),
  HK.recB K (a_p6 K) "property" (a_g6 K),
  HK.eqV (PySem.W.specialIn K (.ref (a_p7 K)) "__get__") (some (some (.builtin "property.__get__"))),
  HK.eqB (PySem.W.takesIn K (.ref (a_p7 K))) (some true),
  HK.recB K (a_p7 K) "property" (a_g7 K),
  HK.eqV (PySem.W.specialIn K (.ref (a_p8 K)) "__get__") (some (some (.builtin "property.__get__"))),
  HK.eqB (PySem.W.takesIn K (.ref (a_p8 K))) (some true),
  HK.recB K (a_p8 K) "property" (a_g8 K),
  HK.eqV (PySem.W.specialIn K (.ref (a_p9 K)) "__get__") (some (some (.builtin "property.__get__"))),
  HK.eqB (PySem.W.takesIn K (.ref (a_p9 K))) (some true),
  HK.recB K (a_p9 K) "property" (a_g9 K),
  HK.eqV (PySem.W.findIn K (.ref (a_cP K)) "straight") (some (some (.ref (a_fSt K)))),
  (PySem.W.isFn K (.ref (a_fSt K))),
  HK.eqV (PySem.W.findIn K (.ref (a_cP K)) "__pow__") (some (some (.ref (a_fPw K)))),
  (PySem.W.isFn K (.ref (a_fPw K))),
  HK.eqV (PySem.W.findIn K (.ref (a_cP K)) "unrolled") (some (some (.ref (a_fUn K)))),
  (PySem.W.isFn K (.ref (a_fUn K))),
  HK.eqV (PySem.W.findIn K (.ref (a_cP K)) "turned") (some (some (.ref (a_fTu K)))),
  (PySem.W.isFn K (.ref (a_fTu K))),
  (PySem.W.isFn K (.ref (a_fEq K))),
  (PySem.W.isFn K (.ref (a_fPE K))),
  (PySem.W.notFirst K (a_cP K) (.ref (a_cP K))),
  (PySem.W.selfFirst K (a_cP K)),
  HK.eqV (PySem.W.findIn K (.ref (a_cP K)) "__rpow__") (some none),
  (PySem.W.findIn K (.type "int") "__pow__").isSome,
  (PySem.W.findIn K (.type "int") "__rpow__").isSome,
  HK.eqB (PySem.W.subIn K (.type "int") (.ref (a_cP K))) (some false),
  HK.eqV (PySem.W.nsIn K mainGlobals "Deed") (some (some (.ref (a_CD K)))),
  (HK.rdB K (a_CD K)).all id,
  HK.cvalI K (a_CD K) "MOST" 3,
  HK.eqV (PySem.W.nsIn K mainGlobals "is_name") (some (some (.ref (a_fIs K)))),
  HK.eqV (PySem.W.nsIn K mainGlobals "is_number") (some (some (.ref (a_fNum K)))),
  HK.eqV (PySem.W.nsIn K mainGlobals "is_count") (some (some (.ref (a_fCnt K)))),
  HK.eqV (PySem.W.nsIn K mainGlobals "is_price") (some (some (.ref (a_fPri K)))),
  HK.eqV (PySem.W.nsIn K mainGlobals "check_names") (some (some (.ref (a_fCns K)))),
  HK.eqV (PySem.W.nsIn K mainGlobals "check_unlike") (some (some (.ref (a_fCun K)))),
  HK.eqV (PySem.W.nsIn K mainGlobals "ascending") (some (some (.ref (a_fAsc K)))),
  HK.eqV (PySem.W.nsIn K mainGlobals "check_used") (some (some (.ref (a_fCus K)))),
  HK.eqV (PySem.W.nsIn K mainGlobals "check_parts") (some (some (.ref (a_fCp K)))),
  HK.eqV (PySem.W.nsIn K mainGlobals "check_sizes") (some (some (.ref (a_fCz K)))),
  HK.eqV (PySem.W.nsIn K mainGlobals "check_told_names") (some (some (.ref (a_fCt K)))),
  HK.eqV (PySem.W.nsIn K mainGlobals "all_names") (some (some (.ref (a_fAn K)))),
  HK.eqV (PySem.W.nsIn K mainGlobals "check_values") (some (some (.ref (a_fCv K)))),
  HK.eqV (PySem.W.nsIn K mainGlobals "check_deed_partchecks") (some (some (.ref (a_fCd K)))),
  HK.eqV (PySem.W.nsIn K mainGlobals "check_one_loop") (some (some (.ref (a_fCol K)))),
  HK.eqV (PySem.W.nsIn K mainGlobals "repeated") (some (some (.ref (a_fRep K)))),
  HK.eqV (PySem.W.nsIn K mainGlobals "with_parts") (some (some (.ref (a_fWp K)))),
  HK.eqV (PySem.W.nsIn K mainGlobals "_law_pen") (some (some (.ref (a_fPen K)))),
  HK.eqV (PySem.W.nsIn K mainGlobals "_law_draw") (some (some (.ref (a_fDraw K)))),
  HK.eqV (PySem.W.nsIn K mainGlobals "_law_pick") (some (some (.ref (a_fPick K)))),
  HK.eqV (PySem.W.nsIn K mainGlobals "_law_some") (some (some (.ref (a_fSome K)))),
  HK.eqV (PySem.W.nsIn K mainGlobals "_law_names") (some (some (.ref (a_fNames K)))),
  HK.eqV (PySem.W.nsIn K mainGlobals "_law_real_deed") (some (some (.ref (a_fReal K)))),
  HK.eqV (PySem.W.nsIn K mainGlobals "_law_order") (some (some (.ref (a_fOr K)))),
  HK.eqV (PySem.W.nsIn K mainGlobals "_law_deeds") (some (some (.ref (a_fDs K)))),
  HK.eqV (PySem.W.nsIn K mainGlobals "_law_site") (some (some (.ref (a_fSi K)))),
  HK.eqV (PySem.W.nsIn K mainGlobals "_law_real_part") (some (some (.ref (a_fRp K)))),
  HK.eqV (PySem.W.nsIn K mainGlobals "_law_real") (some (some (.ref (a_fRl K)))),
  HK.eqV (PySem.W.nsIn K mainGlobals "_law_heard") (some (some (.ref (a_fHeard K)))),
  HK.eqV (PySem.W.nsIn K mainGlobals "_law_many") (some (some (.ref (a_fMn K)))),
  HK.eqV (PySem.W.nsIn K mainGlobals "_law_wrong") (some (some (.ref (a_fWr K)))),
  HK.eqV (PySem.W.nsIn K mainGlobals "_law_power_due") (some (some (.ref (a_fPd K)))),
  HK.eqV (PySem.W.nsIn K mainGlobals "_law_unrolled_due") (some (some (.ref (a_fUd K)))),
  HK.eqV (PySem.W.nsIn K mainGlobals "_law_turned_due") (some (some (.ref (a_fTd K)))),
  HK.eqV (PySem.W.nsIn K mainGlobals "_law_is_kept") (some (some (.ref (a_fKp K)))),
  HK.eqV (PySem.W.nsIn K mainGlobals "_law_power") (some (some (.ref (a_fLp K)))),
  HK.eqV (PySem.W.nsIn K mainGlobals "law") (some (some (.ref (a_fLaw K)))),
  HK.eqV (PySem.W.nsIn K mainGlobals "_law_power_right") (some (some (.ref (a_fPr K)))),
  HK.eqV (PySem.W.nsIn K mainGlobals "_law_unrolled_right") (some (some (.ref (a_fUr K)))),
  HK.eqV (PySem.W.nsIn K mainGlobals "_law_turned_right") (some (some (.ref (a_fTr K)))),
  (!decide ((a_pPr K) = (a_pUr K))),
  (!decide ((a_pPr K) = (a_pTr K))),
  (!decide ((a_pUr K) = (a_pTr K)))]
def as_ : List Addr := [3, 2, 6, 4, 21, 38, 58, 77, 96, 115, 134, 153, 172, 191, 210, 222, 234, 253, 262, 269, 276, 283, 290, 297, 304, 354, 375, 394, 413, 422, 429, 430, 438, 445, 452, 459, 466, 473, 480, 538, 487, 494, 495, 496, 503, 510, 517, 524, 531, 545, 552, 557, 562, 760, 771, 778, 785, 792, 799, 806, 811, 818, 825, 832, 839, 844, 849, 854, 861, 868, 875, 882, 889, 896, 903, 910, 915, 920, 925, 932, 0, 20, 37, 57, 76, 95, 114, 133, 152, 171, 190, 209, 221, 233, 252, 261, 268, 275, 282, 289, 296, 303, 353, 374, 393, 412, 421, 428, 431, 432, 433, 437, 444, 451, 458, 465, 472, 479, 537, 486, 493, 502, 509, 516, 523, 530, 544, 551, 556, 561, 759, 770, 777, 784, 791, 798, 805, 810, 817, 824, 831, 838, 843, 848, 853, 860, 867, 874, 881, 888, 895, 902, 909, 914, 919, 924, 931, 15, 16, 17, 18, 19, 35, 36, 39, 55, 56, 74, 75, 93, 94, 112, 113, 131, 132, 150, 151, 169, 170, 188, 189, 207, 208, 220, 232, 250, 251, 256, 257, 258, 259, 260, 263, 264, 265, 266, 267, 270, 271, 272, 273, 274, 277, 278, 279, 280, 281, 284, 285, 286, 287, 288, 291, 292, 293, 294, 295, 298, 299, 300, 301, 302, 319, 327, 336, 344, 351, 352, 355, 356, 372, 373, 391, 392, 410, 411, 416, 417, 418, 419, 420, 423, 424, 425, 426, 427, 434, 435, 436, 439, 440, 441, 442, 443, 446, 447, 448, 449, 450, 453, 454, 455, 456, 457, 460, 461, 462, 463, 464, 467, 468, 469, 470, 471, 474, 475, 476, 477, 478, 532, 533, 534, 535, 536, 481, 482, 483, 484, 485, 488, 489, 490, 491, 492, 497, 498, 499, 500, 501, 504, 505, 506, 507, 508, 511, 512, 513, 514, 515, 518, 519, 520, 521, 522, 525, 526, 527, 528, 529, 539, 540, 541, 542, 543, 546, 547, 548, 549, 550, 553, 554, 555, 558, 559, 560, 583, 591, 599, 607, 615, 623, 631, 639, 647, 655, 661, 669, 676, 683, 690, 697, 705, 712, 719, 726, 733, 742, 750, 757, 758, 761, 762, 765, 766, 767, 768, 769, 772, 773, 774, 775, 776, 779, 780, 781, 782, 783, 786, 787, 788, 789, 790, 793, 794, 795, 796, 797, 800, 801, 802, 803, 804, 807, 808, 809, 812, 813, 814, 815, 816, 819, 820, 821, 822, 823, 826, 827, 828, 829, 830, 833, 834, 835, 836, 837, 840, 841, 842, 845, 846, 847, 850, 851, 852, 855, 856, 857, 858, 859, 862, 863, 864, 865, 866, 869, 870, 871, 872, 873, 876, 877, 878, 879, 880, 883, 884, 885, 886, 887, 890, 891, 892, 893, 894, 897, 898, 899, 900, 901, 904, 905, 906, 907, 908, 911, 912, 913, 916, 917, 918, 921, 922, 923, 926, 927, 928, 929, 930, 34, 54, 73, 92, 111, 130, 149, 168, 187, 206, 249, 318, 326, 334, 335, 343, 350, 371, 390, 409, 582, 575, 576, 590, 598, 606, 614, 622, 630, 638, 646, 654, 660, 668, 675, 682, 689, 696, 704, 698, 711, 718, 725, 732, 740, 741, 749, 756, 29, 30, 31, 32, 33, 49, 50, 51, 52, 53, 68, 69, 70, 71, 72, 87, 88, 89, 90, 91, 106, 107, 108, 109, 110, 125, 126, 127, 128, 129, 144, 145, 146, 147, 148, 163, 164, 165, 166, 167, 182, 183, 184, 185, 186, 201, 202, 203, 204, 205, 244, 245, 246, 247, 248, 317, 325, 333, 337, 338, 339, 340, 341, 342, 345, 346, 347, 348, 349, 366, 367, 368, 369, 370, 385, 386, 387, 388, 389, 404, 405, 406, 407, 408, 577, 578, 579, 580, 581, 570, 571, 572, 573, 574, 589, 597, 605, 613, 621, 629, 637, 645, 653, 659, 667, 670, 671, 672, 673, 674, 677, 678, 679, 680, 681, 684, 685, 686, 687, 688, 691, 692, 693, 694, 695, 699, 700, 701, 702, 703, 706, 707, 708, 709, 710, 713, 714, 715, 716, 717, 720, 721, 722, 723, 724, 727, 728, 729, 730, 731, 739, 743, 744, 745, 746, 747, 748, 751, 752, 753, 754, 755, 312, 313, 314, 315, 316, 320, 321, 322, 323, 324, 328, 329, 330, 331, 332, 584, 585, 586, 587, 588, 592, 593, 594, 595, 596, 600, 601, 602, 603, 604, 608, 609, 610, 611, 612, 616, 617, 618, 619, 620, 624, 625, 626, 627, 628, 632, 633, 634, 635, 636, 640, 641, 642, 643, 644, 648, 649, 650, 651, 652, 656, 657, 658, 662, 663, 664, 665, 666, 734, 735, 736, 737, 738]
abbrev R : OpenRow := OpenLaw.row PySem.Challenge.rw_loopstow_k06_whole_powers_and_turned_loo
def loose : List PySem.Str := (["_wall", "StowError", "BadName", "BadDeed", "BadNumber", "BadPrice", "BadPart", "Twice", "TooMany", "Unmade", "MadeAgain", "NoLoop", "TwoLoops", "BadText", "LETTERS", "DIGITS", "MOST_LETTERS", "MOST_PRICE", "is_name", "is_number", "is_count", "is_price", "check_names", "check_unlike", "ascending", "Deed", "Use", "Make", "Do", "check_used"] : List PySem.Str) ++ (["deed_of", "DEED_FORMS", "program_of_text", "begins", "read_names", "read_again", "read_parts", "read_loop", "read_deeds", "check_deed", "check_deed_parsing", "check_length", "PARTS", "LOOPS", "MOST_AHEAD", "MOST_IN_PART", "MOST_NAMES", "check_parts", "check_sizes", "check_told_names", "all_names", "check_values", "check_deed_partchecks", "show_program", "names_line", "again_lines", "deed_lines", "Program", "check_one_loop", "repeated"] : List PySem.Str) ++ (["with_parts", "_law_pen", "_law_draw", "_law_pick", "_law_some", "_law_names", "_law_real_deed", "_law_order", "_law_deeds", "_law_site", "_law_real_part", "_law_real", "_law_heard", "_law_many", "_law_wrong", "_law_power_due", "_law_unrolled_due", "_law_turned_due", "_law_is_kept", "_law_power", "_law_power_right", "_law_unrolled_right", "_law_turned_right"] : List PySem.Str)
abbrev hk : Hook := HK.hook as_ fns tf ex
def ob (s : SharedT) : HK.Al := HK.obs as_ fns tf ex (HandSHeadRun.getT s)
theorem runF (w : World) : HandSHeadRun.RunEq R (view R.prog [92]) hk ob 20000 loose (w.withFollow "special-get-raises" false) := by
  intro os
  kernel_rfl
theorem runT (w : World) : HandSHeadRun.RunEq R (view R.prog [92]) hk ob 20000 loose (w.withFollow "special-get-raises" true) := by
  intro os
  kernel_rfl
theorem run (w : World) : HandSHeadRun.RunEq R (view R.prog [92]) hk ob 20000 loose w := byRow2 "special-get-raises" (P := fun w => HandSHeadRun.RunEq R (view R.prog [92]) hk ob 20000 loose w) runF runT w
end K06H
set_option Elab.async false
set_option linter.all false
set_option maxRecDepth 100000
set_option maxHeartbeats 4000000
namespace K06
open PySem L2
def top (i : Nat) : Stmt := PySem.Challenge.pw_loopstow_k06_whole_powers_and_turned_loo.main.body.getD i (.Pass ⟨0, 0, 0, 0⟩)
abbrev sPen : Stmt := top 70
abbrev sDraw : Stmt := top 71
abbrev sPick : Stmt := top 72
/-- the pen at p: its cells at c, how many cells are read, what is left of a great cell -/
structure Pen (H : Hp) (p c : Addr) (ns : List Int) (at_ rest : Int) : Prop where
  hp : H p = some (.lst [.ref c, .int at_, .int rest])
  hc : H c = some (.lst (ns.map V.int))
  la : 0 ≤ at_
  lr : 0 ≤ rest
theorem Pen.ne {H : Hp} {p c : Addr} {ns : List Int} {at_ rest : Int} (P : Pen H p c ns at_ rest) : c ≠ p := fun e => by
  have h1 := P.hp
  rw [← e, P.hc] at h1
  have h2 : ns.map V.int = [.ref c, .int at_, .int rest] := by injection h1 with h; injection h
  cases ns with
  | nil => cases h2
  | cons a r => simp at h2
/-- all but what stands at p is as it was -/
def But (p : Addr) (H H' : Hp) : Prop := ∀ b o, H b = some o → b ≠ p → H' b = some o
/-- what a draw leaves -/
def Drawn (H : Hp) (p c : Addr) (ns : List Int) (m : Int) (H' : Hp) : Prop := ∃ at' rest', Pen H' p c ns at' rest' ∧ at' ≤ m ∧ But p H H'
def spDraw : Sp := fun vs H Q _ => ∃ (p c : Addr) (ns : List Int) (at_ rest many : Int), vs = [.ref p, .int many] ∧ Pen H p c ns at_ rest ∧ at_ ≤ 1000000 ∧ 1 ≤ many ∧ many < 1073741824 ∧
  ∀ d H', 0 ≤ d → d < many → Drawn H p c ns (at_ + 1) H' → Q (.int d) H'
theorem scDraw : FnScope ["_law_pen_here", "_law_many_here", "_law_digit", "_law_at", "_law_cell", "_law_great", "_law_mixed"] ["_law_pen_here", "_law_many_here"] (defScope sDraw) := ⟨rfl, rfl, rfl, by decide +kernel, rfl, by decide +kernel, by decide +kernel⟩
theorem dpInts {K : PySem.W.Frag} {H : Hp} : ∀ ns : List Int, DpAll K H (ns.map V.int) (ns.map PyData.int)
  | [] => .nil
  | n :: r => .cons (.int n) (dpInts r)
structure TxtB (mg : Str → Option Value) : Prop where
  bint : mg "int" = none
  blen : mg "len" = none
  babs : mg "abs" = none
  blist : mg "list" = none
  bstr : mg "str" = none
  btuple : mg "tuple" = none
  bisinstance : mg "isinstance" = none
  brepr : mg "repr" = none
  brange : mg "range" = none
  benumerate : mg "enumerate" = none
  bVE : mg "ValueError" = none
section
variable {P : Program} {w : World} {K : PySem.W.Frag} {mg : Str → Option Value} {base : Heap}
theorem ok_draw {f : Addr} {fd : FuncData} (F : Fun K "_law_draw" "_law_draw" sDraw f fd) (T : TxtB mg) : FnOk P w K mg base CX0 1 f fd ["_law_pen_here", "_law_many_here"] spDraw := by
  refine F.ok scDraw (fun vs H Q E h => ?_) (fun cdv A outer s H vs Q E hr h => ?_)
  · obtain ⟨p, c, ns, a, r, m, rfl, _⟩ := h
    rfl
  · obtain ⟨p, c, ns, at_, rest, many, rfl, Pn, ha, hm1, hm2, k⟩ := h
    have hu := hu_of hr
    refine ⟨_, (pss_cons (ps_if (pt_cmpR op_gt (pe_ix ix_list (pv 0) pe_int (fun _ _ => rfl)) pe_int (nomark _)) (pss_cons (ps_set (i := 2) scDraw.nd rfl (Or.inl rfl) (pe_op op_mod (pe_callTy call_int1 (by rfl) T.bint (by decide +kernel) (pa_cons (pe_ix ix_list (pv 0) pe_int (fun _ _ => rfl)) pa_nil)) (pv 1)))
      (pss_cons (ps_asg (pe_op op_fdiv (pe_callTy call_int1 (by rfl) T.bint (by decide +kernel) (pa_cons (pe_ix ix_list (pv 0) pe_int (fun _ _ => rfl)) pa_nil)) (pv 1)) (pg_sub (pv 0) pe_int set_list))
      (pss_one (ps_ret (pv 2))))) pss_nil)
      (pss_cons (ps_set (i := 3) scDraw.nd rfl (Or.inl rfl) (pe_ix ix_list (pv 0) pe_int (fun _ _ => rfl)))
      (pss_cons (ps_asg (pe_op op_add (pv 3) pe_int) (pg_sub (pv 0) pe_int set_list))
      (pss_cons (ps_set (i := 4) scDraw.nd rfl (Or.inl rfl) (pe_op op_add (pe_op op_mul pe_int (pv 3)) pe_int))
      (C8.pss_cut (ps_if (pt_cmpR (op_neD hr.units) (pe_ix ix_list (pv 0) pe_int (fun _ _ => rfl)) (pe_lst pa_nil) (nomark _)) (pss_one (ps_set (i := 4) scDraw.nd rfl (Or.inl rfl) (pe_ix ix_list (pe_ix ix_list (pv 0) pe_int (fun _ _ => rfl)) (pe_op op_mod (pe_callTy call_int1 (by rfl) T.bint (by decide +kernel) (pa_cons (pv 3) pa_nil)) (pe_callB call_len_seq (by rfl) T.blen (by decide +kernel) (pa_cons (pe_ix ix_list (pv 0) pe_int (fun _ _ => rfl)) pa_nil))) (fun _ _ => rfl)))) pss_nil)
      (C8.pss_cut (ps_if (PW.pt (pw_and (pt_cmpR op_lt (pv 3) (pe_callB call_len_seq (by rfl) T.blen (by decide +kernel) (pa_cons (pe_ix ix_list (pv 0) pe_int (fun _ _ => rfl)) pa_nil)) (nomark _)) (pw_and1 (pt_cmpR op_ge (pe_callB call_abs (by rfl) T.babs (by decide +kernel) (pa_cons (pv 4) pa_nil)) (pe_op op_pow pe_int pe_int) (nomark _))))) (pss_cons (ps_set (i := 5) scDraw.nd rfl (Or.inl rfl) (pe_op op_add (pe_op op_mul pe_int (pe_op op_sub (pe_callB call_abs (by rfl) T.babs (by decide +kernel) (pa_cons (pv 4) pa_nil)) (pe_op op_pow pe_int pe_int))) (pe_callTy call_int1 (by rfl) T.bint (by decide +kernel) (pa_cons (pe_cmpR op_lt (pv 4) pe_int (nomark _)) pa_nil))))
      (pss_cons (ps_asg (pe_op op_fdiv (pe_callTy call_int1 (by rfl) T.bint (by decide +kernel) (pa_cons (pv 5) pa_nil)) (pv 1)) (pg_sub (pv 0) pe_int set_list))
      (pss_one (ps_ret (pe_op op_mod (pe_callTy call_int1 (by rfl) T.bint (by decide +kernel) (pa_cons (pv 5) pa_nil)) (pv 1)))))) pss_nil)
      (pss_cons (ps_set (i := 6) scDraw.nd rfl (Or.inl rfl) (pe_op op_mod (pe_callTy call_int1 (by rfl) T.bint (by decide +kernel) (pa_cons (pe_op op_pow (pe_op op_add (pe_op op_add (pe_op op_mod (pe_callTy call_int1 (by rfl) T.bint (by decide +kernel) (pa_cons (pv 4) pa_nil)) pe_int) (pe_op op_mul pe_int (pv 3))) pe_int) pe_int) pa_nil)) pe_int))
      (pss_cons (ps_set (i := 6) scDraw.nd rfl (Or.inl rfl) (pe_op op_mod (pe_callTy call_int1 (by rfl) T.bint (by decide +kernel) (pa_cons (pe_op op_pow (pe_op op_add (pe_op op_add (pe_op op_mul (pv 6) (pe_op op_add (pe_op op_mul pe_int (pv 3)) pe_int)) (pe_op op_mul (pe_op op_mul pe_int (pv 3)) (pv 3))) pe_int) pe_int) pa_nil)) pe_int))
      (pss_one (ps_ret (pe_op op_mod (pe_callTy call_int1 (by rfl) T.bint (by decide +kernel) (pa_cons (pe_op op_fdiv (pv 6) pe_int) pa_nil)) (pv 1)))))))))))), ?_⟩
    -- pen[2] > 0
    refine ⟨_, rfl, p, _, _, _, rfl, rfl, SqL.of Pn.hp, rfl, rest, 0, rfl, rfl, _, rfl, ite2 (fun h0 => ?_) (fun h0 => ?_)⟩
    · have hr0 : 0 < rest := of_decide_eq_true h0
      refine ⟨_, rfl, p, _, _, _, rfl, rfl, SqL.of Pn.hp, rfl, .inl ⟨rest, rfl, _, rfl, rest, many, rfl, rfl, (by show 0 < many; omega), ?_⟩⟩
      refine ⟨_, rfl, p, _, _, _, rfl, rfl, SqL.of Pn.hp, rfl, .inl ⟨rest, rfl, _, rfl, rest, many, rfl, rfl, ⟨by omega, by omega⟩, ?_⟩⟩
      refine ⟨_, rfl, p, _, _, _, rfl, rfl, Pn.hp, rfl, _, rfl, ?_⟩
      refine k _ _ (Int.emod_nonneg _ (by omega)) (Int.emod_lt_of_pos _ (by omega)) ⟨at_, rest / many, ⟨upd_same, by rw [upd_ne Pn.ne]; exact Pn.hc, Pn.la, Int.ediv_nonneg Pn.lr (by omega)⟩, by omega, fun b o hb hn => by rw [upd_ne hn]; exact hb⟩
    · -- at = pen[1]; pen[1] = at + 1
      refine ⟨_, rfl, p, _, _, _, rfl, rfl, SqL.of Pn.hp, rfl, ?_⟩
      refine ⟨_, rfl, at_, 1, rfl, rfl, _, rfl, p, _, _, _, rfl, rfl, Pn.hp, rfl, ?_⟩
      have P1 : Pen (upd H p (.lst [.ref c, .int (at_ + 1), .int rest])) p c ns (at_ + 1) rest := ⟨upd_same, by rw [upd_ne Pn.ne]; exact Pn.hc, by have := Pn.la; omega, Pn.lr⟩
      have B1 : But p H (upd H p (.lst [.ref c, .int (at_ + 1), .int rest])) := fun b o hb hn => by rw [upd_ne hn]; exact hb
      -- cell = ..
      refine ⟨_, rfl, _, at_, rfl, rfl, .inl ⟨by decide, by decide⟩, _, _, rfl, rfl, ?_⟩
      refine ⟨fun σ H' => ∃ (cell : Int) (v2 v5 v6 : Option V), σ = [some (.ref p), some (.int many), v2, some (.int at_), some (.int cell), v5, v6] ∧ Pen H' p c ns (at_ + 1) rest ∧ But p H H', ?_, ?_⟩
      · -- if pen[0] != []
        refine ⟨_, rfl, p, _, _, _, rfl, rfl, SqL.of P1.hp, rfl, by decide, fun l hl => ?_⟩
        have npl : p ≠ l := ne_of_none P1.hp hl
        have ncl : c ≠ l := ne_of_none P1.hc hl
        have P2 : Pen (upd (upd H p (.lst [.ref c, .int (at_ + 1), .int rest])) l (.lst [])) p c ns (at_ + 1) rest := ⟨by rw [upd_ne npl]; exact P1.hp, by rw [upd_ne ncl]; exact P1.hc, P1.la, P1.lr⟩
        have B2 : But p H (upd (upd H p (.lst [.ref c, .int (at_ + 1), .int rest])) l (.lst [])) := fun b o hb hn => by
          rw [upd_ne (ne_of_none (B1 b o hb hn) hl)]
          exact B1 b o hb hn
        refine ⟨_, _, .lst (SqL.of P2.hc) (dpInts ns), .lst (SqL.of upd_same) .nil, PySem.W.ke_shaped_ints ns, by decide +kernel, _, rfl, ?_⟩
        cases ns with
        | nil => exact iteF ⟨_, none, none, none, rfl, P2, B2⟩
        | cons n0 nr =>
          refine iteT ?_
          refine ⟨_, rfl, p, _, _, _, rfl, rfl, SqL.of P2.hp, rfl, _, rfl, .inl ⟨at_, rfl, _, rfl, p, _, _, _, rfl, rfl, SqL.of P2.hp, rfl, c, _, rfl, .inl (SqL.of P2.hc), at_, _, rfl, rfl, (by simp), ?_⟩⟩
          have hpos : (0 : Int) < (((n0 :: nr).map V.int).length : Int) := by simp
          have h1 := Int.emod_nonneg at_ (Int.ne_of_gt hpos)
          have h2 := Int.emod_lt_of_pos at_ hpos
          obtain ⟨j, hj⟩ := Int.eq_ofNat_of_zero_le h1
          have hjl : j < (n0 :: nr).length := by rw [hj] at h2; simp at h2 ⊢; omega
          refine ⟨c, _, _, .int ((n0 :: nr)[j]'hjl), rfl, rfl, SqL.of P2.hc, ?_, ?_⟩
          · rw [hj]
            exact atI_nat (by rw [List.getElem?_map, List.getElem?_eq_getElem hjl]; rfl)
          · exact ⟨_, none, none, none, rfl, P2, B2⟩
      · rintro σ' H' ⟨cell, v2, v5, v6, rfl, P2, B2⟩
        have hla := Pn.la
        have fin : ∀ (H2 : Hp) (x : Int), Drawn H p c ns (at_ + 1) H2 → Q (.int (x % many)) H2 := fun H2 x hd => k _ _ (Int.emod_nonneg _ (by omega)) (Int.emod_lt_of_pos _ (by omega)) hd
        have D2 : Drawn H p c ns (at_ + 1) H' := ⟨_, _, P2, by omega, B2⟩
        have m1 := Int.emod_nonneg cell (show (2147483579 : Int) ≠ 0 by decide)
        have m2 := Int.emod_lt_of_pos cell (show (0 : Int) < 2147483579 by decide)
        refine ⟨fun σ H2 => σ = [some (.ref p), some (.int many), v2, some (.int at_), some (.int cell), v5, v6] ∧ H2 = H', ?_, ?_⟩
        · -- at < len(pen[0]) and abs(cell) >= 10 ** 18
          refine ⟨_, rfl, _, rfl, p, _, _, _, rfl, rfl, SqL.of P2.hp, rfl, c, _, rfl, .inl (SqL.of P2.hc), at_, _, rfl, rfl, _, rfl, ?_⟩
          refine ite2 (fun hlt => ?_) (fun hlt => iteF ⟨rfl, rfl⟩)
          refine ⟨_, rfl, cell, rfl, 10, 18, rfl, rfl, ⟨by decide, by decide, by decide⟩, _, _, rfl, rfl, _, rfl, ?_⟩
          refine ite2 (fun hge => ?_) (fun hge => ⟨rfl, rfl⟩)
          have hge := of_decide_eq_true hge
          have h3 : (1000000000000000000 : Int) ≤ if cell < 0 then -cell else cell := hge
          refine ⟨_, rfl, cell, rfl, 10, 18, rfl, rfl, ⟨by decide, by decide, by decide⟩, _, _, rfl, rfl, 2, _, rfl, rfl, .inl ⟨by decide, by decide⟩, _, rfl, cell, 0, rfl, rfl, .inr ⟨_, rfl, _, _, rfl, rfl, ?_⟩⟩
          refine ⟨_, rfl, .inl ⟨_, rfl, _, rfl, _, many, rfl, rfl, ⟨by omega, by omega⟩, _, rfl, p, _, _, _, rfl, rfl, P2.hp, rfl, ?_⟩⟩
          refine ⟨_, rfl, .inl ⟨_, rfl, _, rfl, _, many, rfl, rfl, (by show 0 < many; omega), ?_⟩⟩
          refine fin _ _ ⟨at_ + 1, _, ⟨upd_same, by rw [upd_ne Pn.ne]; exact P2.hc, P2.la, Int.ediv_nonneg ?_ (by omega)⟩, by omega, fun b o hb hn => by rw [upd_ne hn]; exact B2 b o hb hn⟩
          have h4 : (0 : Int) ≤ if decide (cell < 0) = true then 1 else 0 := by split <;> omega
          show (0 : Int) ≤ 2 * ((if cell < 0 then -cell else cell) - 1000000000000000000) + (if decide (cell < 0) = true then 1 else 0)
          omega
        · rintro σ2 H2 ⟨rfl, rfl⟩
          -- mixed, twice
          refine ⟨_, rfl, .inl ⟨cell, rfl, cell, _, rfl, rfl, (by show (0 : Int) < 2147483579; decide), _, rfl, _, at_, rfl, rfl, .inl ⟨by decide, by decide⟩, _, _, rfl, rfl, _, _, rfl, rfl, _, 3, rfl, rfl, ⟨by decide, by decide, ?_⟩, .inl ⟨_, rfl, _, _, rfl, rfl, (by show (0 : Int) < 2147483563; decide), ?_⟩⟩⟩
          · show (cell % 2147483579 + 50093 * at_ + 107).natAbs < 2 ^ 64
            omega
          obtain ⟨M, hM⟩ : ∃ M : Int, M = (cell % 2147483579 + 50093 * at_ + 107) ^ (3 : Int).toNat % 2147483563 := ⟨_, rfl⟩
          have m3 : 0 ≤ M := by rw [hM]; exact Int.emod_nonneg _ (by decide)
          have m4 : M < 2147483563 := by rw [hM]; exact Int.emod_lt_of_pos _ (by decide)
          have m5 : 0 ≤ M * (2 * at_ + 109) := Int.mul_nonneg m3 (by omega)
          have m6 : M * (2 * at_ + 109) ≤ 2147483563 * 2000109 := Int.mul_le_mul (by omega) (by omega) (by omega) (by decide)
          have m7 : 0 ≤ 61151 * at_ * at_ := Int.mul_nonneg (by omega) (by omega)
          have m8 : 61151 * at_ * at_ ≤ 61151 * 1000000 * 1000000 := Int.mul_le_mul (by omega) (by omega) (by omega) (by decide)
          refine ⟨V.int M, by rw [hM]; rfl, _, rfl, 2, at_, rfl, rfl, .inl ⟨by decide, by decide⟩, _, _, rfl, rfl, M, _, rfl, rfl, .inl ⟨by omega, by omega⟩, ?_⟩
          refine ⟨_, rfl, 61151, at_, rfl, rfl, .inl ⟨by decide, by decide⟩, _, rfl, _, at_, rfl, rfl, .inr ⟨by omega, by omega⟩, _, _, rfl, rfl, _, _, rfl, rfl, _, 5, rfl, rfl, ⟨by decide, by decide, ?_⟩, ?_⟩
          · show (M * (2 * at_ + 109) + 61151 * at_ * at_ + 41).natAbs < 2 ^ 64
            omega
          refine .inl ⟨_, rfl, _, _, rfl, rfl, (by show (0 : Int) < 2147483587; decide), ?_⟩
          exact ⟨_, rfl, _, 16, rfl, rfl, ⟨by decide, by decide⟩, .inl ⟨_, rfl, _, rfl, _, many, rfl, rfl, (by show 0 < many; omega), fin _ _ D2⟩⟩
end
end K06

set_option Elab.async false
set_option linter.all false
set_option maxRecDepth 100000
set_option maxHeartbeats 4000000
namespace K06
open PySem L2
theorem But.seq {K : PySem.W.Frag} {H H' : Hp} {p a : Addr} {xs : List V} (B : But p H H') (n : a ≠ p) (h : SqL K H a xs) : SqL K H' a xs := by
  rcases h with (h | ⟨o, h⟩) | h
  · exact .inl (.inl (B _ _ h n))
  · exact .inl (.inr ⟨o, B _ _ h n⟩)
  · exact .inr h
theorem But.trans {p : Addr} {H H1 H2 : Hp} (a : But p H H1) (b : But p H1 H2) : But p H H2 := fun c o h n => b c o (a c o h n) n
theorem But.refl {p : Addr} {H : Hp} : But p H H := fun _ _ h _ => h
theorem But.new {p a : Addr} {H : Hp} {o : HO} (h : H a = none) : But p H (upd H a o) := fun b u e _ => by rw [upd_ne (ne_of_none e h)]; exact e
theorem But.same {p : Addr} {H H1 : Hp} (s : Same H H1) : But p H H1 := fun b o h _ => s b o h
theorem Same.new {a : Addr} {H : Hp} {o : HO} (h : H a = none) : Same H (upd H a o) := fun b u e => by rw [upd_ne (ne_of_none e h)]; exact e
theorem Pen.same {H H' : Hp} {p c : Addr} {ns : List Int} {at_ rest : Int} (P : Pen H p c ns at_ rest) (s : Same H H') : Pen H' p c ns at_ rest := ⟨s _ _ P.hp, s _ _ P.hc, P.la, P.lr⟩
def spPen (K : PySem.W.Frag) : Sp := fun vs H Q _ => ∃ (a : Addr) (ns : List Int), vs = [.ref a] ∧ SqL K H a (ns.map V.int) ∧ ∀ (p c : Addr) (ms : List Int) (H' : Hp), H p = none → Pen H' p c ms 0 0 → Same H H' → Q (.ref p) H'
theorem scPen : FnScope ["_law_script"] ["_law_script"] (defScope sPen) := ⟨rfl, rfl, rfl, by decide +kernel, rfl, by decide +kernel, by decide +kernel⟩
def spPick (K : PySem.W.Frag) : Sp := fun vs H Q _ => ∃ (p c : Addr) (ns : List Int) (at_ rest : Int) (x : V), vs = [.ref p, x] ∧ Pen H p c ns at_ rest ∧ at_ ≤ 1000000 ∧
  ((∃ (a : Addr) (xs : List V), x = .ref a ∧ SqL K H a xs ∧ a ≠ p ∧ 0 < xs.length ∧ xs.length < 1000 ∧ ∀ v H', v ∈ xs → Drawn H p c ns (at_ + 1) H' → Q v H') ∨
   (∃ (z : Str), x = .str z ∧ 0 < z.length ∧ z.length < 1000 ∧ ∀ (ch : Nat) H', ch ∈ z.cps.toList → Drawn H p c ns (at_ + 1) H' → Q (.str ⟨#[ch]⟩) H'))
theorem scPick : FnScope ["_law_pen_here", "_law_some_here"] ["_law_pen_here", "_law_some_here"] (defScope sPick) := ⟨rfl, rfl, rfl, by decide +kernel, rfl, by decide +kernel, by decide +kernel⟩
def cutM (ns : List Int) : List Int := (ns.drop (HT.sIx ns.length 0 none)).take (HT.sIx ns.length ns.length (some 63) - HT.sIx ns.length 0 none)
section
variable {P : Program} {w : World} {K : PySem.W.Frag} {mg : Str → Option Value} {base : Heap}
theorem ok_pen {f : Addr} {fd : FuncData} (F : Fun K "_law_pen" "_law_pen" sPen f fd) (T : TxtB mg) : FnOk P w K mg base CX0 1 f fd ["_law_script"] (spPen K) := by
  refine F.ok scPen (fun vs H Q E h => ?_) (fun cdv A outer s H vs Q E hr h => ?_)
  · obtain ⟨a, ns, rfl, _⟩ := h
    rfl
  · obtain ⟨a, ns, rfl, hS, k⟩ := h
    refine ⟨_, (pss_one (ps_ret (pe_lst (pa_cons (pe_callTy call_list_of (by rfl) T.blist (by decide +kernel) (pa_cons (pe_slice sl_list (pv 0) po_none (po_some pe_int)) pa_nil)) (pa_cons pe_int (pa_cons pe_int pa_nil)))))), ?_⟩
    refine ⟨_, rfl, _, rfl, a, _, rfl, hS, fun d hd => ?_⟩
    refine ⟨d, _, rfl, .inl (SqL.of upd_same), fun c hc => ⟨by show 3 ≤ sizeLine; decide, fun p hp => ?_⟩⟩
    have n1 : d ≠ c := ne_of_none upd_same hc
    have n2 : c ≠ p := ne_of_none upd_same hp
    have s1 : Same H (upd H d (.lst (cutV (ns.map V.int) none (some 63)))) := Same.new hd
    have s2 : Same (upd H d (.lst (cutV (ns.map V.int) none (some 63)))) (upd (upd H d (.lst (cutV (ns.map V.int) none (some 63)))) c (.lst (cutV (ns.map V.int) none (some 63)))) := Same.new hc
    have e : cutV (ns.map V.int) none (some 63) = (cutM ns).map V.int := by
      unfold cutV cutM
      rw [← List.map_drop, ← List.map_take, List.length_map]
    refine k p c (cutM ns) _ ((s1.trans s2).free hp) ⟨upd_same, ?_, Int.le_refl _, Int.le_refl _⟩ ((s1.trans s2).trans (Same.new hp))
    rw [upd_ne n2, upd_same, e]
theorem ok_pick {f : Addr} {fd : FuncData} (F : Fun K "_law_pick" "_law_pick" sPick f fd) (T : TxtB mg) (cDraw : C8.Cal P w K mg base 1 "_law_draw" spDraw []) : FnOk P w K mg base CX0 2 f fd ["_law_pen_here", "_law_some_here"] (spPick K) := by
  refine F.ok scPick (fun vs H Q E h => ?_) (fun cdv A outer s H vs Q E hr h => ?_)
  · obtain ⟨p, c, ns, at_, rest, x, rfl, _⟩ := h
    rfl
  · obtain ⟨p, c, ns, at_, rest, x, rfl, Pn, ha, h⟩ := h
    refine ⟨_, (pss_one (ps_ret (pe_ix ix_seq (pv 1) (C8.pe_c cDraw hr (by decide) rfl (pa_cons (pv 0) (pa_cons (pe_callB (CallR.or call_len_seq call_len_str) (by rfl) T.blen (by decide +kernel) (pa_cons (pv 1) pa_nil)) pa_nil))) (fun _ _ => rfl)))), ?_⟩
    rcases h with ⟨a, xs, rfl, hS, hne, h0, h1, k⟩ | ⟨z, rfl, h0, h1, k⟩
    · refine ⟨_, rfl, _, rfl, _, rfl, .inl ⟨a, xs, rfl, .inl hS, ?_⟩⟩
      refine ⟨p, c, ns, at_, rest, _, rfl, Pn, ha, by omega, by omega, fun d H' d0 d1 hD => ?_⟩
      obtain ⟨at', rest', _, _, hB⟩ := id hD
      obtain ⟨j, rfl⟩ := Int.eq_ofNat_of_zero_le d0
      have hj : j < xs.length := by omega
      refine .inl ⟨a, xs, _, xs[j], rfl, rfl, hB.seq hne hS, atI_nat (List.getElem?_eq_getElem hj), k _ _ (List.getElem_mem hj) hD⟩
    · refine ⟨_, rfl, _, rfl, _, rfl, .inr ⟨z, rfl, Nat.le_of_lt (small1000 (by omega)), ?_⟩⟩
      refine ⟨p, c, ns, at_, rest, _, rfl, Pn, ha, by omega, by omega, fun d H' d0 d1 hD => ?_⟩
      obtain ⟨j, rfl⟩ := Int.eq_ofNat_of_zero_le d0
      have hj : j < z.cps.toList.length := by show j < z.cps.toList.length; rw [Array.length_toList]; exact Int.ofNat_lt.mp d1
      refine .inr (.inr ⟨z, _, z.cps.toList[j], rfl, rfl, Nat.le_of_lt (small1000 (by omega)), atI_nat (List.getElem?_eq_getElem hj), k _ _ (List.getElem_mem hj) hD⟩)
end
end K06

set_option linter.all false
namespace NX
open PySem PySem.Builtin PySem.Builtin.Str
theorem tw_all {p : Nat → Bool} : ∀ {l : List Nat}, l.all p = true → l.takeWhile p = l
  | [], _ => rfl
  | c :: r, h => by
    rw [List.all_cons, Bool.and_eq_true] at h
    rw [List.takeWhile_cons, if_pos h.1, tw_all h.2]
theorem tw_lt {p : Nat → Bool} {l : List Nat} (h : l.all p = false) : (l.takeWhile p).length < l.length := by
  induction l with
  | nil => simp at h
  | cons c r ih =>
    rw [List.all_cons] at h
    rw [List.takeWhile_cons]
    by_cases hc : p c = true
    · rw [if_pos hc, List.length_cons, List.length_cons]
      rw [hc, Bool.true_and] at h
      have := ih h
      omega
    · rw [if_neg hc]
      simp
theorem drop_all {p : Nat → Bool} {l : List Nat} (h : l.all p = false) : (l.drop (l.takeWhile p).length).all p = false := by
  induction l with
  | nil => simp at h
  | cons c r ih =>
    rw [List.all_cons] at h
    rw [List.takeWhile_cons]
    by_cases hc : p c = true
    · rw [if_pos hc, List.length_cons, List.drop_succ_cons]
      rw [hc, Bool.true_and] at h
      exact ih h
    · rw [if_neg hc]
      simp [hc]
theorem strip_empty (x y : Str) : (Txt.stripChars x y = ("" : Str)) ↔ x.cps.toList.all y.cps.contains = true := by
  have len : x.length = x.cps.toList.length := by show x.cps.size = _; simp
  have empty : ∀ {z : Str}, z = ("" : Str) ↔ z.cps.toList = [] := fun {z} => by
    constructor
    · intro e
      rw [e]
      decide +kernel
    · intro e
      obtain ⟨⟨l⟩⟩ := z
      have e' : l = [] := e
      subst e'
      decide +kernel
  unfold Txt.stripChars Txt.stripBy stripSame stripped stripLo stripHi
  simp only [if_true]
  cases ha : x.cps.toList.all y.cps.contains with
  | true =>
    rw [tw_all ha]
    refine ⟨fun _ => rfl, fun _ => ?_⟩
    split
    · rename_i q
      rw [Bool.and_eq_true, beq_iff_eq] at q
      exact empty.mpr (List.length_eq_zero_iff.mp q.1)
    · refine empty.mpr ?_
      simp [strSub, len]
  | false =>
    refine ⟨fun e => ?_, fun e => by cases e⟩
    exfalso
    have h1 := tw_lt ha
    have h2 : (((x.cps.toList.drop (x.cps.toList.takeWhile y.cps.contains).length).reverse).takeWhile y.cps.contains).length < (x.cps.toList.drop (x.cps.toList.takeWhile y.cps.contains).length).length := by
      have := tw_lt (p := y.cps.contains) (l := (x.cps.toList.drop (x.cps.toList.takeWhile y.cps.contains).length).reverse) (by rw [List.all_reverse]; exact drop_all ha)
      rwa [List.length_reverse] at this
    rw [List.length_drop] at h2
    split at e
    · rw [empty] at e
      rw [e] at ha
      cases ha
    · rw [empty] at e
      have q := congrArg List.length e
      simp [strSub] at q
      rw [len] at q
      simp at q h1 h2
      omega
/-- a small letter -/
def lett (c : Nat) : Bool := decide (97 ≤ c) && decide (c ≤ 122)
theorem letters_list : ("abcdefghijklmnopqrstuvwxyz" : Str).cps.toList = List.range' 97 26 := by decide +kernel
theorem letters_mem (c : Nat) : c ∈ ("abcdefghijklmnopqrstuvwxyz" : Str).cps.toList ↔ lett c = true := by
  rw [letters_list, List.mem_range'_1]
  unfold lett
  rw [Bool.and_eq_true, decide_eq_true_eq, decide_eq_true_eq]
  omega
theorem letters_has (c : Nat) : ("abcdefghijklmnopqrstuvwxyz" : Str).cps.contains c = lett c := by
  rw [Bool.eq_iff_iff, Array.contains_iff_mem, ← Array.mem_toList_iff]
  exact letters_mem c
/-- is it a name -/
def nm (z : Str) : Bool := decide (1 ≤ z.length) && (decide (z.length ≤ 6) && z.cps.toList.all lett)
theorem strip_nm (z : Str) : decide (Txt.stripChars z ("abcdefghijklmnopqrstuvwxyz" : Str) = ("" : Str)) = z.cps.toList.all lett := by
  rw [Bool.eq_iff_iff, decide_eq_true_eq, strip_empty]
  have e : ("abcdefghijklmnopqrstuvwxyz" : Str).cps.contains = lett := funext letters_has
  rw [e]
end NX

set_option Elab.async false
set_option linter.all false
set_option maxRecDepth 100000
set_option maxHeartbeats 4000000
/-! A rule of my own: «a, *b = xs», xs a list. -/
namespace NX
open PySem PySem.Spec PyProof.Rows L2
def gStar (K : PySem.W.Frag) (t : TGs) : TG := fun v σ H Q => ∃ (a : Addr) (x : V) (rest : List V), v = .ref a ∧ SqL K H a (x :: rest) ∧ rest.length < 16384 ∧ ∀ D, H D = none → t [x, .ref D] σ (upd H D (.lst rest)) Q
section
variable {X : Cx} {e1 e2 : Expr} {k : Nat} {pos sp : Pos} {t : TGs}
theorem pg_star (hc : X.calm = true) (h : PGs X [e1, e2] t) (hm : (assignEach [e1, .Starred e2 sp] X.env).map (·.2) = (assignEach [e1, e2] X.env).map (·.2) := by rfl) (hl : (assignEach [e1, .Starred e2 sp] X.env).length = 2 := by rfl)
    (hi : (assignEach [e1, .Starred e2 sp] X.env).findIdx? (·.1) = some 1 := by rfl) : PG X (.Tuple [e1, .Starred e2 sp] k pos) (gStar X.K t) := by
  refine ⟨fun pins s σ H v u Q I r hw => ?_⟩
  obtain ⟨a, x, rest, rfl, hq, hz, hw⟩ := hw
  cases r
  obtain ⟨its, rv, pl, _⟩ := I.list hq
  cases rv with
  | @cons _ u1 _ us ra rr =>
    have hlen : rest.length = us.length := Paired.length rr
    have ll := pl.isList
    have hlt : a ≠ s.heap.objs.size := by
      obtain ⟨o, ho, _⟩ := id ll
      exact Nat.ne_of_lt (Heap.lt_size ho)
    rw [PyProof.Rows.assign_Tuple]
    refine wpAny_bind (wpAny_standAt ?_)
    unfold unpack
    rw [hl, hi, hm]
    -- one is drawn, the others are collected, a new list is made of them
    have items : ∀ {R : List Value → Shared → Prop}, (∀ (h2 : Heap) tk, (∀ b o, s.heap.get? b = some o → h2.get? b = some o) → R [u1, .ref h2.objs.size] { s with heap := h2.push { cls := .type "list", data := .seq us.toArray }, toks := tk }) →
        wpAny (model X.prog X.w) X.A (unpackItems (.ref a) 2 (some 1)) R X.xe s := fun {R} hR => by
      unfold unpackItems
      refine wpAny_bind ?_
      unfold notIterableAtAll
      refine wpAny_bind (wpAny_specialOf ll.typeIs slot_list_iter.lookup (wpAny_pure ?_))
      simp only [Bool.false_eq_true, if_false]
      refine wpAny_bind (wpAny_holding (wpAny_pyIter_list ll ?_))
      refine wpAny_bind (wpAny_holding (PySem.W.kun_draw hlt 1 0 _ _ ⟨_, Heap.get?_push_size _ rfl, rfl, rfl⟩ (ll.push _) (by simp) fun h1 it1 sb1 => ?_))
      have l1 : h1.IsList a (u1 :: us).toArray := (ll.push _).extBut sb1.extBut hlt
      obtain ⟨oi, hoi, _⟩ := id it1
      obtain ⟨ol, hol, _⟩ := id l1
      have k1 : ∀ b o, s.heap.get? b = some o → h1.get? b = some o := fun b o e => sb1.extBut b o (Nat.ne_of_lt (Heap.lt_size e)) (Heap.get?_push_of_some _ e)
      show wpAny _ _ (if [u1].length < 1 then _ else _) _ _ _
      rw [if_neg (by simp)]
      refine wpAny_bind (wpAny_holding (PySem.W.kun_collect (s := { s with heap := h1 }) (T := "list_iterator") (.inr (.inr (.inl rfl))) (Walks.list (A := X.A.in1) (I.ok.hd hc) s.heap.objs.size a hlt (u1 :: us).toArray) (fun j u st => st.1.typeIs) (k := 1) (by simp) ⟨it1, l1⟩ (Heap.lt_size hoi) (Heap.lt_size hol) (fun h2 tk k2 => ?_) (by rw [sizeLine_eq]; simp; omega)))
      have e0 : (u1 :: us).toArray.toList.drop 1 = us := by simp
      rw [e0]
      show wpAny _ _ (if us.length < 2 - 1 - 1 then _ else _) _ _ _
      rw [if_neg (by omega)]
      have e1 : us.take (us.length - (2 - 1 - 1)) = us := by simp
      have e2 : us.drop (us.length - (2 - 1 - 1)) = [] := by simp
      have K2 : ∀ b o, s.heap.get? b = some o → h2.get? b = some o := fun b o e => k2 b o (Nat.ne_of_lt (Heap.lt_size e)) (k1 b o e)
      refine wpAny_bind (wpAny_newList (s := { s with heap := h2, toks := tk }) (wpAny_pure ?_) (by rw [e1, sizeLine_eq]; omega))
      have q := hR h2 tk K2
      rw [e1, e2]
      exact q
    refine wpAny_bind (wpAny_holding (items fun h2 tk kp => ?_))
    have I2 : Inv X pins σ H { s with heap := h2, toks := tk } := I.kept kp
    have hn : H h2.objs.size = none := I2.hok.fresh (Nat.le_refl _)
    have J : Inv X pins σ (upd H h2.objs.size (.lst rest)) { s with heap := h2.push { cls := .type "list", data := .seq us.toArray }, toks := tk } :=
      I2.laid (t' := tk) (h' := h2.push { cls := .type "list", data := .seq us.toArray }) (fun b o e => Heap.get?_push_of_some _ e) (Nat.le_refl _) ⟨by rw [sizeLine_eq]; omega, us, 0, rr, Heap.get?_push_size _ rfl⟩
    exact h.run pins _ σ _ [x, .ref h2.objs.size] [u1, .ref h2.objs.size] Q J (.cons ra (.cons rfl .nil)) (hw _ hn)
end
end NX

set_option Elab.async false
set_option linter.all false
set_option maxRecDepth 100000
set_option maxHeartbeats 4000000
namespace K06
open PySem L2 NX
abbrev sIs : Stmt := top 20
theorem scIs : FnScope ["value"] ["value"] (defScope sIs) := ⟨rfl, rfl, rfl, by decide +kernel, rfl, by decide +kernel, by decide +kernel⟩
/-- no text -/
def NoStr (K : PySem.W.Frag) (H : Hp) (x : V) : Prop := ∃ t, TyX K H x t ∧ PySem.W.kitOne K t (.type "str") = some false
def spIs (K : PySem.W.Frag) : Sp := fun vs H Q _ => ∃ x, vs = [x] ∧ ((∃ z, x = .str z ∧ z.length ≤ 1000 ∧ Q (.bl (nm z)) H) ∨ (NoStr K H x ∧ Q (.bl false) H))
structure TxtN (mg : Str → Option Value) : Prop where
  gLet : ∃ t, mg "LETTERS" = some (.str "abcdefghijklmnopqrstuvwxyz" t)
  gMost : ∃ t, mg "MOST_LETTERS" = some (.int 6 t)
section
variable {P : Program} {w : World} {K : PySem.W.Frag} {mg : Str → Option Value} {base : Heap}
theorem ok_is {f : Addr} {fd : FuncData} (F : Fun K "is_name" "is_name" sIs f fd) (T : TxtB mg) (N : TxtN mg) : FnOk P w K mg base CX0 1 f fd ["value"] (spIs K) := by
  refine F.ok scIs (fun vs H Q E h => ?_) (fun cdv A outer s H vs Q E hr h => ?_)
  · obtain ⟨x, rfl, _⟩ := h
    rfl
  · obtain ⟨x, rfl, h⟩ := h
    obtain ⟨t1, gL⟩ := N.gLet
    obtain ⟨t2, gM⟩ := N.gMost
    refine ⟨_, (pss_one (ps_ret (pe_and (pe_callB call_isi (by rfl) T.bisinstance (by decide +kernel) (pa_cons (pv 0) (pa_cons (pe_bltn (v := .ty "str") (by rfl) T.bstr (by decide +kernel) rfl) pa_nil))) (pe_and (pe_chain op_le op_le pe_int (pe_callB call_len_str (by rfl) T.blen (by decide +kernel) (pa_cons (pv 0) pa_nil)) (pe_glob (v := .int 6) rfl gM ⟨_, rfl⟩)) (pe_one (pe_cmpR op_eq (pe_bm PySem.F.plainAttrs_str PySem.F.slot_str_strip PySem.F.type_str_strip mt_stripChars (pv 0) (pa_cons (pe_glob (v := .str "abcdefghijklmnopqrstuvwxyz") rfl gL ⟨_, rfl⟩) pa_nil)) pe_str (nomark _))))))), ?_⟩
    rcases h with ⟨z, rfl, hz, q⟩ | ⟨⟨t, ty, k⟩, q⟩
    · refine ⟨_, rfl, _, _, _, _, true, rfl, .ty "str", .base (.str z), kit_ty (by decide +kernel), true, rfl, iteT ?_⟩
      refine ⟨_, rfl, z, rfl, Nat.le_of_lt (small1000 hz), 1, _, rfl, rfl, _, rfl, ite2 (fun h1 => ?_) (fun h1 => ?_)⟩
      · refine ⟨_, 6, rfl, rfl, _, rfl, ite2 (fun h2 => ?_) (fun h2 => ?_)⟩
        · have e : ∀ b : Bool, b = nm z → Q (.bl b) H := fun b e => by rw [e]; exact q
          refine ⟨_, rfl, rfl, z, _, rfl, rfl, Nat.le_trans hz (by decide), by rfl, e _ ?_⟩
          have e1 := of_decide_eq_true h1
          have e2 := of_decide_eq_true h2
          have g : decide (V.str (Txt.stripChars z (Str.ofString "abcdefghijklmnopqrstuvwxyz")) = V.str (Str.ofString "")) = decide (Txt.stripChars z ("abcdefghijklmnopqrstuvwxyz" : Str) = ("" : Str)) := by
            rw [Bool.eq_iff_iff, decide_eq_true_eq, decide_eq_true_eq]
            exact ⟨fun h => by injection h, fun h => by rw [← h]⟩
          rw [g, strip_nm]
          unfold nm
          rw [decide_eq_true (by omega : 1 ≤ z.length), decide_eq_true (by omega : z.length ≤ 6)]
          rfl
        · have e1 : ¬ (z.length ≤ 6) := fun h => h2 (decide_eq_true (by omega))
          have e : nm z = false := by unfold nm; rw [decide_eq_false e1]; simp
          rw [e] at q
          exact q
      · have e1 : ¬ (1 ≤ z.length) := fun h => h1 (decide_eq_true (by omega))
        have e : nm z = false := by unfold nm; rw [decide_eq_false e1]; simp
        rw [e] at q
        exact ⟨false, rfl, iteF q⟩
    · exact ⟨_, rfl, _, _, _, _, false, rfl, .ty "str", ty, k, false, rfl, iteF q⟩
end
end K06

set_option Elab.async false
set_option linter.all false
set_option maxRecDepth 100000
set_option maxHeartbeats 4000000
/-! Sets of texts: made of a list or a tuple, their length, sorted. -/
namespace NU
open PySem PySem.Spec PyProof.Rows L2
/-- the text of a row of a set's table -/
def txOf (e : Int × Value) : Str := match e.2 with | .str x _ => x | _ => Str.empty
def Tx (wo : World) (e : Int × Value) : Prop := ∃ x u, e.2 = Value.str x u ∧ e.1 = hashStr wo x
/-- the rows of a set of the texts mem, cnt of them -/
structure Rws (wo : World) (mem : Str → Bool) (cnt : Nat) (es : Array (Int × Value)) (t : SetTable) : Prop where
  tx : ∀ e ∈ es.toList, Tx wo e
  nd : (es.toList.map txOf).Nodup
  mm : ∀ x, mem x = true ↔ x ∈ es.toList.map txOf
  few : es.size < scanBound
  fit : t.fits es.size = true
  num : es.size = cnt
  ris : Ris t.place.toList
  led : wo.params.followText "set-order" = true ∨ t.led = true
def SetT (wo : World) (h : Heap) (a : Addr) (mem : Str → Bool) (cnt : Nat) : Prop :=
  ∃ o es ep t, h.get? a = some o ∧ o.ExactSet ∧ o.data = .set es ep t ∧ Rws wo mem cnt es t
section
variable {Pg : Program} {wo : World} {h h2 : Heap} {a : Addr} {mem : Str → Bool} {cnt : Nat}
theorem SetT.mv (R : SetT wo h a mem cnt) (k : ∀ o, h.get? a = some o → h2.get? a = some o) : SetT wo h2 a mem cnt :=
  have ⟨o, es, ep, t, g, r⟩ := R
  ⟨o, es, ep, t, k o g, r⟩
theorem SetT.eqv {mem2 : Str → Bool} (R : SetT wo h a mem cnt) (e : ∀ x, mem2 x = mem x) : SetT wo h a mem2 cnt := (funext e : mem2 = mem) ▸ R
theorem tx_elems {l : List (Int × Value)} (g : ∀ e ∈ l, Tx wo e) : ElemsOf (PySem.strKind Pg wo) l := fun e he =>
  have ⟨x, u, e1, e2⟩ := g e he
  ⟨⟨x, by rw [e1]; exact PySem.strKind_is Pg wo x u, e2⟩, by rw [e1]; rfl⟩
theorem tx_is {e : Int × Value} (g : Tx wo e) (x : Str) : (PySem.strKind Pg wo).is x e.2 = true ↔ txOf e = x := by
  have ⟨y, u, e1, _⟩ := g
  unfold txOf
  rw [e1]
  constructor
  · intro z
    have ⟨u2, e2⟩ := Value.isStrOf_shape (x := x) (v := .str y u) z
    injection e2
  · intro z
    have z : y = x := z
    subst z
    exact PySem.strKind_is Pg wo y u
theorem tx_mem {l : List (Int × Value)} (g : ∀ e ∈ l, Tx wo e) (x : Str) : x ∈ l.map txOf ↔ ∃ e ∈ l, (PySem.strKind Pg wo).is x e.2 = true := by
  rw [List.mem_map]
  exact ⟨fun ⟨e, he, z⟩ => ⟨e, he, (tx_is (g e he) x).2 z⟩, fun ⟨e, he, z⟩ => ⟨e, he, (tx_is (g e he) x).1 z⟩⟩
end
section
variable {Pg : Program} {wo : World} {Ar : Around} {Er : Value → Shared → Prop} {st : Shared} {a : Addr} {mem : Str → Bool} {cnt : Nat}
/-- the rest of a set's add: the new rows are kept, or kept and laid anew -/
theorem rest_add {tell : Bool → Sem Unit} (quiet : ∀ (b : Bool) (s1 : Shared) (Q1 : Unit → Shared → Prop), Q1 () s1 → wpAny (model Pg wo) Ar (tell b) Q1 Er s1)
    {o : Obj} {es es1 : Array (Int × Value)} {ep : Nat} {t t1 : SetTable} (g : st.heap.get? a = some o) (x : o.ExactSet) (d : o.data = .set es ep t) {mem2 : Str → Bool} {c : Nat} (W : Rws wo mem2 c es1 t1)
    {was : Bool} {R : Option Bool → Shared → Prop} (out : ∀ h2, Heap.SameBut a st.heap h2 → SetT wo h2 a mem2 c → R (some true) { st with heap := h2 }) :
    wpAny (model Pg wo) Ar (storeSet a es1 t1 >>= fun _ =>
        if (!was && t1.tooFull) = true then (do tell (relayAll t1 es1 (SetTable.grown es1.size)).2.2; storeSet a (relayAll t1 es1 (SetTable.grown es1.size)).1 (relayAll t1 es1 (SetTable.grown es1.size)).2.1; pure (some true)) else pure (some true)) R Er st := by
  refine wpAny_bind (wpAny_storeSet_of g d ?_ (fits_of_scanBound W.few))
  have g1 := L2.store_at (es' := es1) (t' := t1) g d
  have b1 := Heap.SameBut.update st.heap a (Obj.putSet es1 t1)
  by_cases full : (!was && t1.tooFull) = true
  · rw [if_pos full]
    have p := relayAll_perm t1 es1 (SetTable.grown es1.size)
    have f2 := relayAll_fits t1 es1 (SetTable.grown es1.size)
    have r2 := L2.relayAll_ris t1 es1 (SetTable.grown es1.size)
    have l2 := L2.relayAll_led t1 es1 (SetTable.grown es1.size)
    revert p f2 r2 l2
    generalize relayAll t1 es1 (SetTable.grown es1.size) = Z
    obtain ⟨es2, t2, gave⟩ := Z
    intro p f2 r2 l2
    have same : es2.size = es1.size := by simpa using p.length_eq
    have few2 : es2.size < scanBound := by rw [same]; exact W.few
    refine wpAny_bind (quiet _ _ _ (wpAny_bind (wpAny_storeSet_of g1 rfl (wpAny_pure (out _ (b1.trans (Heap.SameBut.update _ a _)) ?_)) (fits_of_scanBound few2))))
    exact ⟨_, es2, _, t2, L2.store_at (es' := es2) (t' := t2) g1 rfl, x, rfl, fun e he => W.tx e (p.mem_iff.mp he), (p.map txOf).nodup_iff.mpr W.nd, fun y => (W.mm y).trans (p.map txOf).mem_iff.symm, few2, f2,
      same.trans W.num, r2, W.led.imp id fun z => l2.trans z⟩
  · rw [if_neg full]
    exact wpAny_pure (out _ b1 ⟨_, es1, _, t1, g1, x, rfl, W⟩)
theorem add_tx {x : Str} {u : Tok} {Q : Bool → Shared → Prop} (R : SetT wo st.heap a mem cnt) (room : cnt + 1 < scanBound)
    (out : ∀ h2, Heap.SameBut a st.heap h2 → SetT wo h2 a (fun y => mem y || decide (y = x)) (if mem x = true then cnt else cnt + 1) → Q (!mem x) { st with heap := h2 }) :
    wpAny (model Pg wo) Ar (setAddHashed a (.str x u) ((PySem.strKind Pg wo).hash x)) Q Er st := by
  obtain ⟨o, es, ep, t, g, ex, d, W⟩ := R
  have key : (PySem.strKind Pg wo).is x (.str x u) = true := PySem.strKind_is Pg wo x u
  have elems : ElemsOf (PySem.strKind Pg wo) es.toList := tx_elems W.tx
  have plain : (Value.str x u).scannable = true := rfl
  unfold setAddHashed setAddHashedIn
  refine wpAny_holding (wpAny_bind (wpAny_setState_of g d W.fit ?_))
  dsimp only
  rw [byScan_of plain W.few elems, if_pos rfl]
  unfold setAddByScan
  refine wpAny_bind (wpAny_bind (wpAny_rule (wpAny_bind (wpAny_setScan_of key g d W.fit elems ?_))))
  cases at_ : List.findIdx? (fun e => (PySem.strKind Pg wo).is x e.2) es.toList with
  | some j =>
    dsimp only
    obtain ⟨lt, yes, _⟩ := List.findIdx?_eq_some_iff_getElem.mp at_
    have has : mem x = true := (W.mm x).2 ((tx_mem (Pg := Pg) W.tx x).2 ⟨es.toList[j], List.getElem_mem lt, yes⟩)
    have z := out st.heap (Heap.SameBut.refl a st.heap) ⟨o, es, ep, t, g, ex, d, { W with
      mm := fun y => by
        rw [Bool.or_eq_true, decide_eq_true_eq]
        exact ⟨fun q => (W.mm y).1 (q.elim id fun e => by rw [e]; exact has), fun q => .inl ((W.mm y).2 q)⟩
      num := by rw [if_pos has]; exact W.num }⟩
    rw [has] at z
    exact wpAny_pure (wpAny_pure z)
  | none =>
    dsimp only
    have no : x ∉ es.toList.map txOf := fun z => by
      obtain ⟨e, he, q⟩ := (tx_mem (Pg := Pg) W.tx x).1 z
      rw [List.findIdx?_eq_none_iff.mp at_ e he] at q
      cases q
    have not : mem x = false := Bool.eq_false_iff.mpr fun z => no ((W.mm x).1 z)
    have hush : ∀ (b : Bool) {s1 : Shared} {Q1 : Unit → Shared → Prop}, Q1 () s1 → wpAny (model Pg wo) Ar (match b with | true => rule "set.scan.the-table-gave-way" | false => pure ()) Q1 Er s1
      | true, _, _, q => wpAny_rule q
      | false, _, _, q => wpAny_pure q
    have p := layNew_perm t es ((PySem.strKind Pg wo).hash x) (.str x u)
    have f1 := layNew_fits t es ((PySem.strKind Pg wo).hash x) (.str x u)
    have r1 := L2.layNew_ris t es ((PySem.strKind Pg wo).hash x) (.str x u) W.ris
    have l1 := L2.layNew_led t es ((PySem.strKind Pg wo).hash x) (.str x u)
    revert p f1 r1 l1
    generalize layNew t es ((PySem.strKind Pg wo).hash x) (.str x u) = Z
    obtain ⟨es1, t1, was, gave⟩ := Z
    intro p f1 r1 l1
    dsimp only at p f1 r1 l1 ⊢
    rw [Array.toList_push] at p
    have p : es1.toList.Perm (((PySem.strKind Pg wo).hash x, Value.str x u) :: es.toList) := p.trans (List.perm_append_singleton _ _)
    have pt : (es1.toList.map txOf).Perm (x :: es.toList.map txOf) := p.map txOf
    have size1 : es1.size = cnt + 1 := by rw [← W.num]; simpa using p.length_eq
    have V : ∀ t2 : SetTable, t2.fits es1.size = true → Ris t2.place.toList → (wo.params.followText "set-order" = true ∨ t2.led = true) → Rws wo (fun y => mem y || decide (y = x)) (cnt + 1) es1 t2 := fun t2 f r l =>
      { tx := fun e he => (List.mem_cons.mp (p.mem_iff.mp he)).elim (fun z => by rw [z]; exact ⟨x, u, rfl, rfl⟩) (W.tx e)
        nd := pt.nodup_iff.mpr (List.nodup_cons.mpr ⟨no, W.nd⟩)
        mm := fun y => by rw [Bool.or_eq_true, decide_eq_true_eq, W.mm y, pt.mem_iff, List.mem_cons]; exact Or.comm
        few := by rw [size1]; exact room
        fit := f
        num := size1
        ris := r
        led := l }
    have led1 : wo.params.followText "set-order" = true ∨ t1.led = true := W.led.imp id fun z => l1.trans z
    have fin : ∀ h2, Heap.SameBut a st.heap h2 → SetT wo h2 a (fun y => mem y || decide (y = x)) (cnt + 1) → Q true { st with heap := h2 } := fun h2 b r => by
      have z := out h2 b
      rw [not] at z
      exact z r
    refine wpAny_bind (hush _ ?_)
    split
    · refine wpAny_bind ?_
      rw [hashByValue_scannable 8 plain]
      refine wpAny_pure (rest_add (fun b s1 Q1 q => ?_) g ex d (V _ ?_ ?_ ?_) fun h2 b r => wpAny_pure (fin h2 b r))
      · cases b <;> first | exact wpAny_pure q | exact wpAny_rule q
      · first | (split <;> first | exact f1 | exact SetTable.fits_plain_off f1) | exact f1
      · first | (split <;> exact r1) | exact r1
      · first | (split <;> exact led1) | exact led1
    · refine wpAny_bind (wpAny_pure ?_)
      rw [if_pos rfl]
      refine rest_add (fun b s1 Q1 q => ?_) g ex d (V t1 f1 r1 led1) fun h2 b r => wpAny_pure (fin h2 b r)
      cases b <;> first | exact wpAny_pure q | exact wpAny_rule q
end

section
variable {Pg : Program} {wo : World} {Ar : Around} {Er : Value → Shared → Prop} {st : Shared}
abbrev bare (wo : World) : Obj := { cls := .type "set", dict := none, data := .set #[] 0 (.fresh 0 0 (!wo.params.followText "set-order")) }
theorem led0 (wo : World) : wo.params.followText "set-order" = true ∨ (SetTable.fresh 0 0 (!wo.params.followText "set-order")).led = true := by
  show _ ∨ (!wo.params.followText "set-order") = true
  cases wo.params.followText "set-order"
  · exact .inr rfl
  · exact .inl rfl
theorem setT_bare {h : Heap} {a : Addr} (g : h.get? a = some (bare wo)) : SetT wo h a (fun _ => false) 0 :=
  ⟨_, #[], 0, _, g, ⟨rfl, rfl, rfl⟩, rfl, { tx := nofun, nd := List.nodup_nil, mm := fun x => ⟨nofun, nofun⟩, few := by decide, fit := rfl, num := rfl, ris := List.Pairwise.nil, led := led0 wo }⟩
/-- the texts of xs that are new, from the last on: as many as the set of xs has members -/
def many : List Str → Nat
  | [] => 0
  | x :: l => if x ∈ l then many l else many l + 1
theorem many_le : ∀ l : List Str, many l ≤ l.length
  | [] => Nat.le_refl 0
  | x :: l => by
    have q := many_le l
    unfold many
    rw [List.length_cons]
    split <;> omega
theorem many_snoc (x : Str) : ∀ l : List Str, many (l ++ [x]) = if x ∈ l then many l else many l + 1
  | [] => rfl
  | y :: l => by
    have q := many_snoc x l
    show many (y :: (l ++ [x])) = _
    unfold many
    rw [q]
    by_cases e : x = y
    · subst e
      by_cases m : x ∈ l <;> simp [m]
    · have e2 : ¬ y = x := fun z => e z.symm
      by_cases m : x ∈ l <;> by_cases n : y ∈ l <;> simp [m, n, e, e2]
theorem upd_tx {I : Addr} {fp wr : List Addr} {G : Array GenState → Array GenState → Prop} {n : Nat} {Pv : Nat → Value → Prop} {St : Nat → Shared → Prop} {R : Result → Shared → Prop} (W : WalksS Pg wo Ar.in1 I fp wr G n Pv St) (D : Addr) (far : D ∉ fp)
    (xs : List Str) (len : n = xs.length) (room : xs.length + 1 < scanBound) (val : ∀ i v, Pv i v → ∃ x u, xs[i]? = some x ∧ v = .str x u) :
    ∀ (left i : Nat) (t : Shared), n - i = left → i ≤ n → St i t → SetT wo t.heap D (fun y => decide (y ∈ xs.take i)) (many (xs.take i)) →
      (∀ t2, Moved (D :: wr) G t t2 → SetT wo t2.heap D (fun y => decide (y ∈ xs)) (many xs) → R (.ok (.ret .none)) t2) → codeAny (model Pg wo) Ar (.builtin "set.update.loop" ⟨[.ref D, .ref I], []⟩) R t := by
  have off : D ∉ wr := fun z => far (W.sub _ z)
  have sub : ∀ b ∈ wr, b ∈ D :: wr := fun b z => List.mem_cons_of_mem _ z
  intro left
  induction left with
  | zero =>
    intro i t e le here S out
    obtain rfl : i = n := by omega
    refine codeAny_builtin F.entry_set_update_loop ?_
    rw [Around.under_plainId F.plain_set_update_loop _]
    refine wpAny_bind (m := pyNext (.ref I)) (W.done t _ _ here fun t2 mv => wpAny_pure (out t2 (mv.mono sub) ?_))
    have all : xs.take i = xs := List.take_of_length_le (by omega)
    rw [all] at S
    exact S.mv fun o z => mv.heap D o off z
  | succ left ih =>
    intro i t e le here S out
    have lt : i < n := by omega
    refine codeAny_builtin F.entry_set_update_loop ?_
    rw [Around.under_plainId F.plain_set_update_loop _]
    refine wpAny_bind (m := pyNext (.ref I)) (W.item i t _ _ lt here fun v t2 pv next mv => ?_)
    obtain ⟨x, u, at_, rfl⟩ := val i v pv
    have S2 : SetT wo t2.heap D (fun y => decide (y ∈ xs.take i)) (many (xs.take i)) := S.mv fun o z => mv.heap D o off z
    refine wpAny_bind (m := holding [Value.str x u] (setAdd D (.str x u))) (wpAny_holding ?_)
    unfold setAdd
    have low : many (xs.take i) ≤ i := Nat.le_trans (many_le _) (by rw [List.length_take]; omega)
    refine wpAny_holding (wpAny_bind ((PySem.strKind Pg wo).pyHash (k := x) (PySem.strKind_is _ _ _ _) (add_tx (st := { t2 with toks := t2.toks + 1 }) S2 (by omega) fun h3 but S3 => ?_)))
    have more : xs.take (i + 1) = xs.take i ++ [x] := by rw [List.take_add_one, at_]; rfl
    have S4 : SetT wo h3 D (fun y => decide (y ∈ xs.take (i + 1))) (many (xs.take (i + 1))) := by
      rw [more, many_snoc]
      have z : (fun y => decide (y ∈ xs.take i ++ [x])) = fun y => decide (y ∈ xs.take i) || decide (y = x) := funext fun y => by simp [List.mem_append]
      rw [z]
      by_cases m : x ∈ xs.take i
      · rw [if_pos m]
        rw [if_pos (decide_eq_true m)] at S3
        exact S3
      · rw [if_neg m]
        rw [if_neg (by simpa using m)] at S3
        exact S3
    have keep : ∀ b o, b ≠ D → t2.heap.get? b = some o → h3.get? b = some o := fun b o ne z => by rw [but.2 b ne]; exact z
    refine wpAny_pure ⟨plainId_quiet F.plain_set_update_loop _, ih (i + 1) _ (by omega) lt (W.frame _ t2 _ _ next (Nat.le_succ _) fun b z o q => keep b o (fun e2 => far (e2 ▸ z)) q) S4 fun t4 mv2 S5 => out t4 ?_ S5⟩
    exact Moved.trans W.gtrans ((mv.mono sub).then_heap (Nat.le_succ _) fun b o z q => keep b o (fun e2 => z (e2 ▸ List.mem_cons_self)) q) mv2
/-- set(xs), xs a list or a tuple of texts -/
theorem call_set {l : Addr} {its : Array Value} (xs : List Str) {Q : Value → Shared → Prop} (cold : Ar.handled = none) (hl : st.heap.IsList l its ∨ st.heap.IsTuple l its) (each : StrsAre its.toList xs) (room : xs.length + 1 < scanBound)
    (out : ∀ h2 tk, SetT wo h2 st.heap.objs.size (fun y => decide (y ∈ xs)) (many xs) → (∀ b o, st.heap.get? b = some o → h2.get? b = some o) → Q (.ref st.heap.objs.size) { st with heap := h2, toks := tk }) :
    wpAny (model Pg wo) Ar (call (.type "set") [.ref l]) Q Er st := by
  have len : its.size = xs.length := by simpa using each.length
  have val : ∀ (i : Nat) (v : Value), its[i]? = some v → ∃ x u, xs[i]? = some x ∧ v = .str x u := fun i v z => by
    have lt : i < xs.length := by rw [← len]; exact (Array.getElem?_eq_some_iff.mp z).1
    obtain ⟨u, e⟩ := SS.strs_at each i v (by rw [Array.getElem?_toList]; exact z)
    exact ⟨xs[i], u, List.getElem?_eq_getElem lt, by rw [e, List.getD_eq_getElem?_getD, List.getElem?_eq_getElem lt]; rfl⟩
  have lo : l < st.heap.objs.size := by
    rcases hl with ⟨o, g, _⟩ | ⟨o, g, _⟩ <;> exact Heap.lt_size g
  obtain ⟨c, tl, hmro⟩ := PySem.F.called_set.mro
  have hmade := PySem.F.called_set.made
  have hsub := PySem.F.called_set.sub
  refine wpAny_call (codeAny_of_tree ?_)
  show wpAny _ _ (callAny (.type "set") _) _ _ _
  refine wpAny_pure ⟨Code.quiet_builtin _ (by decide +kernel), codeAny_builtin PySem.F.entry_type_call ?_⟩
  rw [Around.under_plain (weight_type_call_type "set" [.ref l] []) rfl]
  have h1 := PySem.F.called_set.notType
  have h2 := PySem.F.called_set.canCreate
  have hct := PySem.F.typeCall_set_1 (.ref l)
  repeat (any_goals (first | assumption | wp_step))
  refine codeAny_mono (L2.code_set_led1 (.ref l) (E := Er) (Q₁ := fun v t => v = .ref st.heap.objs.size ∧ t = { st with heap := st.heap.push (bare wo) }) ⟨rfl, rfl⟩) fun r t z => ?_
  rcases r with e | fl
  · exact z
  cases fl with
  | ret v =>
    obtain ⟨rfl, rfl⟩ := z
    have gD : (st.heap.push (bare wo)).get? st.heap.objs.size = some (bare wo) := Heap.get?_push_size _ rfl
    have isD : Shared.TypeIs { st with heap := st.heap.push (bare wo) } (.ref st.heap.objs.size) "set" := ⟨_, gD, rfl⟩
    have sz : (st.heap.push (bare wo)).objs.size = st.heap.objs.size + 1 := Heap.size_push ..
    have hli := PySem.F.called_set.init.lookup
    have hbi := PySem.F.called_set.init.bind (.ref st.heap.objs.size)
    repeat (any_goals (first | assumption | wp_step))
    refine codeAny_mono (codeAny_call_builtin (R := wants (fun r t => r = .none ∧ ∃ h2 tk, t = { st with heap := h2, toks := tk } ∧ SetT wo h2 st.heap.objs.size (fun y => decide (y ∈ xs)) (many xs) ∧ (∀ b o, st.heap.get? b = some o → h2.get? b = some o)) Er)
      PySem.F.called_set.init.plain PySem.F.entry_set_init (check_set_init_1 isD ?_)) fun r2 t2 z2 => ?_
    · have cold3 : Ar.in1.in1.in1.handled = none := by simp [cold]
      have start : ∀ {h : Heap}, h.get? st.heap.objs.size = some (bare wo) → SetT wo h st.heap.objs.size (fun y => decide (y ∈ xs.take 0)) (many (xs.take 0)) := fun g => (setT_bare g).eqv fun y => by simp
      have neI : l ≠ (st.heap.push (bare wo)).objs.size := Nat.ne_of_lt (by rw [sz]; exact Nat.lt_succ_of_lt lo)
      have far : st.heap.objs.size ∉ [(st.heap.push (bare wo)).objs.size, l] := by
        simp only [List.mem_cons, List.not_mem_nil, or_false, not_or]
        exact ⟨Nat.ne_of_lt (by rw [sz]; exact Nat.lt_succ_self _), Nat.ne_of_gt lo⟩
      have old : ∀ b o, st.heap.get? b = some o → b ∉ [st.heap.objs.size, (st.heap.push (bare wo)).objs.size] := fun b o g => by
        have lb := Heap.lt_size g
        simp only [List.mem_cons, List.not_mem_nil, or_false, not_or]
        exact ⟨Nat.ne_of_lt lb, Nat.ne_of_lt (by rw [sz]; exact Nat.lt_succ_of_lt lb)⟩
      have ne : (Value.type "tuple" == Value.type "dict") = false := by decide
      have ne2 : (Value.type "list" == Value.type "dict") = false := by decide
      rcases hl with hl | hl
      · obtain ⟨⟨ocls, odict, odata, oslots⟩, g, hc, nl, hd⟩ := hl
        simp only at hc hd
        subst hc; subst hd
        have g2 : (st.heap.push (bare wo)).get? l = some { cls := .type "list", dict := odict, data := .seq its nl, slots := oslots } := Heap.get?_push_of_some _ g
        have s1 := PySem.F.sub_list_set
        have s2 := PySem.F.sub_list_frozenset
        have hl2 : (st.heap.push (bare wo)).IsList l its := ⟨_, g2, rfl, nl, rfl⟩
        unfold Builtin.«set.__init__» noKeywords Builtin.Frozenset.updateFrom
        generalize hPI : pyIter = PI
        wp_walk
        subst hPI
        refine wpAny_pyIter_list hl2 (wpAny_bind (wpAny_runValue ?_))
        refine upd_tx (Walks.list cold3 _ l neI its).toS st.heap.objs.size far xs len room val (its.size - 0) 0 _ rfl (Nat.zero_le _) ⟨⟨_, Heap.get?_push_size _ rfl, rfl, rfl⟩, hl2.push _⟩
          (start (Heap.get?_push_of_some _ gD)) fun t4 mv S => ?_
        obtain ⟨h4, g4, d4, k4, o4⟩ := t4
        have eg : g4 = st.gens := mv.gens
        have ed : d4 = st.drawn := mv.drawn
        have eo : o4 = st.os := mv.os
        subst eg ed eo
        refine wpAny_pure (wpAny_pure ⟨rfl, h4, k4, rfl, S, fun b o q => mv.heap b o (old b o q) (Heap.get?_push_of_some _ (Heap.get?_push_of_some _ q))⟩)
      · obtain ⟨⟨ocls, odict, odata, oslots⟩, g, hc, nl, hd⟩ := hl
        simp only at hc hd
        subst hc; subst hd
        have g2 : (st.heap.push (bare wo)).get? l = some { cls := .type "tuple", dict := odict, data := .seq its nl, slots := oslots } := Heap.get?_push_of_some _ g
        have s1 := PySem.F.sub_tuple_set
        have s2 := PySem.F.sub_tuple_frozenset
        have hl2 : (st.heap.push (bare wo)).IsTuple l its := ⟨_, g2, rfl, nl, rfl⟩
        unfold Builtin.«set.__init__» noKeywords Builtin.Frozenset.updateFrom
        generalize hPI : pyIter = PI
        wp_walk
        subst hPI
        refine wpAny_pyIter_tuple hl2 (wpAny_bind (wpAny_runValue ?_))
        refine upd_tx (Walks.tuple cold3 _ l neI its).toS st.heap.objs.size far xs len room val (its.size - 0) 0 _ rfl (Nat.zero_le _) ⟨⟨_, Heap.get?_push_size _ rfl, rfl, rfl⟩, hl2.push _⟩
          (start (Heap.get?_push_of_some _ gD)) fun t4 mv S => ?_
        obtain ⟨h4, g4, d4, k4, o4⟩ := t4
        have eg : g4 = st.gens := mv.gens
        have ed : d4 = st.drawn := mv.drawn
        have eo : o4 = st.os := mv.os
        subst eg ed eo
        refine wpAny_pure (wpAny_pure ⟨rfl, h4, k4, rfl, S, fun b o q => mv.heap b o (old b o q) (Heap.get?_push_of_some _ (Heap.get?_push_of_some _ q))⟩)
    · rcases r2 with e | fl
      · exact z2
      cases fl with
      | ret r =>
        obtain ⟨rfl, h4, tk, rfl, S, k⟩ := z2
        repeat (any_goals (first | assumption | wp_step))
        exact out _ _ S k
      | _ => exact z2.elim
  | _ => exact z.elim
end
end NU

set_option Elab.async false
set_option linter.all false
set_option maxRecDepth 100000
set_option maxHeartbeats 4000000
/-! Sets of texts under the invariant: set(xs), len(set), sorted(set). -/
namespace NU
open PySem PySem.Spec PyProof.Rows L2
section
variable {Pg : Program} {wo : World} {Ar : Around} {Er : Value → Shared → Prop} {st : Shared} {a : Addr}
/-- texts in the order of their first row are listed once: how many -/
theorem many_of : ∀ l : List Str, l.Nodup → many l = l.length
  | [], _ => rfl
  | x :: l, d => by
    have ⟨d1, d2⟩ := List.nodup_cons.mp d
    show (if x ∈ l then many l else many l + 1) = l.length + 1
    rw [if_neg d1, many_of l d2]
theorem texts_of : ∀ l : List Value, (∀ v ∈ l, ∃ x u, v = Value.str x u) → ∃ xs, StrsAre l xs ∧ xs = l.map fun v => txOf (0, v)
  | [], _ => ⟨[], .nil, rfl⟩
  | v :: l, h => by
    obtain ⟨x, u, rfl⟩ := h v List.mem_cons_self
    obtain ⟨xs, s, e⟩ := texts_of l fun z hz => h z (List.mem_cons_of_mem _ hz)
    exact ⟨x :: xs, .cons x u s, by rw [e]; rfl⟩
theorem sorted_tx {mem : Str → Bool} {cnt : Nat} {Q : Value → Shared → Prop} (R : SetT wo st.heap a mem cnt) (cold : Ar.handled = none) (small : cnt < 64)
    (out : ∀ t p (arr : Array Value) (c : Nat) (ys : List Str), (∀ b o, st.heap.get? b = some o → t.heap.get? b = some o) → t.gens = st.gens → t.os = st.os → st.heap.objs.size ≤ p →
      t.heap.get? p = some (seqObj "list" arr c) → StrsAre arr.toList ys → sortedS ys = true → ys.Nodup → (∀ y, y ∈ ys ↔ mem y = true) → ys.length = cnt → Q (.ref p) t) :
    wpAny (model Pg wo) Ar (call (.builtin "sorted") [.ref a]) Q Er st := by
  obtain ⟨o, es, ep, t, g, ex, d, W⟩ := R
  refine Calls.call_function_entry kind_sorted plain_sorted entry_sorted (args_sorted1 _) ?_
  unfold Builtin.«sorted»
  refine wpAny_bind (m := checkCount "sorted" 1 1 _) (wpAny_pure (wpAny_bind (L2.collect_set (A := Ar.in1) cold ⟨o, g, ex.1, d⟩ W.fit W.few W.ris W.led fun t1 vs k1 z1 g1 o1 pm => ?_)))
  have lv : vs.length = cnt := by rw [pm.length_eq, List.length_map, Array.length_toList]; exact W.num
  obtain ⟨xs, are, exs⟩ := texts_of vs fun v hv => by
    obtain ⟨e, he, q⟩ := List.mem_map.mp (pm.mem_iff.mp hv)
    obtain ⟨x, u, e1, _⟩ := W.tx e he
    exact ⟨x, u, q ▸ e1⟩
  have px : xs.Perm (es.toList.map txOf) := by
    have q := pm.map fun v => txOf (0, v)
    rw [List.map_map, ← exs] at q
    exact q
  refine wpAny_bind (wpAny_newList ?_ (by rw [lv, sizeLine_eq]; omega))
  have oL : (t1.heap.push (seqObj "list" vs.toArray 0)).get? t1.heap.objs.size = some (seqObj "list" vs.toArray 0) := Heap.get?_push_size _ rfl
  refine wpAny_bind (wpAny_holding (wpAny_call_entry slot_list_sort ⟨_, oL, rfl⟩ entry_list_sort (list_sort_treeK strKind_oneLt (s := { t1 with heap := t1.heap.push (seqObj "list" vs.toArray 0) }) oL are.keysOf (fun v1 v2 rest e => keyKind_strs (by rw [← e]; exact are)) (by rw [lv]; exact small)
    fun st' hp hs => ⟨_, rfl, ?_⟩) (args_list_sort _)))
  obtain ⟨ys, q1, q2, q3⟩ := sorted_out_str are hp hs
  obtain ⟨c, hc⟩ := sortedHeap_at (vs := vs) (out := (arrOf st').map (·.2)) oL
  have py := q2.trans px
  refine wpAny_pure ⟨_, rfl, out _ t1.heap.objs.size _ c ys (fun b u e => ?_) g1 o1 z1 hc q1 q3 (py.nodup_iff.mpr W.nd) (fun y => py.mem_iff.trans (W.mm y).symm) (by rw [py.length_eq, List.length_map, Array.length_toList]; exact W.num)⟩
  have q := k1 b u e
  have lb := Heap.lt_size q
  show (sortedHeap (t1.heap.push (seqObj "list" vs.toArray 0)) t1.heap.objs.size vs _).get? b = some u
  rw [sortedHeap_old (Nat.ne_of_lt lb) (by rw [size_push']; exact Nat.lt_succ_of_lt lb)]
  exact Heap.get?_push_of_some _ q
end
section
variable {X : Cx}
/-- the set of the texts xs at a -/
def SetX (wo : World) (a : Addr) (xs : List Str) : HO := .ext fun h => SetT wo h a (fun y => decide (y ∈ xs)) (many xs)
theorem setX_get {pins : List (Addr × Obj)} {σ : L2.St} {H : Hp} {s : Shared} {a : Addr} {xs : List Str} (I : Inv X pins σ H s) (g : H a = some (SetX X.w a xs)) : SetT X.w s.heap a (fun y => decide (y ∈ xs)) (many xs) := (I.hok a _ g).1
/-- set(xs), xs a list or a tuple of texts -/
def rSetX (K : PySem.W.Frag) (wo : World) : List V → Hp → VK → Prop := fun vs H Q => ∃ (l : Addr) (xs : List Str), vs = [.ref l] ∧ (SqL K H l (xs.map V.str) ∨ SqT K H l (xs.map V.str)) ∧ xs.length ≤ 1000 ∧ ∀ p, H p = none → Q (.ref p) (upd H p (SetX wo p xs))
theorem cr_setX (hc : X.calm = true) : CallR X (.type "set") (rSetX X.K X.w) := by
  intro pins s σ H vs us Q I r h
  obtain ⟨l, xs, rfl, at_, few, q⟩ := h
  rw [Vals.ref1 r]
  have room : xs.length + 1 < scanBound := Nat.lt_of_le_of_lt (Nat.succ_le_succ few) (by decide)
  have look : ∃ its : Array Value, Vals (xs.map V.str) its.toList ∧ (s.heap.IsList l its ∨ s.heap.IsTuple l its) := by
    rcases at_ with z | z
    · obtain ⟨its, rv, pl, _⟩ := I.list z
      exact ⟨its.toArray, rv, .inl pl.isList⟩
    · obtain ⟨its, rv, pl, _⟩ := I.tuple z
      exact ⟨its.toArray, rv, .inr pl⟩
  obtain ⟨its, rv, pl⟩ := look
  refine call_set xs (I.ok.hd hc) pl rv.strs room fun h2 tk R k => ?_
  refine ⟨.ref _, upd H s.heap.objs.size (SetX X.w s.heap.objs.size xs), I.laid (t' := tk) k (Nat.le_refl _) ⟨R, ?_, fun h3 h4 p k2 => SetT.mv p k2⟩, rfl, q _ (I.hok.fresh (Nat.le_refl _))⟩
  have ⟨o, _, _, _, g, _⟩ := R
  exact ⟨o, g⟩
/-- len of a set of texts -/
def rLenX (wo : World) : List V → Hp → VK → Prop := fun vs H Q => ∃ (a : Addr) (xs : List Str), vs = [.ref a] ∧ H a = some (SetX wo a xs) ∧ Q (.int ((many xs : Nat) : Int)) H
theorem cr_lenX : CallR X (.builtin "len") (rLenX X.w) := by
  intro pins s σ H vs us Q I r h
  obtain ⟨a, xs, rfl, g, q⟩ := h
  obtain ⟨o, es, ep, t, go, ex, d, W⟩ := setX_get I g
  rw [Vals.ref1 r]
  have low : es.size < 2 ^ 24 := Nat.lt_of_lt_of_le W.few (by decide)
  refine call_len_set go ex d W.fit (by omega) ?_
  rw [W.num]
  exact ⟨.int ((many xs : Nat) : Int), H, I.tok _, ⟨_, rfl⟩, q⟩
/-- sorted of a set of fewer than 64 texts -/
def rSrtX (wo : World) : List V → Hp → VK → Prop := fun vs H Q => ∃ (a : Addr) (xs : List Str), vs = [.ref a] ∧ H a = some (SetX wo a xs) ∧ xs.length < 64 ∧
  ∀ (ys : List Str) (p : Addr), sortedS ys = true → ys.Nodup → (∀ y, y ∈ ys ↔ y ∈ xs) → H p = none → Q (.ref p) (upd H p (.lst (ys.map V.str)))
theorem cr_srtX (hc : X.calm = true) : CallR X (.builtin "sorted") (rSrtX X.w) := by
  intro pins s σ H vs us Q I r h
  obtain ⟨a, xs, rfl, ga, few, q⟩ := h
  rw [Vals.ref1 r]
  have low := many_le xs
  refine sorted_tx (setX_get I ga) (I.ok.hd hc) (by omega) fun t p arr c ys k g o lp gp are srt nd mm len => ?_
  have fits : (ys.map V.str).length ≤ sizeLine := by rw [List.length_map, len, sizeLine_eq]; omega
  have new : H p = none := I.hok.fresh lp
  have J : Inv X pins σ (upd H p (.lst (ys.map V.str))) { s with heap := t.heap, gens := t.gens, drawn := t.drawn, toks := t.toks } :=
    I.call (ch := []) (Un.laid k lp new) (I.hok.laid k lp ⟨fits, arr.toList, c, vals_of_strs are, gp⟩) (by rw [g]; exact I.bare) nofun
  have same : t = { s with heap := t.heap, gens := t.gens, drawn := t.drawn, toks := t.toks } := by
    obtain ⟨_, _, _, _, _⟩ := t
    subst o
    rfl
  rw [same]
  exact ⟨.ref p, _, J, rfl, q ys p srt nd (fun y => (mm y).trans decide_eq_true_iff) new⟩
end
end NU

set_option Elab.async false
set_option linter.all false
set_option maxRecDepth 100000
set_option maxHeartbeats 4000000
/-! Defs that raise where nothing is handled, said with the context None: what they ask; the weaker promise. -/
namespace NN
open PySem PySem.Spec PyProof.Rows L2
section
variable {P : Program} {w : World} {K : PySem.W.Frag} {mg : Str → Option Value} {base : Heap} {k : Nat} {f : Addr} {fd : FuncData} {ps : List Str} {sp : Sp}
theorem cx_less {outer : List Env} {H : Hp} {s s' : Shared} {E : XK} {u : Value} (h : L2N.CX P w outer H s E u s') : L2.CX P w outer H s E u s' :=
  have ⟨a, B, H2, cls, d, e, fl, r⟩ := h
  ⟨a, B, H2, cls, d, e, L2H.flyingZ_imp (fun _ z => z.zc) fl, r⟩
theorem cr_less {outer : List Env} {H : Hp} {s s' : Shared} {Q : VK} {E : XK} {r : Result} (h : CR (L2N.CX P w) outer P w H s Q E r s') : CR (L2.CX P w) outer P w H s Q E r s' := by
  cases r with
  | error e => exact cx_less h
  | ok fl => cases fl <;> exact h
theorem fnOk_less (F : FnOk P w K mg base (L2N.CX P w) k f fd ps sp) : FnOk P w K mg base (L2.CX P w) k f fd ps sp :=
  ⟨F.len, fun A outer s H args us vs Q E hr e0 hb r h => codeAny_mono (F.run A outer s H args us vs Q E hr e0 hb r h) fun _ _ q => cr_less q⟩
theorem fnR_less (F : FnR P w K mg base (L2N.CX P w) k f sp) : FnR P w K mg base (L2.CX P w) k f sp :=
  fun A outer s H us vs Q E hr e0 r h => codeAny_mono (F A outer s H us vs Q E hr e0 r h) fun _ _ q => cr_less q
theorem upN : StX.CXUp (L2N.CX P w) := by
  intro outer s H s2 H2 E e s' un kp ho h
  obtain ⟨a, B, H3, cls, d, ea, fl, hok, ub, na, os, ag, he⟩ := h
  refine ⟨a, B, H3, cls, d, ea, fl, hok, { keep := fun b o q n hb => ?_, slot := fun b o q hb => ub.slot b o (kp b o q) hb, free := fun b o q n => ?_, there := fun b o q hb => ub.there b o (kp b o q) hb, tups := fun b xs q => ub.tups b xs (un.tups b xs q), frzs := fun b o xs q => ub.frzs b o xs (un.frzs b o xs q), tbls := fun b ts q => ?_ }, na, os.trans ho, ag, he⟩
  · exact ub.keep b o (kp b o q) (un.free b o q n (by simp)) hb
  · exact ub.free b o (kp b o q) (un.free b o q n (by simp))
  · obtain ⟨m1, e1⟩ := un.tbls b ts q
    obtain ⟨m2, e2⟩ := ub.tbls b _ e1
    exact ⟨m1 ++ m2, e2.trans (by rw [Array.append_assoc])⟩
/-- a def of the text that may raise, its exceptions with the context None -/
theorem okN {x qual : Str} {st : Stmt} {N : List Str} (F : Fun K x qual st f fd) (S : FnScope N ps (defScope st)) (len : ∀ vs H Q E, sp vs H Q E → vs.length = ps.length)
    (run : ∀ (cdv : Value) (A : Around) (outer : List Env) (s : Shared) (H : Hp) (vs : List V) (Q : VK) (E : XK), Room k (A.deeper (envOfC qual (defScope st) s.heap.objs.size f cdv)) → sp vs H Q E →
      ∃ t, PSs (cxOf (L2N.CX P w) P w K mg base N qual (defScope st) f cdv A outer s H E) (defBody st) t ∧ t { nx := fun _ H2 => Q .non H2, rt := Q } (start N vs) H) : FnOk P w K mg base (L2N.CX P w) (k + 1) f fd ps sp := by
  obtain ⟨oc, od, kV, doc, pm, an, cdv, ct, osl, e, lk, cd⟩ := F.ex
  subst e
  exact fn_of lk cd S len fun A outer s H vs Q E hr h => run cdv A outer s H vs Q E hr h
end
theorem passN {X : Cx} {E : XK} (tk : L2N.Takes X (fun cls d _ H => E cls d H)) : Passes (L2N.CX X.prog X.w) X E := fun pins σ H s e s' I h => L2N.passAt tk σ pins H s e s' I h
section
variable {X : Cx} {CX : CXT} {x : Str} {e : Expr} {es : List Expr} {ta : TA} {p pos : Pos} {C fI : Addr} {k : Nat} {fd : FuncData} {ps : List Str} {sp : Sp}
/-- C(e, ..), an exception class of ours with an __init__, where nothing is handled: made with the context None -/
theorem pmkN (T : OexC X.K C) (iC : PySem.W.findIn X.K (.ref C) "__init__" = some (some (.ref fI))) (tI : PySem.W.typeIn X.K (.ref fI) = some (.type "function"))
    (F1 : FnOk X.prog X.w X.K X.mg X.base CX k fI fd ps sp) (hr : Room (k + 1) X.A) (hb : Binds X.K fd ps []) (hx : Passes CX X (fun _ _ _ => False)) (hg : Gl X x) (hm : X.mg x = some (.ref C)) (ha : PA X (e :: es) ta)
    (hdb : (x == ("__debug__" : Str)) = false := by decide) (he : starEach (e :: es) X.env = (false, eval e X.env) :: starEach es X.env := by rfl) (hpl : (backTo pos (starEach es X.env)).any (·.1) = false := by rfl) :
    L2N.PMk X (.Call (.Name x p) (e :: es) [] pos) (tMkO C sp [] ta) := by
  intro pins s σ H Q I h
  have tc := T.cls
  obtain ⟨nm, q, N, bs, bm, sn, sub, ab, col, dd, k0, k1, k2, k3, k5, hC, hbm⟩ := tc
  refine wpAny_Call_Name_kw (ld_glob I hg hm ?_ hdb)
  refine PySem.W.callWith_K (h₀ := X.base) I.ok.mod.kin T.kC (thn (ha.run pos pins s σ H _ I h) fun us s1 ⟨vs, H1, I1, r1, few, q1⟩ => ⟨I1.kIn, ?_⟩) he hpl
  show wpAny _ _ (call (.ref C) us) _ _ _
  obtain ⟨hp, g, dr, tk, os⟩ := s1
  have up : hp.objs.size ≤ hp.objs.size + 1 := Nat.le_succ _
  have new : H1 (hp.objs.size + 1) = none := I1.hok.fresh up
  have ask := q1 (hp.objs.size + 1) new
  rw [List.append_nil] at ask
  let hp2 : Heap := (hp.push (PySem.W.kdv_tup us)).push (PySem.HandSPX.excO C hp.objs.size)
  have keeps : ∀ b o, hp.get? b = some o → hp2.get? b = some o := fun b o z => Heap.get?_push_of_some _ (Heap.get?_push_of_some _ z)
  have at_ : hp2.get? (hp.objs.size + 1) = some (PySem.HandSPX.excO C hp.objs.size) := by
    show ((hp.push (PySem.W.kdv_tup us)).push (PySem.HandSPX.excO C hp.objs.size)).get? (hp.objs.size + 1) = _
    heap_get
  have I2 : Inv X pins σ (upd H1 (hp.objs.size + 1) (exo (hp.objs.size + 1) C none)) ⟨hp2, g, dr, tk, os⟩ := I1.laid (t' := tk) (a := hp.objs.size + 1) (o := exo (hp.objs.size + 1) C none) (h' := hp2) keeps up (exo_ok at_)
  have r2 : Vals (V.ref (hp.objs.size + 1) :: vs) (Value.ref (hp.objs.size + 1) :: us) := .cons rfl r1
  have len : (Value.ref (hp.objs.size + 1) :: us ++ []).length = ps.length := by
    rw [List.append_nil]
    exact r2.length.symm.trans (F1.len _ _ _ _ ask)
  have low : us.length ≤ sizeLine := by
    rw [← Paired.length r1, sizeLine_eq]
    omega
  have bd := hb _ (Value.ref (hp.objs.size + 1) :: us) I2.kIn len
  rw [List.append_nil] at bd
  refine wpAny_call (PySem.HandSPX.call_own F.excBase_ValueError (fun Y => PySem.HandSPX.refsVE_contains Y bm hbm) (I1.kIn _ _ hC) (PySem.W.looks_findIn I1.kIn iC) (fun self => PySem.W.bind_fn I1.kIn self tI) low
    (codeAny_mono (F1.run _ X.stack _ _ ⟨Value.ref (hp.objs.size + 1) :: us, []⟩ _ _ _ (fun _ _ _ => False) (hr.make C us []) (I2.env0.make C us []) bd r2 ask) fun r s2 z => ?_))
  cases r with
  | error er => exact hx pins σ _ _ er s2 I2 z
  | ok fl =>
    cases fl with
    | ret u =>
      obtain ⟨v, H2, os2, bare2, un2, hok2, rv, ev, d, fs, ea, ed, hd1, q2⟩ := z
      subst ev
      obtain ⟨h2, g2, d2, t2, os3⟩ := s2
      obtain ⟨t0, G, J, kG, ge, hoe, na⟩ := mk_end0 (d2 := d2) (t2 := t2) I1 up keeps un2 hok2 os2 bare2 ea ed hd1
      refine ⟨rv, hp.objs.size + 1, _, _, ⟨G, g2, d2, t2, os3⟩, _, .ref C, some d, rfl, J, kG, ge, hoe, ⟨rfl, rfl, fun ws hv => ?_⟩, rfl, rfl, na, rfl, bare2, raises_own T.exC T.tyC, q2⟩
      cases hv
      rfl
    | next => exact z.elim
    | brk => exact z.elim
    | cont => exact z.elim
end
end NN

set_option Elab.async false
set_option linter.all false
set_option maxRecDepth 100000
set_option maxHeartbeats 4000000
namespace K06
open PySem L2 NX NU
abbrev sErrN : Stmt := inClass (top 3) 0
abbrev sErrD : Stmt := inClass (top 4) 0
abbrev sErrT : Stmt := inClass (top 8) 0
abbrev sErrM : Stmt := inClass (top 9) 0
abbrev sCns : Stmt := top 24
abbrev sCun : Stmt := top 25
abbrev sAsc : Stmt := top 26
abbrev sCus : Stmt := top 32
/-- what stood stands, and an error's dict at d is new, with its one field -/
def Told (H : Hp) (d : Addr) (x : Str) (v : V) (H' : Hp) : Prop := Same H H' ∧ H d = none ∧ H' d = some (.xd [(x, v)])
theorem sameNone {H H' : Hp} {d : Addr} (s : Same H H') (h : H' d = none) : H d = none := by
  cases e : H d with
  | none => rfl
  | some o =>
    rw [s d o e] at h
    cases h
theorem Told.old {H0 H H' : Hp} {d : Addr} {x : Str} {v : V} (s : Same H0 H) (t : Told H d x v H') : Told H0 d x v H' := ⟨s.trans t.1, sameNone s t.2.1, t.2.2⟩
def spErr (K : PySem.W.Frag) (x : Str) : Sp := fun vs H Q _ => ∃ (a C : Addr) (v : V), vs = [.ref a, v] ∧ OexC K C ∧ PySem.W.findIn K (.ref C) x = some none ∧ H a = some (exo a C none) ∧
  ∀ dx, H dx = none → dx ≠ a → Q .non (upd (upd H dx (exd dx [(x, v)])) a (exo a C (some dx)))
theorem scErrN : FnScope ["self", "value"] ["self", "value"] (defScope sErrN) := ⟨rfl, rfl, rfl, by decide +kernel, rfl, by decide +kernel, by decide +kernel⟩
theorem scErrD : FnScope ["self", "value"] ["self", "value"] (defScope sErrD) := ⟨rfl, rfl, rfl, by decide +kernel, rfl, by decide +kernel, by decide +kernel⟩
theorem scErrT : FnScope ["self", "name"] ["self", "name"] (defScope sErrT) := ⟨rfl, rfl, rfl, by decide +kernel, rfl, by decide +kernel, by decide +kernel⟩
theorem scErrM : FnScope ["self", "most"] ["self", "most"] (defScope sErrM) := ⟨rfl, rfl, rfl, by decide +kernel, rfl, by decide +kernel, by decide +kernel⟩
theorem scCns : FnScope ["values", "value"] ["values"] (defScope sCns) := ⟨rfl, rfl, rfl, by decide +kernel, rfl, by decide +kernel, by decide +kernel⟩
theorem scCun : FnScope ["names", "seen", "name"] ["names"] (defScope sCun) := ⟨rfl, rfl, rfl, by decide +kernel, rfl, by decide +kernel, by decide +kernel⟩
theorem scAsc : FnScope ["names"] ["names"] (defScope sAsc) := ⟨rfl, rfl, rfl, by decide +kernel, rfl, by decide +kernel, by decide +kernel⟩
theorem scCus : FnScope ["names"] ["names"] (defScope sCus) := ⟨rfl, rfl, rfl, by decide +kernel, rfl, by decide +kernel, by decide +kernel⟩
/-- a name, or something that is none -/
def IsNm (v : V) (z : Str) : Prop := v = .str z ∧ z.length ≤ 1000 ∧ nm z = true
def NoNm (K : PySem.W.Frag) (H : Hp) (v : V) : Prop := (∃ z, v = .str z ∧ z.length ≤ 1000 ∧ nm z = false) ∨ NoStr K H v
/-- the texts ws are names -/
def Nms (ws : List Str) : Prop := ∀ z ∈ ws, z.length ≤ 1000 ∧ nm z = true
/-- the first of some values that is no name, behind the names ws -/
def Bad (K : PySem.W.Frag) (H : Hp) (xs : List V) (ws : List Str) (v : V) : Prop := ∃ l, xs = ws.map V.str ++ v :: l ∧ Nms ws ∧ NoNm K H v
section
variable {P : Program} {w : World} {K : PySem.W.Frag} {mg : Str → Option Value} {base : Heap}
theorem ok_errN {f : Addr} {fd : FuncData} (F : Fun K "__init__" "BadName.__init__" sErrN f fd) : FnOk P w K mg base CX0 1 f fd ["self", "value"] (spErr K "value") := by
  refine F.ok scErrN (fun vs H Q E h => ?_) (fun cdv A outer s H vs Q E hr h => ?_)
  · obtain ⟨a, C, v, rfl, _⟩ := h
    rfl
  · obtain ⟨a, C, v, rfl, T, hf, ha, k⟩ := h
    exact ⟨_, (pss_one (ps_ost (pv 0) (pv 1))), _, rfl, _, rfl, a, C, rfl, T, hf, .inl ⟨ha, fun dx h1 h2 => k dx h1 h2⟩⟩
theorem ok_errD {f : Addr} {fd : FuncData} (F : Fun K "__init__" "BadDeed.__init__" sErrD f fd) : FnOk P w K mg base CX0 1 f fd ["self", "value"] (spErr K "value") := by
  refine F.ok scErrD (fun vs H Q E h => ?_) (fun cdv A outer s H vs Q E hr h => ?_)
  · obtain ⟨a, C, v, rfl, _⟩ := h
    rfl
  · obtain ⟨a, C, v, rfl, T, hf, ha, k⟩ := h
    exact ⟨_, (pss_one (ps_ost (pv 0) (pv 1))), _, rfl, _, rfl, a, C, rfl, T, hf, .inl ⟨ha, fun dx h1 h2 => k dx h1 h2⟩⟩
theorem ok_errT {f : Addr} {fd : FuncData} (F : Fun K "__init__" "Twice.__init__" sErrT f fd) : FnOk P w K mg base CX0 1 f fd ["self", "name"] (spErr K "name") := by
  refine F.ok scErrT (fun vs H Q E h => ?_) (fun cdv A outer s H vs Q E hr h => ?_)
  · obtain ⟨a, C, v, rfl, _⟩ := h
    rfl
  · obtain ⟨a, C, v, rfl, T, hf, ha, k⟩ := h
    exact ⟨_, (pss_one (ps_ost (pv 0) (pv 1))), _, rfl, _, rfl, a, C, rfl, T, hf, .inl ⟨ha, fun dx h1 h2 => k dx h1 h2⟩⟩
theorem ok_errM {f : Addr} {fd : FuncData} (F : Fun K "__init__" "TooMany.__init__" sErrM f fd) : FnOk P w K mg base CX0 1 f fd ["self", "most"] (spErr K "most") := by
  refine F.ok scErrM (fun vs H Q E h => ?_) (fun cdv A outer s H vs Q E hr h => ?_)
  · obtain ⟨a, C, v, rfl, _⟩ := h
    rfl
  · obtain ⟨a, C, v, rfl, T, hf, ha, k⟩ := h
    exact ⟨_, (pss_one (ps_ost (pv 0) (pv 1))), _, rfl, _, rfl, a, C, rfl, T, hf, .inl ⟨ha, fun dx h1 h2 => k dx h1 h2⟩⟩
/-- an error class x of ours with its __init__, which keeps the field y -/
structure ErrC (P : Program) (w : World) (K : PySem.W.Frag) (mg : Str → Option Value) (base : Heap) (x y : Str) (C fI : Addr) : Prop where
  O : OexC K C
  i : PySem.W.findIn K (.ref C) "__init__" = some (some (.ref fI))
  t : PySem.W.typeIn K (.ref fI) = some (.type "function")
  ok : ∃ fd, FnOk P w K mg base CX0 1 fI fd ["self", y] (spErr K y) ∧ Binds K fd ["self", y] []
  g : mg x = some (.ref C)
  v : PySem.W.findIn K (.ref C) y = some none
/-- what making an error of ours asks -/
theorem mkO_of {H : Hp} {C : Addr} {y : Str} {v : V} {Q : XK} (O : OexC K C) (hv : PySem.W.findIn K (.ref C) y = some none) (k : ∀ d H', Told H d y v H' → Q (.ref C) (some d) H') :
    [v].length ≤ 1000 ∧ ∀ a : Addr, H a = none → spErr K y (.ref a :: ([v] ++ [])) (upd H a (exo a C none)) (fun x H2 => x = .non ∧ ∃ (d : Addr) (fs : List (Str × V)), H2 a = some (exo a C (some d)) ∧ H2 d = some (exd d fs) ∧ H d = none ∧ Q (.ref C) (some d) (upd (L2.del H2 a) d (.xd fs))) (fun _ _ _ => False) := by
  refine ⟨by show 1 ≤ 1000; decide, fun a ha => ⟨a, C, v, rfl, O, hv, upd_same, fun d hd hne => ?_⟩⟩
  have hd' : H d = none := by rw [upd_ne hne] at hd; exact hd
  refine ⟨rfl, d, [(y, v)], upd_same, by rw [upd_ne hne]; exact upd_same, hd', k d _ ⟨fun b o hb => ?_, hd', upd_same⟩⟩
  have n1 : b ≠ d := fun e => by rw [e, hd'] at hb; cases hb
  have n2 : b ≠ a := fun e => by rw [e, ha] at hb; cases hb
  rw [upd_ne n1]
  unfold L2.del
  rw [if_neg n2, upd_ne n2, upd_ne n1, upd_ne n2]
  exact hb
/-- check_names(values) -/
def spCns (K : PySem.W.Frag) (CN : Addr) : Sp := fun vs H Q E => ∃ (p : Addr) (xs : List V), vs = [.ref p] ∧ SqT K H p xs ∧
  ((∃ ws, xs = ws.map V.str ∧ Nms ws ∧ Q .non H) ∨ ∃ ws v, Bad K H xs ws v ∧ ∀ d H', Told H d "value" v H' → E (.ref CN) (some d) H')
theorem ok_cns {CN fI f : Addr} {fd : FuncData} (F : Fun K "check_names" "check_names" sCns f fd) (cIs : C8.Cal P w K mg base 1 "is_name" (spIs K) []) (B : ErrC P w K mg base "BadName" "value" CN fI) :
    FnOk P w K mg base (L2N.CX P w) 3 f fd ["values"] (spCns K CN) := by
  obtain ⟨fde, Fe, hbe⟩ := B.ok
  refine NN.okN F scCns (fun vs H Q E h => ?_) (fun cdv A outer s H vs Q E hr h => ?_)
  · obtain ⟨p, xs, rfl, _⟩ := h
    rfl
  · obtain ⟨p, xs, rfl, hS, h⟩ := h
    refine ⟨_, (pss_one (ps_for (passes_of rfl) rfl (pi_tup (pv 0)) (pg_name (i := 1) scCns.nd rfl (Or.inl rfl)) (pss_one (ps_if (pt_not (pt_val (C8.pe_c cIs hr (by decide) rfl (pa_cons (pv 1) pa_nil))))
      (pss_one (L2N.ps_raise rfl (L2N.takes_of rfl rfl rfl rfl) (NN.pmkN B.O B.i B.t Fe hr hbe pass0 rfl B.g (pa_cons (pv 1) pa_nil)))) pss_nil)))), ?_⟩
    refine ⟨_, rfl, p, rfl, ⟨xs, hS⟩, ?_⟩
    rcases h with ⟨ws, rfl, hn, q⟩ | ⟨ws, v, ⟨l, rfl, hn, bad⟩, q⟩
    · refine for_tup (xs := ws.map V.str) (fun i σ H' => H' = H ∧ ∃ y, σ = [some (.ref p), y]) ⟨rfl, _, rfl⟩ (fun i σ H' _ ⟨e, _⟩ => by rw [e]; exact hS) (fun i x σ H' hx ⟨e, y, eσ⟩ => ?_) (fun σ H' ⟨e, _⟩ => by rw [e]; exact q)
      subst e eσ
      rw [List.getElem?_map] at hx
      obtain ⟨z, hz, rfl⟩ : ∃ z, ws[i]? = some z ∧ V.str z = x := by
        cases e : ws[i]? with
        | none => rw [e] at hx; cases hx
        | some z => rw [e] at hx; exact ⟨z, rfl, Option.some.inj hx⟩
      obtain ⟨h1, h2⟩ := hn z (List.mem_of_getElem? hz)
      refine ⟨_, rfl, _, rfl, .inl ⟨z, rfl, h1, ?_⟩⟩
      rw [h2]
      exact ⟨_, rfl, iteF ⟨rfl, _, rfl⟩⟩
    · refine for_tup (xs := ws.map V.str ++ v :: l) (fun i σ H' => i ≤ ws.length ∧ H' = H ∧ ∃ y, σ = [some (.ref p), y]) ⟨Nat.zero_le _, rfl, _, rfl⟩ (fun i σ H' _ ⟨_, e, _⟩ => by rw [e]; exact hS) (fun i x σ H' hx ⟨hi, e, y, eσ⟩ => ?_) (fun σ H' ⟨hi, _⟩ => ?_)
      · subst e eσ
        by_cases lt : i < ws.length
        · rw [List.getElem?_append_left (by rw [List.length_map]; exact lt), List.getElem?_map, List.getElem?_eq_getElem lt] at hx
          obtain rfl := Option.some.inj hx
          obtain ⟨h1, h2⟩ := hn ws[i] (List.getElem_mem lt)
          refine ⟨_, rfl, _, rfl, .inl ⟨ws[i], rfl, h1, ?_⟩⟩
          rw [h2]
          exact ⟨_, rfl, iteF ⟨lt, rfl, _, rfl⟩⟩
        · obtain rfl : i = ws.length := by omega
          rw [List.getElem?_append_right (by rw [List.length_map]; exact Nat.le_refl _), List.length_map, Nat.sub_self] at hx
          obtain rfl : v = x := Option.some.inj hx
          refine ⟨_, rfl, _, rfl, ?_⟩
          rcases bad with ⟨z, rfl, hz, hb⟩ | bad
          · refine .inl ⟨z, rfl, hz, ?_⟩
            rw [hb]
            exact ⟨_, rfl, iteT ⟨_, rfl, mkO_of B.O B.v q⟩⟩
          · exact .inr ⟨bad, _, rfl, iteT ⟨_, rfl, mkO_of B.O B.v q⟩⟩
      · rw [List.length_append, List.length_map, List.length_cons] at hi
        omega
end
end K06

set_option Elab.async false
set_option linter.all false
set_option maxRecDepth 100000
set_option maxHeartbeats 4000000
namespace K06
open PySem L2 NX NU
open PyProof.Rows (sortedS)
theorem sqT_same {K : PySem.W.Frag} {H H' : Hp} {a : Addr} {xs : List V} (s : Same H H') (h : SqT K H a xs) : SqT K H' a xs := by
  rcases h with (h | ⟨o, h⟩) | h
  · exact .inl (.inl (s _ _ h))
  · exact .inl (.inr ⟨o, s _ _ h⟩)
  · exact .inr h
/-- a def of ours that may raise, called by its name -/
structure CalL (P : Program) (w : World) (K : PySem.W.Frag) (mg : Str → Option Value) (base : Heap) (k : Nat) (x : Str) (sp : Sp) : Prop where
  ex : ∃ (f : Addr) (fd : FuncData) (ps : List Str), FnOk P w K mg base (L2N.CX P w) k f fd ps sp ∧ mg x = some (.ref f) ∧ PySem.W.keepIn K (.ref f) = true ∧ Binds K fd ps []
theorem pe_cL {X : Cx} {k j : Nat} {x : Str} {sp : Sp} {E : XK} {e : Expr} {es : List Expr} {t : TA} {p pos : Pos} (c : CalL X.prog X.w X.K X.mg X.base k x sp) (hr : Room j X.A) (hk : k ≤ j) (hg : Gl X x) (hx : Passes (L2N.CX X.prog X.w) X E) (ha : PA X (e :: es) t)
    (hdb : (x == ("__debug__" : Str)) = false := by decide) (he : starEach (e :: es) X.env = (false, eval e X.env) :: starEach es X.env := by rfl) (hpl : (backTo pos (starEach es X.env)).any (·.1) = false := by rfl) :
    PE X (.Call (.Name x p) (e :: es) [] pos) (tCall sp [] E t) := by
  obtain ⟨f, fd, ps, F, hm, kp, b⟩ := c.ex
  exact pe_call F (hr.mono hk) hg hm kp b .nil hx ha hdb he hpl
/-- no text stands twice; the first that does, at place i -/
def NoRep (ws : List Str) : Prop := ∀ i z, ws[i]? = some z → z ∉ ws.take i
def Rep (ws : List Str) (i : Nat) (z : Str) : Prop := ws[i]? = some z ∧ z ∈ ws.take i ∧ ∀ j, j < i → ∀ y, ws[j]? = some y → y ∉ ws.take j
theorem rep_or (ws : List Str) : NoRep ws ∨ ∃ i z, Rep ws i z := by
  suffices h : ∀ n, n ≤ ws.length → (∀ j, j < n → ∀ y, ws[j]? = some y → y ∉ ws.take j) ∨ ∃ i z, Rep ws i z by
    rcases h ws.length (Nat.le_refl _) with h | h
    · exact .inl fun i z e => h i (List.getElem?_eq_some_iff.mp e).1 z e
    · exact .inr h
  intro n
  induction n with
  | zero => exact fun _ => .inl nofun
  | succ n ih =>
    intro hn
    rcases ih (by omega) with h | h
    · have at_ : ws[n]? = some ws[n] := List.getElem?_eq_getElem (by omega)
      by_cases m : ws[n] ∈ ws.take n
      · exact .inr ⟨n, _, at_, m, h⟩
      · refine .inl fun j hj y e => ?_
        by_cases e2 : j = n
        · subst e2
          rw [at_] at e
          exact Option.some.inj e ▸ m
        · exact h j (by omega) y e
    · exact .inr h
/-- check_unlike(names), the names texts -/
def spCun (K : PySem.W.Frag) (CT : Addr) : Sp := fun vs H Q E => ∃ (p : Addr) (ws : List Str), vs = [.ref p] ∧ SqT K H p (ws.map V.str) ∧ ws.length ≤ 1000 ∧
  ((NoRep ws ∧ ∀ H', Same H H' → Q .non H') ∨ ∃ i z, Rep ws i z ∧ ∀ d H', Told H d "name" (.str z) H' → E (.ref CT) (some d) H')
/-- ascending(names) -/
structure TxtA (mg : Str → Option Value) : Prop where
  bset : mg "set" = none
  bsorted : mg "sorted" = none
  btuple : mg "tuple" = none
def spAsc (K : PySem.W.Frag) : Sp := fun vs H Q _ => ∃ (p : Addr) (ws : List Str), vs = [.ref p] ∧ (SqL K H p (ws.map V.str) ∨ SqT K H p (ws.map V.str)) ∧ ws.length < 64 ∧
  ∀ (ys : List Str) q H', sortedS ys = true → ys.Nodup → (∀ y, y ∈ ys ↔ y ∈ ws) → Same H H' → H q = none → H' q = some (.tup (ys.map V.str)) → Q (.ref q) H'
section
variable {P : Program} {w : World} {K : PySem.W.Frag} {mg : Str → Option Value} {base : Heap}
theorem ok_cun {CT fI f : Addr} {fd : FuncData} (F : Fun K "check_unlike" "check_unlike" sCun f fd) (B : ErrC P w K mg base "Twice" "name" CT fI) :
    FnOk P w K mg base (L2N.CX P w) 3 f fd ["names"] (spCun K CT) := by
  obtain ⟨fde, Fe, hbe⟩ := B.ok
  refine NN.okN F scCun (fun vs H Q E h => ?_) (fun cdv A outer s H vs Q E hr h => ?_)
  · obtain ⟨p, ws, rfl, _⟩ := h
    rfl
  · obtain ⟨p, ws, rfl, hS, few, h⟩ := h
    have hu := hu_of hr
    refine ⟨_, (pss_cons (ps_set (i := 1) scCun.nd rfl (Or.inl rfl) pe_dnewK) (pss_one (ps_for (passes_of rfl) rfl (pi_tup (pv 0)) (pg_name (i := 2) scCun.nd rfl (Or.inl rfl))
      (pss_cons (ps_if (pt_cmp (pc_din hu (pv 2) (pv 1))) (pss_one (L2N.ps_raise rfl (L2N.takes_of rfl rfl rfl rfl) (NN.pmkN B.O B.i B.t Fe hr hbe pass0 rfl B.g (pa_cons (pv 2) pa_nil)))) pss_nil)
        (pss_one (ps_dput hu (pv 1) (pv 2) pe_bl rfl)))))), ?_⟩
    intro d hd
    refine ⟨_, rfl, p, rfl, ⟨_, sqT_same (Same.new hd) hS⟩, ?_⟩
    have step : ∀ (i : Nat) (z : Str) (H' : Hp) (kvs : List (Key × V)), ws[i]? = some z → (∀ b o, H b = some o → H' b = some o) → H' d = some (.dK kvs) → kvs.length ≤ i → (∀ y : Str, (valV kvs (.inr y)).isSome = decide (y ∈ ws.take i)) →
        z ∉ ws.take i → (∀ b o, H b = some o → upd H' d (.dK (putK kvs (.inr z) (.bl true))) b = some o) ∧ (putK kvs (.inr z) (.bl true)).length ≤ i + 1 ∧ ∀ y : Str, (valV (putK kvs (.inr z) (.bl true)) (.inr y)).isSome = decide (y ∈ ws.take (i + 1)) := fun i z H' kvs hz s g l k no => by
      refine ⟨fun b o hb => ?_, Nat.le_trans (length_putK kvs _ _) (by omega), fun y => ?_⟩
      · have ne : b ≠ d := fun e => by rw [e, hd] at hb; cases hb
        rw [upd_ne ne]
        exact s b o hb
      · rw [valV_put, List.take_add_one, hz]
        by_cases e : y = z
        · subst e
          rw [if_pos rfl]
          simp
        · rw [if_neg (fun q => e (Sum.inr.inj q)), k y]
          simp [e]
    let Iv : Nat → L2.St → Hp → Prop := fun i σ H' => (∀ b o, H b = some o → H' b = some o) ∧ (∃ kvs, H' d = some (.dK kvs) ∧ kvs.length ≤ i ∧ ∀ y : Str, (valV kvs (.inr y)).isSome = decide (y ∈ ws.take i)) ∧ ∃ y, σ = [some (.ref p), some (.ref d), y]
    have base0 : Iv 0 [some (.ref p), some (.ref d), none] (upd H d (.dK [])) := ⟨Same.new hd, ⟨[], upd_same, Nat.le_refl _, fun y => by simp [valV]⟩, _, rfl⟩
    rcases h with ⟨nr, q⟩ | ⟨n, zn, ⟨hn, hin, hfirst⟩, q⟩
    · refine for_tup (xs := ws.map V.str) Iv base0 (fun i σ H' _ ⟨s, _⟩ => sqT_same s hS) (fun i x σ H' hx ⟨s, ⟨kvs, g, l, k⟩, y, eσ⟩ => ?_) (fun σ H' ⟨s, _⟩ => q _ s)
      subst eσ
      rw [List.getElem?_map] at hx
      obtain ⟨z, hz, rfl⟩ : ∃ z, ws[i]? = some z ∧ V.str z = x := by
        cases e : ws[i]? with
        | none => rw [e] at hx; cases hx
        | some z => rw [e] at hx; exact ⟨z, rfl, Option.some.inj hx⟩
      have no := nr i z hz
      obtain ⟨a1, a2, a3⟩ := step i z H' kvs hz s g l k no
      refine ⟨_, rfl, _, rfl, _, _, rfl, DGet.k (k := .inr z) g, ?_⟩
      rw [k z, decide_eq_false no]
      exact ⟨_, rfl, iteF ⟨_, rfl, _, rfl, _, _, rfl, DPut.k (k := .inr z) g (by have := (List.getElem?_eq_some_iff.mp hz).1; rw [sizeLine_eq]; omega), a1, ⟨_, upd_same, a2, a3⟩, _, rfl⟩⟩
    · have ltn : n < ws.length := (List.getElem?_eq_some_iff.mp hn).1
      refine for_tup (xs := ws.map V.str) (fun i σ H' => i ≤ n ∧ Iv i σ H') ⟨Nat.zero_le _, base0⟩ (fun i σ H' _ ⟨_, s, _⟩ => sqT_same s hS) (fun i x σ H' hx ⟨hi, s, ⟨kvs, g, l, k⟩, y, eσ⟩ => ?_) (fun σ H' ⟨hi, _⟩ => ?_)
      · subst eσ
        rw [List.getElem?_map] at hx
        obtain ⟨z, hz, rfl⟩ : ∃ z, ws[i]? = some z ∧ V.str z = x := by
          cases e : ws[i]? with
          | none => rw [e] at hx; cases hx
          | some z => rw [e] at hx; exact ⟨z, rfl, Option.some.inj hx⟩
        refine ⟨_, rfl, _, rfl, _, _, rfl, DGet.k (k := .inr z) g, ?_⟩
        rw [k z]
        by_cases e : i = n
        · subst e
          rw [hn] at hz
          obtain rfl := Option.some.inj hz
          rw [decide_eq_true hin]
          exact ⟨_, rfl, iteT ⟨_, rfl, mkO_of B.O B.v fun d2 H2 t => q d2 H2 (t.old s)⟩⟩
        · have no := hfirst i (by omega) z hz
          obtain ⟨a1, a2, a3⟩ := step i z H' kvs hz s g l k no
          rw [decide_eq_false no]
          exact ⟨_, rfl, iteF ⟨_, rfl, _, rfl, _, _, rfl, DPut.k (k := .inr z) g (by rw [sizeLine_eq]; omega), (by omega), a1, ⟨_, upd_same, a2, a3⟩, _, rfl⟩⟩
      · rw [List.length_map] at hi
        omega
theorem ok_asc {f : Addr} {fd : FuncData} (F : Fun K "ascending" "ascending" sAsc f fd) (T : TxtA mg) : FnOk P w K mg base CX0 1 f fd ["names"] (spAsc K) := by
  refine F.ok scAsc (fun vs H Q E h => ?_) (fun cdv A outer s H vs Q E hr h => ?_)
  · obtain ⟨p, ws, rfl, _⟩ := h
    rfl
  · obtain ⟨p, ws, rfl, hS, few, q⟩ := h
    refine ⟨_, (pss_one (ps_ret (pe_callTy call_tuple_of (by rfl) T.btuple (by decide +kernel) (pa_cons (pe_callB (cr_srtX rfl) (by rfl) T.bsorted (by decide +kernel) (pa_cons (pe_callTy (cr_setX rfl) (by rfl) T.bset (by decide +kernel) (pa_cons (pv 0) pa_nil)) pa_nil)) pa_nil)))), ?_⟩
    refine ⟨_, rfl, p, ws, rfl, hS, by omega, fun a ha => ⟨a, ws, rfl, upd_same, few, fun ys b srt nd mm hb => ?_⟩⟩
    refine ⟨b, _, rfl, .inl ⟨SqL.of upd_same, fun l hl => ?_⟩⟩
    have s1 : Same H (upd H a (SetX w a ws)) := Same.new ha
    have s2 := s1.trans (Same.new (o := .lst (ys.map V.str)) hb)
    exact q ys l _ srt nd mm (s2.trans (Same.new hl)) (sameNone s2 hl) upd_same
end
end K06

set_option Elab.async false
set_option linter.all false
set_option maxRecDepth 100000
set_option maxHeartbeats 4000000
namespace K06
open PySem L2 NX NU
open PyProof.Rows (sortedS)
/-- what is refused: a value that is no name, a text that stands twice, too many, none -/
inductive Fa
  | nm (v : V)
  | tw (z : Str)
  | mn
  | em
/-- the four error classes -/
structure C4 where
  n : Addr
  t : Addr
  m : Addr
  d : Addr
def Fa.cls (c : C4) : Fa → Addr
  | .nm _ => c.n
  | .tw _ => c.t
  | .mn => c.m
  | .em => c.d
def Fa.fld : Fa → Str
  | .nm _ => "value"
  | .tw _ => "name"
  | .mn => "most"
  | .em => "value"
def Fa.val : Fa → V
  | .nm v => v
  | .tw z => .str z
  | .mn => .int 3
  | .em => .non
/-- what used names are refused with -/
inductive UsedF (ws : List Str) : Option Fa → Prop
  | tw {i : Nat} {z : Str} : Rep ws i z → UsedF ws (some (.tw z))
  | mn : NoRep ws → 3 < ws.length → UsedF ws (some .mn)
  | em : ws = [] → UsedF ws (some .em)
  | ok : NoRep ws → 0 < ws.length → ws.length ≤ 3 → UsedF ws none
/-- what values are refused with, those from place k on being used -/
inductive DueF (K : PySem.W.Frag) (H : Hp) (xs : List V) (k : Nat) : Option Fa → Prop
  | nm {ws : List Str} {v : V} : Bad K H xs ws v → DueF K H xs k (some (.nm v))
  | rest {ws : List Str} {r : Option Fa} : xs = ws.map V.str → Nms ws → UsedF (ws.drop k) r → DueF K H xs k r
/-- it is so, or the error comes -/
def Ends (c : C4) (H : Hp) (E : XK) (ok : Prop) : Option Fa → Prop
  | none => ok
  | some f => ∀ d H', Told H d f.fld f.val H' → E (.ref (f.cls c)) (some d) H'
theorem usedF_any (ws : List Str) : ∃ r, UsedF ws r := by
  rcases rep_or ws with h | ⟨i, z, h⟩
  · by_cases l0 : ws.length = 0
    · exact ⟨_, .em (List.length_eq_zero_iff.mp l0)⟩
    · by_cases l3 : ws.length ≤ 3
      · exact ⟨_, .ok h (by omega) l3⟩
      · exact ⟨_, .mn h (by omega)⟩
  · exact ⟨_, .tw h⟩
structure DeedC (K : PySem.W.Frag) (mg : Str → Option Value) (CD : Addr) : Prop where
  g : mg "Deed" = some (.ref CD)
  rd : ∃ mc u, ClX.CRead K CD mc ∧ ClX.CVal K CD mc "MOST" (.int 3) u
def spCus (K : PySem.W.Frag) (c : C4) : Sp := fun vs H Q E => ∃ (p : Addr) (ws : List Str) (r : Option Fa), vs = [.ref p] ∧ SqT K H p (ws.map V.str) ∧ ws.length ≤ 1000 ∧ UsedF ws r ∧ Ends c H E (∀ H', Same H H' → Q .non H') r
section
variable {P : Program} {w : World} {K : PySem.W.Frag} {mg : Str → Option Value} {base : Heap}
theorem ok_cus {c : C4} {CD fT fM fD f : Addr} {fd : FuncData} (F : Fun K "check_used" "check_used" sCus f fd) (T : TxtB mg) (cUn : CalL P w K mg base 3 "check_unlike" (spCun K c.t)) (D : DeedC K mg CD) (BM : ErrC P w K mg base "TooMany" "most" c.m fM) (BD : ErrC P w K mg base "BadDeed" "value" c.d fD) :
    FnOk P w K mg base (L2N.CX P w) 4 f fd ["names"] (spCus K c) := by
  obtain ⟨fdm, Fm, hbm⟩ := BM.ok
  obtain ⟨fdd, Fd, hbd⟩ := BD.ok
  obtain ⟨mc, u, rd, cv⟩ := D.rd
  refine NN.okN F scCus (fun vs H Q E h => ?_) (fun cdv A outer s H vs Q E hr h => ?_)
  · obtain ⟨p, ws, r, rfl, _⟩ := h
    rfl
  · obtain ⟨p, ws, r, rfl, hS, few, hU, h⟩ := h
    refine ⟨_, (pss_cons (ps_expr (pe_cL cUn hr (by decide) rfl (NN.passN (L2N.takes_of rfl rfl rfl rfl)) (pa_cons (pv 0) pa_nil)))
      (pss_cons (ps_if (pt_cmpR op_gt (pe_callB call_len_seq (by rfl) T.blen (by decide +kernel) (pa_cons (pv 0) pa_nil)) (ClX.pe_cval (C8.pe_gc (v := .ref CD) rfl ⟨_, D.g, rfl⟩)) (nomark _)) (pss_one (L2N.ps_raise rfl (L2N.takes_of rfl rfl rfl rfl) (NN.pmkN BM.O BM.i BM.t Fm (hr.mono (by decide)) hbm pass0 rfl BM.g (pa_cons (ClX.pe_cval (C8.pe_gc (v := .ref CD) rfl ⟨_, D.g, rfl⟩)) pa_nil)))) pss_nil)
      (pss_one (ps_if (pt_not (pt_truth (pv 0) (fun _ => rfl))) (pss_one (L2N.ps_raise rfl (L2N.takes_of rfl rfl rfl rfl) (NN.pmkN BD.O BD.i BD.t Fd (hr.mono (by decide)) hbd pass0 rfl BD.g (pa_cons pe_non pa_nil)))) pss_nil)))), ?_⟩
    refine ⟨_, rfl, p, ws, rfl, hS, few, ?_⟩
    have split : (∃ i z, Rep ws i z ∧ ∀ d H', Told H d "name" (.str z) H' → E (.ref c.t) (some d) H') ∨ (NoRep ws ∧ (∀ d H', Told H d "most" (.int 3) H' → 3 < ws.length → E (.ref c.m) (some d) H') ∧ (∀ d H', Told H d "value" .non H' → ws = [] → E (.ref c.d) (some d) H') ∧ ∀ H', Same H H' → 0 < ws.length → ws.length ≤ 3 → Q .non H') := by
      cases hU with
      | tw rp => exact .inl ⟨_, _, rp, h⟩
      | mn nr l => exact .inr ⟨nr, fun d H' t _ => h d H' t, fun d H' t e => (by rw [e] at l; cases l), fun H' s _ l3 => by omega⟩
      | em e => exact .inr ⟨(by rw [e]; exact fun i z q => by simp at q), fun d H' t l => (by rw [e] at l; cases l), fun d H' t _ => h d H' t, fun H' s l0 _ => by rw [e] at l0; cases l0⟩
      | ok nr l0 l3 => exact .inr ⟨nr, fun d H' t l => (by omega), fun d H' t e => (by rw [e] at l0; cases l0), fun H' s _ _ => h H' s⟩
    rcases split with ⟨i, z, rp, q⟩ | ⟨nr, q1, q2, q3⟩
    · exact .inr ⟨i, z, rp, q⟩
    refine .inl ⟨nr, fun H' s => ?_⟩
    refine ⟨_, rfl, p, _, rfl, .inr (sqT_same s hS), CD, mc, _, u, rfl, rd, cv, _, _, rfl, rfl, _, rfl, ite2 (fun h1 => ?_) (fun h1 => ?_)⟩
    · have h1 := of_decide_eq_true h1
      rw [List.length_map] at h1
      exact ⟨CD, mc, _, u, rfl, rd, cv, mkO_of BM.O BM.v fun d H2 t => q1 d H2 (t.old s) (by omega)⟩
    · have h1 : ¬ ((ws.map V.str).length : Int) > 3 := fun z => h1 (decide_eq_true z)
      rw [List.length_map] at h1
      refine ⟨_, rfl, !(ws.map V.str).isEmpty, .inr (.inl ⟨_, sqT_same s hS, rfl⟩), ?_⟩
      cases ws with
      | nil => exact iteT (mkO_of BD.O BD.v fun d H2 t => q2 d H2 (t.old s) rfl)
      | cons z l => exact iteF (q3 H' s (Nat.succ_pos _) (by omega))
end
end K06

set_option Elab.async false
set_option linter.all false
set_option maxRecDepth 100000
set_option maxHeartbeats 4000000
namespace K06
open PySem L2 NX NU
open PyProof.Rows (sortedS)
theorem tyOf_same {K : PySem.W.Frag} {H H' : Hp} {v : V} {t : Value} (s : Same H H') (h : TyOf K H v t) : TyOf K H' v t := by
  cases h with
  | non => exact .non
  | bl x => exact .bl x
  | int x => exact .int x
  | str x => exact .str x
  | flt x => exact .flt x
  | lst h => exact .lst (s _ _ h)
  | frz h => exact .frz (s _ _ h)
  | tup h => exact .tup (s _ _ h)
  | dK h => exact .dK (s _ _ h)
  | dT h => exact .dT (s _ _ h)
  | ins h a b c d e => exact .ins (s _ _ h) a b c d e
theorem tyX_same {K : PySem.W.Frag} {H H' : Hp} {v : V} {t : Value} (s : Same H H') (h : TyX K H v t) : TyX K H' v t := by
  cases h with
  | base h => exact .base (tyOf_same s h)
  | byt b => exact .byt b
  | set h => exact .set (s _ _ h)
  | kList a b => exact .kList a b
  | kTuple a b => exact .kTuple a b
  | kDict a b => exact .kDict a b
  | fTuple h => exact .fTuple (s _ _ h)
  | fDict h => exact .fDict (s _ _ h)
theorem NoStr.same {K : PySem.W.Frag} {H H' : Hp} {v : V} (s : Same H H') (h : NoStr K H v) : NoStr K H' v := by
  obtain ⟨t, a, b⟩ := h
  exact ⟨t, tyX_same s a, b⟩
theorem NoNm.same {K : PySem.W.Frag} {H H' : Hp} {v : V} (s : Same H H') (h : NoNm K H v) : NoNm K H' v := by
  rcases h with h | h
  · exact .inl h
  · exact .inr (NoStr.same s h)

theorem Bad.same {K : PySem.W.Frag} {H H' : Hp} {xs : List V} {ws : List Str} {v : V} (s : Same H H') (h : Bad K H xs ws v) : Bad K H' xs ws v := by
  obtain ⟨l, a, b, c⟩ := h
  exact ⟨l, a, b, c.same s⟩
theorem DueF.same {K : PySem.W.Frag} {H H' : Hp} {xs : List V} {k : Nat} {r : Option Fa} (s : Same H H') (h : DueF K H xs k r) : DueF K H' xs k r := by
  cases h with
  | nm b => exact .nm (b.same s)
  | rest a b c => exact .rest a b c
theorem Ends.old {c : C4} {H H' : Hp} {E : XK} {ok ok2 : Prop} {r : Option Fa} (s : Same H H') (h : Ends c H E ok r) (k : ok → ok2) : Ends c H' E ok2 r := by
  cases r with
  | none => exact k h
  | some f => exact fun d H2 t => h d H2 (t.old s)
abbrev sUse : Stmt := inClass (top 29) 0
abbrev sMake : Stmt := inClass (top 30) 0
abbrev sDo : Stmt := inClass (top 31) 0
theorem scUse : FnScope ["self", "names"] ["self", "names"] (defScope sUse) := ⟨rfl, rfl, rfl, by decide +kernel, rfl, by decide +kernel, by decide +kernel⟩
theorem scMake : FnScope ["self", "name"] ["self", "name"] (defScope sMake) := ⟨rfl, rfl, rfl, by decide +kernel, rfl, by decide +kernel, by decide +kernel⟩
theorem scDo : FnScope ["self", "name", "names"] ["self", "name", "names"] (defScope sDo) := ⟨rfl, rfl, rfl, by decide +kernel, rfl, by decide +kernel, by decide +kernel⟩
/-- ys: the texts of ws, ascending, each once -/
def Asc (ys ws : List Str) : Prop := sortedS ys = true ∧ ys.Nodup ∧ ∀ y, y ∈ ys ↔ y ∈ ws
/-- a deed at x, of the class at C -/
def Dd (H : Hp) (x C : Addr) (us : List Str) (mk : V) (ys : List Str) : Prop := ∃ dx p q, H x = some (.ins C dx [("uses", .ref p), ("makes", mk), ("_names", .ref q)]) ∧ H p = some (.tup (us.map V.str)) ∧ H q = some (.tup (ys.map V.str))
structure DCls (K : PySem.W.Frag) (C : Addr) : Prop where
  cl : Cls K C
  nu : NoAttr K C "uses"
  nk : NoAttr K C "makes"
  nn : NoAttr K C "_names"
/-- a Use is made of what stands in the tuple at p -/
def spUse0 (K : PySem.W.Frag) (c : C4) : Sp := fun vs H Q E => ∃ (x C dx p : Addr) (xs : List V) (r : Option Fa), vs = [.ref x, .ref p] ∧ DCls K C ∧ H x = some (.ins C dx []) ∧ H p = some (.tup xs) ∧ xs.length < 60 ∧ DueF K H xs 0 r ∧
  Ends c H E (∀ ws ys H', xs = ws.map V.str → Asc ys ws → But x H H' → Dd H' x C ws .non ys → Q .non H') r
def spMake (K : PySem.W.Frag) (c : C4) : Sp := fun vs H Q E => ∃ (x C dx : Addr) (v : V), vs = [.ref x, v] ∧ DCls K C ∧ H x = some (.ins C dx []) ∧
  ((∃ z, IsNm v z ∧ ∀ H', But x H H' → Dd H' x C [] (.str z) [z] → Q .non H') ∨ (NoNm K H v ∧ ∀ d H', Told H d "value" v H' → E (.ref c.n) (some d) H'))
def spDo0 (K : PySem.W.Frag) (c : C4) : Sp := fun vs H Q E => ∃ (x C dx p : Addr) (v : V) (xs : List V) (r : Option Fa), vs = [.ref x, v, .ref p] ∧ DCls K C ∧ H x = some (.ins C dx []) ∧ H p = some (.tup xs) ∧ xs.length < 60 ∧ DueF K H (v :: xs) 1 r ∧
  Ends c H E (∀ m ws ys H', v = .str m → xs = ws.map V.str → Asc ys (m :: ws) → But x H H' → Dd H' x C ws (.str m) ys → Q .non H') r
section
variable {P : Program} {w : World} {K : PySem.W.Frag} {mg : Str → Option Value} {base : Heap}
/-- the calls that the three inits make -/
structure Cks (P : Program) (w : World) (K : PySem.W.Frag) (mg : Str → Option Value) (base : Heap) (c : C4) : Prop where
  ns : CalL P w K mg base 3 "check_names" (spCns K c.n)
  us : CalL P w K mg base 4 "check_used" (spCus K c)
  as : C8.Cal P w K mg base 1 "ascending" (spAsc K) []
theorem body_use {c : C4} (k : Cks P w K mg base c) {f : Addr} {cdv : Value} {A : Around} {outer : List Env} {s : Shared} {H : Hp} {vs : List V} {Q : VK} {E : XK} (hr : Room 4 (A.deeper (PyProof.Rows.envOfC "Use.__init__" (defScope sUse) s.heap.objs.size f cdv))) (h : spUse0 K c vs H Q E) :
    ∃ t, PSs (cxOf (L2N.CX P w) P w K mg base ["self", "names"] "Use.__init__" (defScope sUse) f cdv A outer s H E) (defBody sUse) t ∧ t { nx := fun _ H' => Q .non H', rt := Q } (start ["self", "names"] vs) H := by
  obtain ⟨x, C, dx, p, xs, r, rfl, hC, hx, hp, few, hD, h⟩ := h
  have px : p ≠ x := fun e => by rw [e, hx] at hp; cases hp
  refine ⟨_, (pss_cons (ps_expr (pe_cL k.ns hr (by decide) rfl (NN.passN (L2N.takes_of rfl rfl rfl rfl)) (pa_cons (pv 1) pa_nil)))
    (pss_cons (ps_expr (pe_cL k.us hr (by decide) rfl (NN.passN (L2N.takes_of rfl rfl rfl rfl)) (pa_cons (pv 1) pa_nil)))
    (pss_cons (ps_fld (pv 0) (pv 1) rfl) (pss_cons (ps_fld (pv 0) pe_non rfl) (pss_one (ps_fld (pv 0) (C8.pe_c k.as hr (by decide) rfl (pa_cons (pv 1) pa_nil)) rfl)))))), ?_⟩
  cases hD with
  | nm b => exact ⟨_, rfl, p, xs, rfl, SqT.of hp, .inr ⟨_, _, b, h⟩⟩
  | rest e hn hU =>
    rename_i ws
    subst e
    rw [List.drop_zero] at hU
    rw [List.length_map] at few
    refine ⟨_, rfl, p, _, rfl, SqT.of hp, .inl ⟨ws, rfl, hn, ?_⟩⟩
    refine ⟨_, rfl, p, ws, r, rfl, SqT.of hp, by omega, hU, Ends.old (fun _ _ z => z) h fun h H1 s1 => ?_⟩
    refine ⟨_, rfl, _, rfl, x, C, dx, _, rfl, s1 _ _ hx, hC.cl, hC.nu, by decide, ?_⟩
    refine ⟨_, rfl, x, C, dx, _, rfl, upd_same, hC.cl, hC.nk, by show 1 < 1000; decide, ?_⟩
    refine ⟨_, rfl, p, ws, rfl, .inr (SqT.of (by rw [upd_ne px, upd_ne px]; exact s1 _ _ hp)), by omega, fun ys q H2 srt nd mm s2 hq gq => ?_⟩
    refine ⟨_, rfl, x, C, dx, _, rfl, s2 _ _ upd_same, hC.cl, hC.nn, by show 2 < 1000; decide, ?_⟩
    have qx : q ≠ x := fun e => by rw [e] at hq; rw [upd_same] at hq; cases hq
    refine h ws ys _ rfl ⟨srt, nd, mm⟩ (fun b o hb ne => ?_) ⟨dx, p, q, upd_same, ?_, ?_⟩
    · rw [upd_ne ne]
      exact s2 _ _ (by rw [upd_ne ne, upd_ne ne]; exact s1 _ _ hb)
    · rw [upd_ne px]
      exact s2 _ _ (by rw [upd_ne px, upd_ne px]; exact s1 _ _ hp)
    · rw [upd_ne qx]
      exact gq
theorem ok_make {c : C4} (k : Cks P w K mg base c) {f : Addr} {fd : FuncData} (F : Fun K "__init__" "Make.__init__" sMake f fd) : FnOk P w K mg base (L2N.CX P w) 4 f fd ["self", "name"] (spMake K c) := by
  refine NN.okN F scMake (fun vs H Q E h => ?_) (fun cdv A outer s H vs Q E hr h => ?_)
  · obtain ⟨x, C, dx, v, rfl, _⟩ := h
    rfl
  · obtain ⟨x, C, dx, v, rfl, hC, hx, h⟩ := h
    refine ⟨_, (pss_cons (ps_expr (pe_cL k.ns hr (by decide) rfl (NN.passN (L2N.takes_of rfl rfl rfl rfl)) (pa_cons (pe_tup (pa_cons (pv 1) pa_nil)) pa_nil)))
      (pss_cons (ps_fld (pv 0) (pe_tup pa_nil) rfl) (pss_cons (ps_fld (pv 0) (pv 1) rfl) (pss_one (ps_fld (pv 0) (pe_tup (pa_cons (pv 1) pa_nil)) rfl))))), ?_⟩
    refine ⟨_, rfl, by show 1 ≤ sizeLine; decide, fun t ht => ?_⟩
    have s1 : Same H (upd H t (.tup [v])) := Same.new ht
    refine ⟨t, [v], rfl, SqT.of upd_same, ?_⟩
    rcases h with ⟨z, ⟨rfl, hz, hn⟩, q⟩ | ⟨bad, q⟩
    · refine .inl ⟨[z], rfl, fun y hy => by rw [List.mem_singleton.mp hy]; exact ⟨hz, hn⟩, ?_⟩
      refine ⟨by show 0 ≤ sizeLine; decide, fun p hp => ?_⟩
      have s2 := s1.trans (Same.new (o := .tup []) hp)
      have px : p ≠ x := fun e => by rw [e, s1 _ _ hx] at hp; cases hp
      refine ⟨_, rfl, x, C, dx, _, rfl, s2 _ _ hx, hC.cl, hC.nu, by decide, ?_⟩
      refine ⟨_, rfl, _, rfl, x, C, dx, _, rfl, upd_same, hC.cl, hC.nk, by show 1 < 1000; decide, ?_⟩
      refine ⟨_, rfl, by show 1 ≤ sizeLine; decide, fun r hr => ?_⟩
      have rx : r ≠ x := fun e => by rw [e, upd_same] at hr; cases hr
      have hr0 := hr
      rw [upd_ne rx, upd_ne rx] at hr0
      have rp : p ≠ r := fun e => by rw [← e, upd_same] at hr0; cases hr0
      refine ⟨_, rfl, x, C, dx, _, rfl, (by rw [upd_ne (Ne.symm rx)]; exact upd_same), hC.cl, hC.nn, by show 2 < 1000; decide, ?_⟩
      refine q _ (fun b o hb ne => ?_) ⟨dx, p, r, upd_same, ?_, ?_⟩
      · have br : b ≠ r := fun e => by rw [← e, s2 _ _ hb] at hr0; cases hr0
        rw [upd_ne ne, upd_ne br, upd_ne ne, upd_ne ne]
        exact s2 _ _ hb
      · rw [upd_ne px, upd_ne rp, upd_ne px, upd_ne px]
        exact upd_same
      · rw [upd_ne rx]
        exact upd_same
    · exact .inr ⟨[], v, ⟨[], rfl, nofun, bad.same s1⟩, fun d H' t => q d H' (t.old s1)⟩
theorem body_do {c : C4} (k : Cks P w K mg base c) {f : Addr} {cdv : Value} {A : Around} {outer : List Env} {s : Shared} {H : Hp} {vs : List V} {Q : VK} {E : XK} (hr : Room 4 (A.deeper (PyProof.Rows.envOfC "Do.__init__" (defScope sDo) s.heap.objs.size f cdv))) (h : spDo0 K c vs H Q E) :
    ∃ t, PSs (cxOf (L2N.CX P w) P w K mg base ["self", "name", "names"] "Do.__init__" (defScope sDo) f cdv A outer s H E) (defBody sDo) t ∧ t { nx := fun _ H' => Q .non H', rt := Q } (start ["self", "name", "names"] vs) H := by
  obtain ⟨x, C, dx, p, v, xs, r, rfl, hC, hx, hp, few, hD, h⟩ := h
  have px : p ≠ x := fun e => by rw [e, hx] at hp; cases hp
  refine ⟨_, (pss_cons (ps_expr (pe_cL k.ns hr (by decide) rfl (NN.passN (L2N.takes_of rfl rfl rfl rfl)) (pa_cons (pe_tup (pa_cons (pv 1) (StX.pa_star (pv 2) pa_nil))) pa_nil)))
    (pss_cons (ps_expr (pe_cL k.us hr (by decide) rfl (NN.passN (L2N.takes_of rfl rfl rfl rfl)) (pa_cons (pv 2) pa_nil)))
    (pss_cons (ps_fld (pv 0) (pv 2) rfl) (pss_cons (ps_fld (pv 0) (pv 1) rfl) (pss_one (ps_fld (pv 0) (C8.pe_c k.as hr (by decide) rfl (pa_cons (pe_tup (pa_cons (pv 1) (StX.pa_star (pv 2) pa_nil))) pa_nil)) rfl)))))), ?_⟩
  have lz : 61 ≤ sizeLine := by decide
  refine ⟨_, rfl, _, rfl, p, xs, rfl, .inl (SqT.of hp), ?_⟩
  dsimp only [tNil]
  rw [List.append_nil]
  refine ⟨by show xs.length + 1 ≤ sizeLine; omega, fun t ht => ?_⟩
  have s0 : Same H (upd H t (.tup (v :: xs))) := Same.new ht
  refine ⟨t, _, rfl, SqT.of upd_same, ?_⟩
  cases hD with
  | nm b => exact .inr ⟨_, _, b.same s0, fun d H' t => h d H' (t.old s0)⟩
  | rest e hn hU =>
    rename_i ws
    cases ws with
    | nil => cases e
    | cons m ws =>
      injection e with e1 e2
      subst e1 e2
      rw [List.length_map] at few
      refine .inl ⟨m :: ws, rfl, hn, ?_⟩
      refine ⟨_, rfl, p, ws, r, rfl, SqT.of (s0 _ _ hp), by omega, hU, Ends.old s0 h fun h H1 s1 => ?_⟩
      have s1 := s0.trans s1
      refine ⟨_, rfl, _, rfl, x, C, dx, _, rfl, s1 _ _ hx, hC.cl, hC.nu, by decide, ?_⟩
      refine ⟨_, rfl, _, rfl, x, C, dx, _, rfl, upd_same, hC.cl, hC.nk, by show 1 < 1000; decide, ?_⟩
      refine ⟨_, rfl, _, rfl, p, _, rfl, .inl (SqT.of (by rw [upd_ne px, upd_ne px]; exact s1 _ _ hp)), ?_⟩
      dsimp only [tNil]
      rw [List.append_nil]
      refine ⟨by show (ws.map V.str).length + 1 ≤ sizeLine; rw [List.length_map]; omega, fun t2 ht2 => ?_⟩
      have tx : t2 ≠ x := fun e => by rw [e, upd_same] at ht2; cases ht2
      refine ⟨t2, m :: ws, rfl, .inr (SqT.of upd_same), by show ws.length + 1 < 64; omega, fun ys q H2 srt nd mm s2 hq gq => ?_⟩
      have qx : q ≠ x := fun e => by rw [e, upd_ne (Ne.symm tx), upd_same] at hq; cases hq
      have pt : p ≠ t2 := fun e => by rw [← e, upd_ne px, upd_ne px, s1 _ _ hp] at ht2; cases ht2
      refine ⟨_, rfl, x, C, dx, _, rfl, s2 _ _ (by rw [upd_ne (Ne.symm tx)]; exact upd_same), hC.cl, hC.nn, by show 2 < 1000; decide, ?_⟩
      refine h m ws ys _ rfl rfl ⟨srt, nd, mm⟩ (fun b o hb ne => ?_) ⟨dx, p, q, upd_same, ?_, ?_⟩
      · rw [upd_ne ne]
        have bt : b ≠ t2 := fun e => by rw [← e, upd_ne ne, upd_ne ne, s1 _ _ hb] at ht2; cases ht2
        exact s2 _ _ (by rw [upd_ne bt, upd_ne ne, upd_ne ne]; exact s1 _ _ hb)
      · rw [upd_ne px]
        exact s2 _ _ (by rw [upd_ne pt, upd_ne px, upd_ne px]; exact s1 _ _ hp)
      · rw [upd_ne qx]
        exact gq
/-- Use.__init__ and Do.__init__, from what is passed -/
def spUse (K : PySem.W.Frag) (c : C4) : Sp := fun vs H Q E => ∃ ws rest, vs = ws ++ rest ∧ ws.length = ["self"].length ∧ rest.length ≤ sizeLine ∧ ∀ p, H p = Option.none → spUse0 K c (ws ++ [V.ref p]) (upd H p (.tup rest)) Q E
def spDo (K : PySem.W.Frag) (c : C4) : Sp := fun vs H Q E => ∃ ws rest, vs = ws ++ rest ∧ ws.length = ["self", "name"].length ∧ rest.length ≤ sizeLine ∧ ∀ p, H p = Option.none → spDo0 K c (ws ++ [V.ref p]) (upd H p (.tup rest)) Q E
theorem ok_use {c : C4} (k : Cks P w K mg base c) {f : Addr} {fd : FuncData} (F : Fun K "__init__" "Use.__init__" sUse f fd) : FnR P w K mg base (L2N.CX P w) 5 f (spUse K c) := by
  obtain ⟨oc, od, kV, doc, pm, an, cdv, ct, osl, rfl, lk, hcd⟩ := F.ex
  exact StX.fn_star (N := ["self", "names"]) (ps := ["self"]) (pv := "names") lk hcd scUse NN.upN (StX.bind_star1 (B := fun us => bindArgs _ ⟨us, []⟩) (fun a => rfl) (fun a r rs => rfl)) fun A outer s H vs Q E hr h => body_use k hr h
theorem ok_do {c : C4} (k : Cks P w K mg base c) {f : Addr} {fd : FuncData} (F : Fun K "__init__" "Do.__init__" sDo f fd) : FnR P w K mg base (L2N.CX P w) 5 f (spDo K c) := by
  obtain ⟨oc, od, kV, doc, pm, an, cdv, ct, osl, rfl, lk, hcd⟩ := F.ex
  exact StX.fn_star (N := ["self", "name", "names"]) (ps := ["self", "name"]) (pv := "names") lk hcd scDo NN.upN (StX.bind_star2 (B := fun us => bindArgs _ ⟨us, []⟩) (fun a b => rfl) (fun a b r rs => rfl)) fun A outer s H vs Q E hr h => body_do k hr h
end
end K06

set_option Elab.async false
set_option linter.all false
set_option maxRecDepth 100000
set_option maxHeartbeats 4000000
namespace K06
open PySem L2 NX NU
open PyProof.Rows (sortedS)
section
variable {X : Cx} {CX : CXT} {k : Nat} {f C : Addr} {sp : Sp} {E : XK} {x : Str} {e : Expr} {te : TE} {p q pos : Pos}
/-- C(*e), C a class of ours whose __init__ takes what is passed by place -/
theorem pe_makeS (M : Mk X.K C f) (F : FnR X.prog X.w X.K X.mg X.base CX k f sp) (hr : Room (k + 1) X.A) (hg : Gl X x) (hm : X.mg x = some (.ref C)) (hx : Passes CX X E) (he : PE X e te) (hd : (x == ("__debug__" : Str)) = false := by decide)
    (hst : starEach [.Starred e q] X.env = [(true, eval e X.env)] := by rfl) :
    PE X (.Call (.Name x p) [.Starred e q] [] pos) (fun σ H Q => te σ H fun y H1 => ∃ a xs, y = V.ref a ∧ (SqT X.K H1 a xs ∨ SqL X.K H1 a xs) ∧
      ∀ x dx, H1 x = none → H1 dx = none → dx ≠ x → sp (V.ref x :: xs) (upd (upd H1 dx (.own x)) x (.ins C dx [])) (fun v H2 => v = .non ∧ Q (.ref x) H2) E) := by
  refine ⟨fun pins s σ H Q I h => ?_⟩
  refine wpAny_Call_Name_kw (ld_glob I hg hm ?_ hd)
  refine PySem.W.callWith_S (h₀ := X.base) I.ok.mod.kin M.kp (thn (he.run pins s σ H _ I h) fun v s1 ⟨y, H1, I1, ry, a, xs, ey, hxs, z⟩ => ?_) hst
  subst ey
  obtain rfl : v = Value.ref a := ry
  exact StX.star_any I1 hxs fun us s2 I2 rv => ⟨I2.kIn, StX.run_makeR M F hr hx I2 rv z⟩
end
/-- what makes a deed: a word and names -/
def Good (us : List Str) : Prop := NoRep us ∧ 0 < us.length ∧ us.length ≤ 3
inductive DP : Str → List Str → Option Str → List Str → Prop
  | use {us : List Str} : Nms us → Good us → DP "use" us none us
  | make {m : Str} : Nms [m] → DP "make" [m] (some m) []
  | both {m : Str} {us : List Str} : Nms (m :: us) → Good us → DP "do" (m :: us) (some m) us
/-- what is refused of texts -/
theorem dueT (K : PySem.W.Frag) (H : Hp) (k : Nat) : ∀ ws : List Str, (∀ z ∈ ws, z.length ≤ 1000) → ∃ r, DueF K H (ws.map V.str) k r ∧ (r = none → Nms ws ∧ Good (ws.drop k)) := by
  intro ws short
  have look : ∀ l : List Str, (∀ z ∈ l, z.length ≤ 1000) → Nms l ∨ ∃ us z rest, l = us ++ z :: rest ∧ Nms us ∧ nm z = false := by
    intro l
    induction l with
    | nil => exact fun _ => .inl nofun
    | cons y l ih =>
      intro sh
      cases e : nm y with
      | false => exact .inr ⟨[], y, l, rfl, nofun, e⟩
      | true =>
        have me : y.length ≤ 1000 ∧ nm y = true := ⟨sh y List.mem_cons_self, e⟩
        rcases ih fun z hz => sh z (List.mem_cons_of_mem _ hz) with h | ⟨us, z, rest, e1, e2, e3⟩
        · exact .inl fun z hz => (List.mem_cons.mp hz).elim (fun q => by rw [q]; exact me) (h z)
        · exact .inr ⟨y :: us, z, rest, by rw [e1]; rfl, fun z hz => (List.mem_cons.mp hz).elim (fun q => by rw [q]; exact me) (e2 z), e3⟩
  rcases look ws short with h | ⟨us, z, rest, e1, e2, e3⟩
  · obtain ⟨r, hr⟩ := usedF_any (ws.drop k)
    refine ⟨r, .rest rfl h hr, fun e => ?_⟩
    subst e
    cases hr with
    | ok a b c => exact ⟨h, a, b, c⟩
  · refine ⟨_, .nm ⟨rest.map V.str, by rw [e1, List.map_append]; rfl, e2, .inl ⟨z, rfl, short z (by rw [e1]; simp), e3⟩⟩, fun e => by cases e⟩
/-- the classes of deeds -/
structure D3 where
  u : Addr
  m : Addr
  d : Addr
structure Dcs (K : PySem.W.Frag) (mg : Str → Option Value) (c : D3) (fU fM fD : Addr) : Prop where
  mu : Mk K c.u fU
  mm : Mk K c.m fM
  md : Mk K c.d fD
  gu : mg "Use" = some (.ref c.u)
  gm : mg "Make" = some (.ref c.m)
  gd : mg "Do" = some (.ref c.d)
  du : DCls K c.u
  dm : DCls K c.m
  dd : DCls K c.d
def D3.of (c : D3) : Option Str → List Str → Addr
  | none, _ => c.u
  | some _, [] => c.m
  | some _, _ :: _ => c.d
def mkV : Option Str → V
  | none => .non
  | some m => .str m
/-- a new deed -/
def NewD (c : D3) (H : Hp) (x : Addr) (mk : Option Str) (us : List Str) (H' : Hp) : Prop := Same H H' ∧ H x = none ∧ ∃ ys, Asc ys (mk.toList ++ us) ∧ Dd H' x (c.of mk us) us (mkV mk) ys
def spOf (K : PySem.W.Frag) (c : C4) (d : D3) : Sp := fun vs H Q E => ∃ (wd : Str) (p : Addr) (ws : List Str), vs = [.str wd, .ref p] ∧ wd.length ≤ 1000 ∧ SqL K H p (ws.map V.str) ∧ ws.length < 60 ∧ (∀ z ∈ ws, z.length ≤ 1000) ∧
  ((∃ mk us, DP wd ws mk us ∧ ∀ x H', NewD d H x mk us H' → Q (.ref x) H') ∨ ((∀ mk us, ¬ DP wd ws mk us) ∧ ∀ C y v dd H', (C = c.n ∨ C = c.t ∨ C = c.m ∨ C = c.d) → Told H dd y v H' → E (.ref C) (some dd) H'))
end K06

set_option Elab.async false
set_option linter.all false
set_option maxRecDepth 100000
set_option maxHeartbeats 4000000
namespace K06
open PySem L2 NX NU
open PyProof.Rows (sortedS)
abbrev sOf : Stmt := top 33
theorem scOf : FnScope ["word", "names"] ["word", "names"] (defScope sOf) := ⟨rfl, rfl, rfl, by decide +kernel, rfl, by decide +kernel, by decide +kernel⟩
theorem vstr {a b : Str} : decide (V.str a = V.str b) = decide (a = b) := by
  rw [Bool.eq_iff_iff, decide_eq_true_eq, decide_eq_true_eq]
  exact ⟨fun h => by injection h, fun h => by rw [h]⟩
theorem Ends.four {c : C4} {H : Hp} {E : XK} {ok : Prop} {r : Option Fa} (g : r = none → ok) (b : r ≠ none → ∀ C y v dd H', (C = c.n ∨ C = c.t ∨ C = c.m ∨ C = c.d) → Told H dd y v H' → E (.ref C) (some dd) H') : Ends c H E ok r := by
  cases r with
  | none => exact g rfl
  | some f =>
    intro d H' t
    refine b (fun e => by cases e) _ _ _ _ _ ?_ t
    cases f with
    | nm v => exact .inl rfl
    | tw z => exact .inr (.inl rfl)
    | mn => exact .inr (.inr (.inl rfl))
    | em => exact .inr (.inr (.inr rfl))
theorem made2 {H : Hp} {x dx C : Addr} (h1 : H x = none) (h2 : H dx = none) (h3 : dx ≠ x) : Same H (upd (upd H dx (.own x)) x (.ins C dx [])) := (Same.new h2).trans (Same.new (by rw [upd_ne (Ne.symm h3)]; exact h1))
/-- behind the making of an instance, and what its __init__ lays -/
theorem new_of {H H1 H' : Hp} {x : Addr} (h1 : H x = none) (s : Same H H1) (b : But x H1 H') : Same H H' := fun a o e => b a o (s a o e) (fun z => by rw [z, h1] at e; cases e)
theorem map_str {a b : List Str} (h : a.map V.str = b.map V.str) : a = b := (List.map_inj_right fun a b q => by injection q).mp h
theorem noStr_str {K : PySem.W.Frag} {H : Hp} {z : Str} (h : NoStr K H (.str z)) : False := by
  obtain ⟨t, ty, k⟩ := h
  have e : t = .type "str" := by
    cases ty with
    | base b => cases b; rfl
  subst e
  have y : PySem.W.kitOne K (.type "str") (.type "str") = some true := kit_ty (by decide +kernel)
  rw [k] at y
  cases y
theorem rep_no {ws : List Str} {i : Nat} {z : Str} (h : NoRep ws) (r : Rep ws i z) : False := h i z r.1 r.2.1
theorem due_good {K : PySem.W.Frag} {H : Hp} {k : Nat} {ws : List Str} {r : Option Fa} (a : Nms ws) (b : Good (ws.drop k)) (h : DueF K H (ws.map V.str) k r) : r = none := by
  cases h with
  | nm bd =>
    exfalso
    obtain ⟨l, e1, e2, e3⟩ := bd
    rename_i us v
    have m : v ∈ ws.map V.str := by rw [e1]; simp
    obtain ⟨z, hz, rfl⟩ := List.mem_map.mp m
    rcases e3 with ⟨z2, e, _, n⟩ | e3
    · injection e with e
      subst e
      rw [(a z hz).2] at n
      cases n
    · exact noStr_str e3
  | rest e1 e2 e3 =>
    have e1 := map_str e1
    subst e1
    obtain ⟨n1, n2, n3⟩ := b
    cases e3 with
    | tw r => exact (rep_no n1 r).elim
    | mn _ l => omega
    | em e => rw [e] at n2; cases n2
    | ok _ _ _ => rfl
section
variable {P : Program} {w : World} {K : PySem.W.Frag} {mg : Str → Option Value} {base : Heap}
/-- Use(*names), as deed_of calls it -/
theorem use_of {c : C4} {d : D3} {fU fM fD : Addr} (D : Dcs K mg d fU fM fD) {H : Hp} {Q : VK} {E : XK} {ws : List Str} (few : ws.length < 60) (short : ∀ z ∈ ws, z.length ≤ 1000)
    (h : (∃ mk us, DP "use" ws mk us ∧ ∀ x H', NewD d H x mk us H' → Q (.ref x) H') ∨ ((∀ mk us, ¬ DP "use" ws mk us) ∧ ∀ C y v dd H', (C = c.n ∨ C = c.t ∨ C = c.m ∨ C = c.d) → Told H dd y v H' → E (.ref C) (some dd) H')) :
    ∀ x dx, H x = none → H dx = none → dx ≠ x → spUse K c (V.ref x :: ws.map V.str) (upd (upd H dx (.own x)) x (.ins d.u dx [])) (fun v H2 => v = .non ∧ Q (.ref x) H2) E := by
  intro x dx h1 h2 h3
  have s1 := made2 (C := d.u) h1 h2 h3
  have lz : 60 ≤ sizeLine := by decide
  refine ⟨[.ref x], ws.map V.str, rfl, rfl, by rw [List.length_map]; omega, fun p hp => ?_⟩
  have s2 := s1.trans (Same.new (o := .tup (ws.map V.str)) hp)
  obtain ⟨r, hr, good⟩ := dueT K (upd (upd (upd H dx (.own x)) x (.ins d.u dx [])) p (.tup (ws.map V.str))) 0 ws short
  have px : x ≠ p := fun e => by rw [← e, upd_same] at hp; cases hp
  refine ⟨x, d.u, dx, p, ws.map V.str, r, rfl, D.du, (upd_ne px).trans upd_same, upd_same, by rw [List.length_map]; exact few, hr, .four (fun e => ?_) fun ne C y v dd H' hC t => ?_⟩
  · intro ws2 ys H' e2 asc but dd
    have e2 : ws = ws2 := map_str e2
    subst e2
    obtain ⟨n1, n2⟩ := good e
    rw [List.drop_zero] at n2
    refine ⟨rfl, ?_⟩
    rcases h with ⟨mk, us, dp, q⟩ | ⟨no, _⟩
    · cases dp with
      | use a b => exact q x H' ⟨new_of h1 s2 but, h1, ys, asc, dd⟩
    · exact absurd (.use n1 n2) (no _ _)
  · rcases h with ⟨mk, us, dp, q⟩ | ⟨_, q⟩
    · cases dp with
      | use a b =>
        exact absurd (due_good a (by rw [List.drop_zero]; exact b) hr) ne
    · exact q C y v dd H' hC (t.old s2)
/-- Do(*names), as deed_of calls it -/
theorem do_of {c : C4} {d : D3} {fU fM fD : Addr} (D : Dcs K mg d fU fM fD) {H : Hp} {Q : VK} {E : XK} {m : Str} {ws : List Str} (few : ws.length < 59) (short : ∀ z ∈ m :: ws, z.length ≤ 1000)
    (h : (∃ mk us, DP "do" (m :: ws) mk us ∧ ∀ x H', NewD d H x mk us H' → Q (.ref x) H') ∨ ((∀ mk us, ¬ DP "do" (m :: ws) mk us) ∧ ∀ C y v dd H', (C = c.n ∨ C = c.t ∨ C = c.m ∨ C = c.d) → Told H dd y v H' → E (.ref C) (some dd) H')) :
    ∀ x dx, H x = none → H dx = none → dx ≠ x → spDo K c (V.ref x :: (m :: ws).map V.str) (upd (upd H dx (.own x)) x (.ins d.d dx [])) (fun v H2 => v = .non ∧ Q (.ref x) H2) E := by
  intro x dx h1 h2 h3
  have s1 := made2 (C := d.d) h1 h2 h3
  have lz : 60 ≤ sizeLine := by decide
  refine ⟨[.ref x, .str m], ws.map V.str, rfl, rfl, by rw [List.length_map]; omega, fun p hp => ?_⟩
  have s2 := s1.trans (Same.new (o := .tup (ws.map V.str)) hp)
  obtain ⟨r, hr, good⟩ := dueT K (upd (upd (upd H dx (.own x)) x (.ins d.d dx [])) p (.tup (ws.map V.str))) 1 (m :: ws) short
  have px : x ≠ p := fun e => by rw [← e, upd_same] at hp; cases hp
  refine ⟨x, d.d, dx, p, .str m, ws.map V.str, r, rfl, D.dd, (upd_ne px).trans upd_same, upd_same, by rw [List.length_map]; omega, hr, .four (fun e => ?_) fun ne C y v dd H' hC t => ?_⟩
  · intro m2 ws2 ys H' e1 e2 asc but dd
    have e2 : ws = ws2 := map_str e2
    injection e1 with e1
    subst e1 e2
    obtain ⟨n1, n2⟩ := good e
    have n2 : Good ws := n2
    refine ⟨rfl, ?_⟩
    rcases h with ⟨mk, us, dp, q⟩ | ⟨no, _⟩
    · cases dp with
      | both a b =>
        refine q x H' ⟨new_of h1 s2 but, h1, ys, asc, ?_⟩
        cases ws with
        | nil => exact absurd b.2.1 (by decide)
        | cons z l => exact dd
    · exact absurd (.both n1 n2) (no _ _)
  · rcases h with ⟨mk, us, dp, q⟩ | ⟨_, q⟩
    · cases dp with
      | both a b => exact absurd (due_good (k := 1) a b hr) ne
    · exact q C y v dd H' hC (t.old s2)
/-- Make(name), as deed_of calls it -/
theorem make_of {c : C4} {d : D3} {fU fM fD : Addr} (D : Dcs K mg d fU fM fD) {H : Hp} {Q : VK} {E : XK} {m : Str} (short : m.length ≤ 1000)
    (h : (∃ mk us, DP "make" [m] mk us ∧ ∀ x H', NewD d H x mk us H' → Q (.ref x) H') ∨ ((∀ mk us, ¬ DP "make" [m] mk us) ∧ ∀ C y v dd H', (C = c.n ∨ C = c.t ∨ C = c.m ∨ C = c.d) → Told H dd y v H' → E (.ref C) (some dd) H')) :
    ∀ x dx, H x = none → H dx = none → dx ≠ x → spMake K c (V.ref x :: ([V.str m] ++ [])) (upd (upd H dx (.own x)) x (.ins d.m dx [])) (fun v H2 => v = .non ∧ Q (.ref x) H2) E := by
  intro x dx h1 h2 h3
  have s1 := made2 (C := d.m) h1 h2 h3
  refine ⟨x, d.m, dx, .str m, rfl, D.dm, upd_same, ?_⟩
  cases e : nm m with
  | true =>
    have n : Nms [m] := fun z hz => by rw [List.mem_singleton.mp hz]; exact ⟨short, e⟩
    refine .inl ⟨m, ⟨rfl, short, e⟩, fun H' but dd => ⟨rfl, ?_⟩⟩
    rcases h with ⟨mk, us, dp, q⟩ | ⟨no, _⟩
    · cases dp with
      | make a => exact q x H' ⟨new_of h1 s1 but, h1, [m], ⟨rfl, (by simp), fun y => by simp⟩, dd⟩
    · exact absurd (.make n) (no _ _)
  | false =>
    refine .inr ⟨.inl ⟨m, rfl, short, e⟩, fun dd H' t => ?_⟩
    rcases h with ⟨mk, us, dp, q⟩ | ⟨_, q⟩
    · cases dp with
      | make a =>
        have z := (a m (List.mem_singleton.mpr rfl)).2
        rw [e] at z
        cases z
    · exact q _ _ _ dd H' (.inl rfl) (t.old s1)
theorem ok_of {c : C4} {d : D3} {fU fM fD fE f : Addr} {fd fdm : FuncData} (F : Fun K "deed_of" "deed_of" sOf f fd) (T : TxtB mg) (D : Dcs K mg d fU fM fD) (U : FnR P w K mg base (L2N.CX P w) 5 fU (spUse K c)) (M : FnOk P w K mg base (L2N.CX P w) 4 fM fdm ["self", "name"] (spMake K c)) (hbm : Binds K fdm ["self", "name"] [])
    (O : FnR P w K mg base (L2N.CX P w) 5 fD (spDo K c)) (B : ErrC P w K mg base "BadDeed" "value" c.d fE) : FnOk P w K mg base (L2N.CX P w) 7 f fd ["word", "names"] (spOf K c d) := by
  obtain ⟨fde, Fe, hbe⟩ := B.ok
  refine NN.okN F scOf (fun vs H Q E h => ?_) (fun cdv A outer s H vs Q E hr h => ?_)
  · obtain ⟨wd, p, ws, rfl, _⟩ := h
    rfl
  · obtain ⟨wd, p, ws, rfl, hw, hS, few, short, h⟩ := h
    refine ⟨_, (pss_cons (ps_if (pt_cmpR op_eq (pv 0) pe_str (nomark _)) (pss_one (ps_ret (pe_makeS D.mu U hr rfl D.gu (NN.passN (L2N.takes_of rfl rfl rfl rfl)) (pv 1)))) pss_nil)
      (pss_cons (ps_if (PW.pt (pw_and (pt_cmpR op_eq (pv 0) pe_str (nomark _)) (pw_and1 (pt_cmpR op_eq (pe_callB call_len_seq (by rfl) T.blen (by decide +kernel) (pa_cons (pv 1) pa_nil)) pe_int (nomark _))))) (pss_one (ps_ret (pe_make (ds := []) (dvs := []) D.mm M (hr.mono (by decide)) rfl D.gm hbm .nil (NN.passN (L2N.takes_of rfl rfl rfl rfl)) (pa_cons (pe_ix ix_list (pv 1) pe_int (fun _ _ => rfl)) pa_nil)))) pss_nil)
      (pss_cons (ps_if (PW.pt (pw_and (pt_cmpR op_eq (pv 0) pe_str (nomark _)) (pw_and1 (pt_truth (pv 1) (fun _ => rfl))))) (pss_one (ps_ret (pe_makeS D.md O hr rfl D.gd (NN.passN (L2N.takes_of rfl rfl rfl rfl)) (pv 1)))) pss_nil)
      (pss_one (L2N.ps_raise rfl (L2N.takes_of rfl rfl rfl rfl) (NN.pmkN B.O B.i B.t Fe (hr.mono (by decide)) hbe pass0 rfl B.g (pa_cons (pv 0) pa_nil))))))), ?_⟩
    have bad : (∀ mk us, ¬ DP wd ws mk us) → ∀ dd H', Told H dd "value" (.str wd) H' → E (.ref c.d) (some dd) H' := fun no dd H' t => by
      rcases h with ⟨mk, us, dp, _⟩ | ⟨_, q⟩
      · exact absurd dp (no _ _)
      · exact q _ _ _ dd H' (.inr (.inr (.inr rfl))) t
    refine ⟨_, rfl, rfl, _, rfl, ?_⟩
    by_cases e1 : wd = "use"
    · subst e1
      exact iteT ⟨_, rfl, p, _, rfl, .inr hS, use_of D few short h⟩
    · rw [vstr, decide_eq_false e1]
      refine iteF ⟨_, rfl, rfl, _, rfl, ?_⟩
      by_cases e2 : wd = "make"
      · subst e2
        rw [vstr, decide_eq_true rfl]
        refine iteT ⟨_, rfl, p, _, rfl, .inl hS, rfl, _, rfl, ?_⟩
        match ws, hS, short, h, bad with
        | [m], hS, short, h, bad => exact iteT ⟨_, rfl, p, _, _, _, rfl, rfl, hS, rfl, make_of D (short m (by simp)) h⟩
        | [], hS, short, h, bad => exact iteF ⟨_, rfl, rfl, _, rfl, iteF ⟨_, rfl, mkO_of B.O B.v (bad fun mk us dp => by cases dp)⟩⟩
        | m :: n :: l, hS, short, h, bad =>
          have ne : ¬ V.int (((m :: n :: l).map V.str).length : Nat) = V.int 1 := fun z => by
            injection z with z
            rw [List.length_map] at z
            simp only [List.length_cons] at z
            omega
          rw [decide_eq_false ne]
          exact iteF ⟨_, rfl, rfl, _, rfl, iteF ⟨_, rfl, mkO_of B.O B.v (bad fun mk us dp => by cases dp)⟩⟩
      · rw [vstr, decide_eq_false e2]
        refine iteF (iteF ⟨_, rfl, rfl, _, rfl, ?_⟩)
        by_cases e3 : wd = "do"
        · subst e3
          rw [vstr, decide_eq_true rfl]
          refine iteT ⟨_, rfl, !(ws.map V.str).isEmpty, .inl ⟨_, hS, rfl⟩, ?_⟩
          cases ws with
          | nil => exact iteF ⟨_, rfl, mkO_of B.O B.v (bad fun mk us dp => by cases dp)⟩
          | cons m ws => exact iteT ⟨_, rfl, p, _, rfl, .inr hS, do_of D (Nat.lt_of_succ_lt_succ few) short h⟩
        · rw [vstr, decide_eq_false e3]
          refine iteF (iteF ⟨_, rfl, mkO_of B.O B.v (bad fun mk us dp => ?_)⟩)
          cases dp with
          | use a b => exact e1 rfl
          | make a => exact e2 rfl
          | both a b => exact e3 rfl
end
end K06

set_option Elab.async false
set_option linter.all false
set_option maxRecDepth 100000
set_option maxHeartbeats 4000000
namespace K06
open PySem L2 NX NU
open PyProof.Rows (sortedS)
abbrev sRead : Stmt := inClass (top 28) 3
theorem scRead : FnScope ["cls", "text", "word", "names"] ["cls", "text"] (defScope sRead) := ⟨rfl, rfl, rfl, by decide +kernel, rfl, by decide +kernel, by decide +kernel⟩
/-- the text of a deed -/
def DT (z : Str) (mk : Option Str) (us : List Str) : Prop := ∃ wd ws, Txt.split z " " = wd :: ws ∧ DP wd ws mk us
def NoDeed (K : PySem.W.Frag) (H : Hp) (v : V) : Prop := (∃ z, v = .str z ∧ z.length ≤ 1000 ∧ (Txt.split z " ").length ≤ 60 ∧ ∀ mk us, ¬ DT z mk us) ∨ NoStr K H v
def spRd (K : PySem.W.Frag) (c : C4) (d : D3) : Sp := fun vs H Q E => ∃ (a : Addr) (v : V), vs = [.ref a, v] ∧
  ((∃ z mk us, v = .str z ∧ z.length ≤ 1000 ∧ (Txt.split z " ").length ≤ 60 ∧ DT z mk us ∧ ∀ x H', NewD d H x mk us H' → Q (.ref x) H') ∨ (NoDeed K H v ∧ ∀ dd H', Told H dd "value" v H' → E (.ref c.d) (some dd) H'))
/-- the four errors are StowErrors -/
structure Stow (K : PySem.W.Frag) (mg : Str → Option Value) (c : C4) (CS : Addr) : Prop where
  g : mg "StowError" = some (.ref CS)
  n : PySem.W.exmOne K (.ref c.n) (.ref CS) = some true
  t : PySem.W.exmOne K (.ref c.t) (.ref CS) = some true
  m : PySem.W.exmOne K (.ref c.m) (.ref CS) = some true
  d : PySem.W.exmOne K (.ref c.d) (.ref CS) = some true
section
variable {P : Program} {w : World} {K : PySem.W.Frag} {mg : Str → Option Value} {base : Heap}
theorem ok_errDH {f : Addr} {fd : FuncData} (F : Fun K "__init__" "BadDeed.__init__" sErrD f fd) : L2H.FnH P w K mg base CX0 1 f fd ["self", "value"] (spErr K "value") := by
  obtain ⟨oc, od, kV, doc, pm, an, cdv, ct, osl, rfl, lk, cd⟩ := F.ex
  refine L2H.fn_ofH lk cd scErrD (fun vs H Q E h => ?_) fun A outer s H vs Q E p hot hr h => ?_
  · obtain ⟨a, C, v, rfl, _⟩ := h
    rfl
  · obtain ⟨a, C, v, rfl, T, hf, ha, k⟩ := h
    exact ⟨_, (pss_one (ps_ost (pv 0) (pv 1))), _, rfl, _, rfl, a, C, rfl, T, hf, .inl ⟨ha, fun dx h1 h2 => k dx h1 h2⟩⟩
/-- BadDeed, made where an error is handled -/
structure ErrH (P : Program) (w : World) (K : PySem.W.Frag) (mg : Str → Option Value) (base : Heap) (C fI : Addr) : Prop where
  ok : ∃ fd, L2H.FnH P w K mg base CX0 1 fI fd ["self", "value"] (spErr K "value") ∧ Binds K fd ["self", "value"] []
theorem ok_read {c : C4} {d : D3} {CS fE f : Addr} {fd : FuncData} (F : Fun K "read" "Deed.read" sRead f fd) (T : TxtB mg) (cOf : CalL P w K mg base 7 "deed_of" (spOf K c d)) (B : ErrC P w K mg base "BadDeed" "value" c.d fE) (BH : ErrH P w K mg base c.d fE) (S : Stow K mg c CS) :
    FnOk P w K mg base (L2.CX P w) 8 f fd ["cls", "text"] (spRd K c d) := by
  obtain ⟨fde, Fe, hbe⟩ := B.ok
  obtain ⟨fdh, Fh, hbh⟩ := BH.ok
  obtain ⟨fo, fdo, pso, Fo, go, ko, bo⟩ := cOf.ex
  refine F.okX scRead (fun vs H Q E h => ?_) (fun cdv A outer s H vs Q E hr h => ?_)
  · obtain ⟨a, v, rfl, _⟩ := h
    rfl
  · obtain ⟨a, v, rfl, h⟩ := h
    refine ⟨_, (pss_cons (ps_if (pt_not (pt_val (pe_callB call_isi (by rfl) T.bisinstance (by decide +kernel) (pa_cons (pv 1) (pa_cons (pe_bltn (v := .ty "str") (by rfl) T.bstr (by decide +kernel) rfl) pa_nil))))) (pss_one (L2.ps_raise rfl (L2.takes_of rfl rfl rfl rfl) (pmk_oex (ds := []) (dvs := []) B.O B.i B.t Fe (hr.mono (by decide)) hbe .nil pass0 rfl B.g (pa_cons (pv 1) pa_nil)))) pss_nil)
      (pss_cons (ps_asg (pe_split (pv 1) pe_str) (pg_star rfl (pgs_cons (pg_name (i := 2) scRead.nd rfl (Or.inl rfl)) (pgs_cons (pg_name (i := 3) scRead.nd rfl (Or.inl rfl)) pgs_nil))))
      (pss_one (L2H.ps_try_onlyX (c := .ref CS) (tb := fun W D σ H => tRet (tCallS (spOf K c d) (WE W) (tCons (tVar 2) (tCons (tVar 3) tNil))) D σ H) (ts := fun _ _ _ D σ H => tMkO c.d (spErr K "value") [] (tCons (tVar 1) tNil) σ H fun cls dd H' => E cls dd H') (Wout := fun cls dd _ H => E cls dd H)
        rfl rfl ⟨rfl, by decide, .inl S.g⟩ (fun hd => L2H.passesAt_of rfl hd) (L2.takes_of rfl rfl rfl rfl)
        (fun W pn xe tkN _ _ => pss_one (ps_ret (pe_callS Fo hr rfl go ko bo (fun σ => L2N.passAt tkN σ) (pa_cons (pv 2) (pa_cons (pv 3) pa_nil)))))
        (fun a oe cls dd pn _ _ tkL hot => pss_one (L2H.ps_raiseHN hot tkL (L2H.pmk5_oexH B.O B.i B.t Fh (L2H.roomH_mark (hr.mono (by decide)) _) hot hbh pass0 rfl B.g (pa_cons (pv 1) pa_nil)))))))), ?_⟩
    rcases (show (∃ z, v = .str z ∧ z.length ≤ 1000 ∧ (Txt.split z " ").length ≤ 60 ∧ ((∃ mk us, DT z mk us ∧ ∀ x H', NewD d H x mk us H' → Q (.ref x) H') ∨ ((∀ mk us, ¬ DT z mk us) ∧ ∀ dd H', Told H dd "value" v H' → E (.ref c.d) (some dd) H'))) ∨ (NoStr K H v ∧ ∀ dd H', Told H dd "value" v H' → E (.ref c.d) (some dd) H') from by
      rcases h with ⟨z, mk, us, e, hz, hl, dt, q⟩ | ⟨⟨z, e, hz, hl, no⟩ | ns, q⟩
      · exact .inl ⟨z, e, hz, hl, .inl ⟨mk, us, dt, q⟩⟩
      · exact .inl ⟨z, e, hz, hl, .inr ⟨no, q⟩⟩
      · exact .inr ⟨ns, q⟩) with ⟨z, rfl, hz, hl, h⟩ | ⟨⟨t, ty, k⟩, q⟩
    · refine ⟨_, rfl, _, _, _, _, true, rfl, .ty "str", .base (.str z), kit_ty (by decide +kernel), true, rfl, iteF ?_⟩
      refine ⟨_, rfl, ⟨z, rfl⟩, z, _, rfl, rfl, by decide +kernel, Nat.le_trans (Nat.add_le_add_right hz 2) (by decide), fun p hp => ?_⟩
      have pos := PyProof.Rows.split_pos z (Str.ofString " ")
      have sh : ∀ a, a ∈ Txt.split z (Str.ofString " ") → a.length ≤ 1000 := fun a ha => Nat.le_trans (PyProof.Rows.part_short ha) hz
      have s1 : Same H (upd H p (.lst ((Txt.split z (Str.ofString " ")).map V.str))) := Same.new hp
      obtain ⟨w0, rest, el⟩ : ∃ w0 rest, Txt.split z (Str.ofString " ") = w0 :: rest := by
        cases e : Txt.split z (Str.ofString " ") with
        | nil => rw [e] at pos; cases pos
        | cons a l => exact ⟨a, l, rfl⟩
      have hl : (Txt.split z (Str.ofString " ")).length ≤ 60 := hl
      rw [el] at hl sh s1
      rw [el]
      have hl : rest.length + 1 ≤ 60 := hl
      have ls : 1000 ≤ sizeLine := by decide
      refine ⟨p, .str w0, rest.map V.str, rfl, SqL.of upd_same, by rw [List.length_map]; omega, fun D hD => ?_⟩
      have s2 : Same H (upd (upd H p (.lst ((w0 :: rest).map V.str))) D (.lst (rest.map V.str))) := s1.trans (Same.new hD)
      refine ⟨_, _, rfl, _, _, rfl, rfl, _, rfl, _, rfl, w0, D, rest, rfl, sh w0 (by simp), SqL.of upd_same, by omega, fun y hy => sh y (List.mem_cons_of_mem _ hy), ?_⟩
      rcases h with ⟨mk, us, ⟨wd, ws, e1, dp⟩, q⟩ | ⟨no, q⟩
      · have e2 := el.symm.trans e1
        injection e2 with e3 e4
        subst e3 e4
        exact .inl ⟨mk, us, dp, fun x H' nd => q x H' ⟨s2.trans nd.1, sameNone s2 nd.2.1, nd.2.2⟩⟩
      · refine .inr ⟨fun mk us dp => no mk us ⟨w0, rest, el, dp⟩, fun C y v2 dd H' hC tl => ⟨true, ?_, fun _ a ha => ?_, fun z => by cases z⟩⟩
        · rcases hC with e | e | e | e <;> subst e
          · exact S.n
          · exact S.t
          · exact S.m
          · exact S.d
        · exact ⟨_, rfl, mkO_of B.O B.v fun d2 H2 t2 => q d2 H2 (t2.old (s2.trans tl.1))⟩
    · exact ⟨_, rfl, _, _, _, _, false, rfl, .ty "str", ty, k, false, rfl, iteT ⟨_, rfl, mkO_of B.O B.v q⟩⟩
end
end K06

set_option Elab.async false
set_option linter.all false
set_option maxRecDepth 100000
set_option maxHeartbeats 4000000
/-! What a deed tells: its names, its room, its text; what it is equal to. -/
namespace NX
open PySem PySem.Spec PyProof.Rows L2
/-- e.f, a property of the object's own class, which is read off the heap -/
def tPropG (K : PySem.W.Frag) (f : Str) (g : Addr) (sp : Sp) (E : XK) (ta : TE) : TE := fun σ H Q => ta σ H fun x H1 => ∃ a C dx fs p, x = .ref a ∧ H1 a = some (.ins C dx fs) ∧ Cls K C ∧ PropOf K C f p g ∧ sp [.ref a] H1 Q E
theorem pe_propG {X : Cx} {CX : CXT} {k : Nat} {g : Addr} {f : Str} {fd : FuncData} {ps : List Str} {sp : Sp} {E : XK} {e : Expr} {pos : Pos} {ta : TE} (he : PE X e ta) (F : FnOk X.prog X.w X.K X.mg X.base CX k g fd ps sp) (hr : Room (k + 1) X.A) (hb : Binds X.K fd ps []) (hx : Passes CX X.nox E)
    (hab : attributeBase e f X.env (eval e X.env) = eval e X.env) : PE X (.Attribute e f pos) (tPropG X.K f g sp E ta) := by
  refine ⟨fun pins s σ H Q I h => ?_⟩
  refine attr_of hab (thn (he.run pins s σ H _ I h) fun u s1 ⟨x, H1, I1, rx, a, C, dx, fs, p, ex, ea, c, hp, q⟩ => ?_)
  subst ex
  obtain rfl : u = Value.ref a := rx
  exact getprop_ok (dvs := []) I1 ea c hp F hr hb .nil hx q
end NX
namespace K06
open PySem L2 NX NU
abbrev sNames : Stmt := inClass (top 28) 1
abbrev sDEq : Stmt := inClass (top 28) 4
abbrev sDStr : Stmt := inClass (top 28) 5
theorem scNames : FnScope ["self"] ["self"] (defScope sNames) := ⟨rfl, rfl, rfl, by decide +kernel, rfl, by decide +kernel, by decide +kernel⟩
theorem scDEq : FnScope ["self", "other"] ["self", "other"] (defScope sDEq) := ⟨rfl, rfl, rfl, by decide +kernel, rfl, by decide +kernel, by decide +kernel⟩
theorem scDStr : FnScope ["self", "words"] ["self"] (defScope sDStr) := ⟨rfl, rfl, rfl, by decide +kernel, rfl, by decide +kernel, by decide +kernel⟩
/-- a deed at x -/
structure IsD (c : D3) (H : Hp) (x : Addr) (mk : Option Str) (us ys : List Str) : Prop where
  dd : Dd H x (c.of mk us) us (mkV mk) ys
  nu : ∀ z ∈ us, z.length ≤ 1000 ∧ nm z = true
  nm_ : ∀ m, mk = some m → m.length ≤ 1000 ∧ nm m = true
  few : us.length ≤ 3
  asc : Asc ys (mk.toList ++ us)
theorem Dd.same {H H' : Hp} {x C : Addr} {us ys : List Str} {v : V} (s : Same H H') (h : Dd H x C us v ys) : Dd H' x C us v ys := by
  obtain ⟨dx, p, q, a, b, c⟩ := h
  exact ⟨dx, p, q, s _ _ a, s _ _ b, s _ _ c⟩
theorem IsD.same {c : D3} {H H' : Hp} {x : Addr} {mk : Option Str} {us ys : List Str} (s : Same H H') (h : IsD c H x mk us ys) : IsD c H' x mk us ys := ⟨h.dd.same s, h.nu, h.nm_, h.few, h.asc⟩
/-- what the classes of deeds say of their methods -/
structure DMeth (K : PySem.W.Frag) (C fN pN fR pR fEq fSt : Addr) : Prop where
  c : DCls K C
  nm_ : PropOf K C "names" pN fN
  rm : PropOf K C "room" pR fR
  eq : NX.EqC K C fEq
theorem of3 {c : D3} {mk : Option Str} {us : List Str} {φ : Addr → Prop} (h1 : φ c.u) (h2 : φ c.m) (h3 : φ c.d) : φ (c.of mk us) := by
  match mk, us with
  | none, _ => exact h1
  | some _, [] => exact h2
  | some _, _ :: _ => exact h3
def spNames (K : PySem.W.Frag) (c : D3) : Sp := fun vs H Q _ => ∃ x mk us ys, vs = [.ref x] ∧ IsD c H x mk us ys ∧ ∀ q, H q = some (.tup (ys.map V.str)) → Q (.ref q) H
def deedW : Option Str → List Str → List Str
  | none, us => "use" :: us
  | some m, [] => ["make", m]
  | some m, us => "do" :: m :: us
def deedT (mk : Option Str) (us : List Str) : Str := Txt.join (Str.ofString " ") (deedW mk us)
def spDStr (c : D3) : Sp := fun vs H Q _ => ∃ x mk us ys, vs = [.ref x] ∧ IsD c H x mk us ys ∧ ∀ H', Same H H' → Q (.str (deedT mk us)) H'
def spDEq (K : PySem.W.Frag) (c : D3) (CD : Addr) : Sp := fun vs H Q _ => ∃ (x : Addr) (mk : Option Str) (us ys : List Str) (y : V), vs = [.ref x, y] ∧ IsD c H x mk us ys ∧
  ((∃ x2 mk2 us2 ys2, y = .ref x2 ∧ IsD c H x2 mk2 us2 ys2 ∧ Q (.bl (decide (us = us2) && decide (mk = mk2))) H) ∨ (∃ t, TyX K H y t ∧ PySem.W.kitOne K t (.ref CD) = some false ∧ Q (.bl false) H))
section
variable {P : Program} {w : World} {K : PySem.W.Frag} {mg : Str → Option Value} {base : Heap}
structure D3C (K : PySem.W.Frag) (c : D3) : Prop where
  u : DCls K c.u
  m : DCls K c.m
  d : DCls K c.d
theorem D3C.at_ {c : D3} (k : D3C K c) (mk : Option Str) (us : List Str) : DCls K (c.of mk us) := of3 k.u k.m k.d
theorem ok_names {c : D3} {f : Addr} {fd : FuncData} (F : Fun K "names" "Deed.names" sNames f fd) (k : D3C K c) : FnOk P w K mg base CX0 1 f fd ["self"] (spNames K c) := by
  refine F.ok scNames (fun vs H Q E h => ?_) (fun cdv A outer s H vs Q E hr h => ?_)
  · obtain ⟨x, mk, us, ys, rfl, _⟩ := h
    rfl
  · obtain ⟨x, mk, us, ys, rfl, hD, q⟩ := h
    have kc := k.at_ mk us
    obtain ⟨dx, p, r, h1, h2, h3⟩ := hD.dd
    exact ⟨_, (pss_one (ps_ret (pe_fld (pv 0) rfl))), _, rfl, x, _, dx, _, _, rfl, h1, kc.cl, kc.nn, rfl, q r h3⟩
theorem deedW_le {mk : Option Str} {us : List Str} : (deedW mk us).length ≤ us.length + 2 := by
  match mk, us with
  | none, us => show us.length + 1 ≤ _; omega
  | some m, [] => exact Nat.le_refl _
  | some m, z :: us => exact Nat.le_refl _
theorem deedW_short {mk : Option Str} {us : List Str} (h1 : ∀ z ∈ us, z.length ≤ 6) (h2 : ∀ m, mk = some m → m.length ≤ 6) : ∀ z ∈ deedW mk us, z.length ≤ 6 := by
  have k1 : ("use" : Str).length ≤ 6 := by decide +kernel
  have k2 : ("make" : Str).length ≤ 6 := by decide +kernel
  have k3 : ("do" : Str).length ≤ 6 := by decide +kernel
  intro z hz
  match mk, us, hz with
  | none, us, hz =>
    rcases List.mem_cons.mp hz with e | e
    · rw [e]; exact k1
    · exact h1 z e
  | some m, [], hz =>
    rcases List.mem_cons.mp hz with e | e
    · rw [e]; exact k2
    · rw [List.mem_singleton.mp e]; exact h2 m rfl
  | some m, y :: us, hz =>
    rcases List.mem_cons.mp hz with e | e
    · rw [e]; exact k3
    · rcases List.mem_cons.mp e with e | e
      · rw [e]; exact h2 m rfl
      · exact h1 z e
theorem sum6 : ∀ {l : List Str}, (∀ z ∈ l, z.length ≤ 6) → (l.map (·.length)).sum ≤ 6 * l.length
  | [], _ => by simp
  | a :: r, h => by
    have h1 := h a List.mem_cons_self
    have h2 := sum6 (l := r) fun z hz => h z (List.mem_cons_of_mem _ hz)
    simp only [List.map_cons, List.sum_cons, List.length_cons] at *
    omega
theorem nm_le {z : Str} (h : nm z = true) : 1 ≤ z.length ∧ z.length ≤ 6 := by
  unfold nm at h
  rw [Bool.and_eq_true, Bool.and_eq_true, decide_eq_true_eq, decide_eq_true_eq] at h
  exact ⟨h.1, h.2.1⟩
theorem ok_dstr {c : D3} {f : Addr} {fd : FuncData} (F : Fun K "__str__" "Deed.__str__" sDStr f fd) (k : D3C K c) : FnOk P w K mg base CX0 1 f fd ["self"] (spDStr c) := by
  refine F.ok scDStr (fun vs H Q E h => ?_) (fun cdv A outer s H vs Q E hr h => ?_)
  · obtain ⟨x, mk, us, ys, rfl, _⟩ := h
    rfl
  · obtain ⟨x, mk, us, ys, rfl, hD, q⟩ := h
    have kc := k.at_ mk us
    obtain ⟨dx, p, r, g1, g2, g3⟩ := id hD.dd
    refine ⟨_, (C8.pss_cut (ps_if (pt_cmpR op_isN (pe_fld (pv 0) rfl) pe_non (nomark _)) (pss_one (ps_set (i := 1) scDStr.nd rfl (Or.inl rfl) (pe_lst (pa_cons pe_str (StX.pa_star (pe_fld (pv 0) rfl) pa_nil)))))
      (pss_one (ps_if (pt_truth (pe_fld (pv 0) rfl) (by intro _; rfl)) (pss_one (ps_set (i := 1) scDStr.nd rfl (Or.inl rfl) (pe_lst (pa_cons pe_str (pa_cons (pe_fld (pv 0) rfl) (StX.pa_star (pe_fld (pv 0) rfl) pa_nil))))))
        (pss_one (ps_set (i := 1) scDStr.nd rfl (Or.inl rfl) (pe_lst (pa_cons pe_str (pa_cons (pe_fld (pv 0) rfl) pa_nil))))))))
      (pss_one (ps_ret (pe_join pe_str (pv 1))))), ?_⟩
    have few := hD.few
    have z100 : (100 : Nat) ≤ sizeLine := by decide
    refine ⟨fun σ H' => ∃ l, σ = [some (.ref x), some (.ref l)] ∧ Same H H' ∧ H' l = some (.lst ((deedW mk us).map V.str)), ?_, ?_⟩
    · match mk, us, hD, g1, g2, few with
      | none, us, hD, g1, g2, few =>
        refine ⟨_, rfl, x, _, dx, _, _, rfl, g1, kc.cl, kc.nk, rfl, rfl, _, rfl, iteT ?_⟩
        refine ⟨_, rfl, x, _, dx, _, _, rfl, g1, kc.cl, kc.nu, rfl, p, _, rfl, .inl (SqT.of g2), ?_⟩
        dsimp only [tNil]
        rw [List.append_nil]
        refine ⟨by show (us.map V.str).length + 1 ≤ sizeLine; rw [List.length_map]; omega, fun l hl => ⟨l, rfl, Same.new hl, upd_same⟩⟩
      | some m, [], hD, g1, g2, few =>
        refine ⟨_, rfl, x, _, dx, _, _, rfl, g1, kc.cl, kc.nk, rfl, rfl, _, rfl, iteF ?_⟩
        refine ⟨_, rfl, x, _, dx, _, _, rfl, g1, kc.cl, kc.nu, rfl, false, .inr (.inl ⟨_, SqT.of g2, rfl⟩), iteF ?_⟩
        exact ⟨_, rfl, x, _, dx, _, _, rfl, g1, kc.cl, kc.nk, rfl, by show 2 ≤ sizeLine; decide, fun l hl => ⟨l, rfl, Same.new hl, upd_same⟩⟩
      | some m, z :: us, hD, g1, g2, few =>
        refine ⟨_, rfl, x, _, dx, _, _, rfl, g1, kc.cl, kc.nk, rfl, rfl, _, rfl, iteF ?_⟩
        refine ⟨_, rfl, x, _, dx, _, _, rfl, g1, kc.cl, kc.nu, rfl, true, .inr (.inl ⟨_, SqT.of g2, rfl⟩), iteT ?_⟩
        refine ⟨_, rfl, x, _, dx, _, _, rfl, g1, kc.cl, kc.nk, rfl, _, rfl, x, _, dx, _, _, rfl, g1, kc.cl, kc.nu, rfl, p, _, rfl, .inl (SqT.of g2), ?_⟩
        dsimp only [tNil]
        rw [List.append_nil]
        refine ⟨by show ((z :: us).map V.str).length + 2 ≤ sizeLine; rw [List.length_map]; omega, fun l hl => ⟨l, rfl, Same.new hl, upd_same⟩⟩
    · rintro σ H' ⟨l, rfl, s1, hl⟩
      have e1 : (Str.ofString " ").length = 1 := by decide +kernel
      have k1 := deedW_le (mk := mk) (us := us)
      have k2 := sum6 (deedW_short (mk := mk) (us := us) (fun z hz => (nm_le (hD.nu z hz).2).2) fun m e => (nm_le (hD.nm_ m e).2).2)
      exact ⟨⟨_, rfl⟩, _, rfl, _, l, deedW mk us, rfl, rfl, .inl (SqL.of hl), by rw [e1]; omega, q H' s1⟩
/-- tuples of texts, as data -/
theorem eqvTup : ∀ (us vs : List Str), PyData.eqv (.tuple (us.map PyData.str)) (.tuple (vs.map PyData.str)) = decide (us = vs)
  | [], [] => rfl
  | [], b :: vs => rfl
  | a :: us, [] => rfl
  | a :: us, b :: vs => by
    have h := eqvTup us vs
    have e : PyData.eqv (.tuple ((a :: us).map PyData.str)) (.tuple ((b :: vs).map PyData.str)) = ((a == b) && PyData.eqv (.tuple (us.map PyData.str)) (.tuple (vs.map PyData.str))) := rfl
    rw [e, h, Bool.eq_iff_iff, Bool.and_eq_true, beq_iff_eq, decide_eq_true_eq, decide_eq_true_eq, List.cons.injEq]
/-- names have small signs -/
theorem nm_okS {z : Str} (h : nm z = true) : ∀ ch ∈ z.cps.toList, ch < 256 := fun ch hc => by
  unfold nm at h
  rw [Bool.and_eq_true, Bool.and_eq_true, List.all_eq_true] at h
  have z := h.2.2 ch hc
  unfold lett at z
  rw [Bool.and_eq_true, decide_eq_true_eq, decide_eq_true_eq] at z
  omega
theorem strOk_of {a : Str} (h : ∀ ch ∈ a.cps.toList, ch < 256) : PyData.strOk a = true := by
  show a.cps.all (fun x => decide (x < 1114112)) = true
  rw [← Array.all_toList, List.all_eq_true]
  exact fun c hc => decide_eq_true (Nat.lt_trans (h c hc) (by decide))
theorem canTup : ∀ {us : List Str}, (∀ z ∈ us, nm z = true) → PyData.canLayAll0 (us.map PyData.str) = true
  | [], _ => rfl
  | a :: r, h => by
    have h1 := strOk_of (nm_okS (h a List.mem_cons_self))
    have h2 := canTup (us := r) fun z hz => h z (List.mem_cons_of_mem _ hz)
    show (PyData.strOk a && PyData.canLayAll0 (r.map PyData.str)) = true
    rw [h1, h2]
    rfl
theorem depTup : ∀ us : List Str, PyData.depthAll (us.map PyData.str) ≤ 1
  | [] => by decide
  | a :: r => by
    have h := depTup r
    show max _ _ ≤ 1
    exact Nat.max_le.mpr ⟨by show 0 ≤ 1; exact Nat.zero_le _, h⟩
theorem shapedTup {us : List Str} (h : ∀ z ∈ us, nm z = true) : SeqAt.shaped (.tuple (us.map PyData.str)) = true := by
  have h1 := canTup h
  have h2 := depTup us
  unfold SeqAt.shaped
  rw [Bool.and_eq_true, decide_eq_true_eq]
  refine ⟨h1, ?_⟩
  show _ + 1 ≤ 64
  omega
theorem dpTup {K : PySem.W.Frag} {H : Hp} : ∀ us : List Str, DpAll K H (us.map V.str) (us.map PyData.str)
  | [] => .nil
  | a :: r => .cons (.str _) (dpTup r)
theorem mkV_inj {a b : Option Str} : decide (mkV a = mkV b) = decide (a = b) := by
  rw [Bool.eq_iff_iff, decide_eq_true_eq, decide_eq_true_eq]
  refine ⟨fun h => ?_, fun h => by rw [h]⟩
  match a, b, h with
  | none, none, _ => rfl
  | some x, some y, h => injection h with h; rw [h]
  | none, some y, h => cases h
  | some x, none, h => cases h
structure DTy (K : PySem.W.Frag) (c : D3) (CD : Addr) : Prop where
  sp : PySem.W.specialIn K (.builtin "object.__class__") "__get__" = some (some (.builtin "getset_descriptor.__get__"))
  tk : PySem.W.takesIn K (.builtin "object.__class__") = some true
  cu : PySem.W.findIn K (.ref c.u) "__class__" = some (some (.builtin "object.__class__")) ∧ PySem.W.mroIn K c.u (.type "object") = some true
  cm : PySem.W.findIn K (.ref c.m) "__class__" = some (some (.builtin "object.__class__")) ∧ PySem.W.mroIn K c.m (.type "object") = some true
  cd : PySem.W.findIn K (.ref c.d) "__class__" = some (some (.builtin "object.__class__")) ∧ PySem.W.mroIn K c.d (.type "object") = some true
  ku : PySem.W.kitOne K (.ref c.u) (.ref CD) = some true
  km : PySem.W.kitOne K (.ref c.m) (.ref CD) = some true
  kd : PySem.W.kitOne K (.ref c.d) (.ref CD) = some true
theorem DTy.ty {c : D3} {CD : Addr} (t : DTy K c CD) (k : D3C K c) {H : Hp} {x : Addr} {mk : Option Str} {us ys : List Str} (h : IsD c H x mk us ys) : TyX K H (.ref x) (.ref (c.of mk us)) := by
  obtain ⟨dx, p, q, h1, h2, h3⟩ := h.dd
  have z := of3 (c := c) (mk := mk) (us := us) (φ := fun C => PySem.W.findIn K (.ref C) "__class__" = some (some (.builtin "object.__class__")) ∧ PySem.W.mroIn K C (.type "object") = some true) t.cu t.cm t.cd
  exact .base (.ins h1 (k.at_ mk us).cl z.1 t.sp t.tk z.2)
theorem ok_deq {c : D3} {CD : Addr} {f : Addr} {fd : FuncData} (F : Fun K "__eq__" "Deed.__eq__" sDEq f fd) (T : TxtB mg) (k : D3C K c) (t : DTy K c CD) (gD : mg "Deed" = some (.ref CD)) : FnOk P w K mg base CX0 1 f fd ["self", "other"] (spDEq K c CD) := by
  refine F.ok scDEq (fun vs H Q E h => ?_) (fun cdv A outer s H vs Q E hr h => ?_)
  · obtain ⟨x, mk, us, ys, y, rfl, _⟩ := h
    rfl
  · obtain ⟨x, mk, us, ys, y, rfl, hD, h⟩ := h
    have kc := k.at_ mk us
    obtain ⟨dx, p, r, g1, g2, g3⟩ := id hD.dd
    refine ⟨_, (pss_one (ps_ret (pe_and (pe_callB call_isi (by rfl) T.bisinstance (by decide +kernel) (pa_cons (pv 1) (pa_cons (C8.pe_gc (v := .ref CD) rfl ⟨_, gD, rfl⟩) pa_nil))) (pe_and (pe_cmpR (op_eqD hr.units) (pe_fld (pv 0) rfl) (pe_fld (pv 1) rfl) (nomark _)) (pe_one (pe_cmpR op_eq (pe_fld (pv 0) rfl) (pe_fld (pv 1) rfl) (nomark _))))))), ?_⟩
    rcases h with ⟨x2, mk2, us2, ys2, rfl, hD2, q⟩ | ⟨ty, hty, kt, q⟩
    · have kc2 := k.at_ mk2 us2
      obtain ⟨dx2, p2, r2, f1, f2, f3⟩ := id hD2.dd
      have kk := of3 (c := c) (mk := mk2) (us := us2) (φ := fun C => PySem.W.kitOne K (.ref C) (.ref CD) = some true) t.ku t.km t.kd
      refine ⟨_, rfl, _, _, _, _, true, rfl, .own CD, t.ty k hD2, kk, true, rfl, iteT ?_⟩
      refine ⟨_, rfl, x, _, dx, _, _, rfl, g1, kc.cl, kc.nu, rfl, _, rfl, x2, _, dx2, _, _, rfl, f1, kc2.cl, kc2.nu, rfl, _, _, .tup (SqT.of g2) (dpTup us), .tup (SqT.of f2) (dpTup us2), shapedTup (fun z hz => (hD.nu z hz).2), shapedTup (fun z hz => (hD2.nu z hz).2), ?_⟩
      rw [eqvTup]
      refine ⟨_, rfl, ite2 (fun h1 => ?_) (fun h1 => ?_)⟩
      · refine ⟨_, rfl, x, _, dx, _, _, rfl, g1, kc.cl, kc.nk, rfl, _, rfl, x2, _, dx2, _, _, rfl, f1, kc2.cl, kc2.nk, rfl, ?_⟩
        refine ⟨?_, ?_⟩
        · cases mk <;> cases mk2 <;> rfl
        · have e := mkV_inj (a := mk) (b := mk2)
          rw [h1, Bool.true_and] at q
          rw [← e] at q
          exact q
      · rw [Bool.eq_false_iff.mpr h1] at q
        exact q
    · exact ⟨_, rfl, _, _, _, _, false, rfl, .own CD, hty, kt, false, rfl, iteF q⟩
end
end K06

set_option Elab.async false
set_option linter.all false
set_option maxRecDepth 100000
set_option maxHeartbeats 4000000
/-! The law's draws: some of a pool, names. -/
namespace K06
open PySem L2 NX NU
abbrev sSome : Stmt := top 73
abbrev sLNames : Stmt := top 74
theorem scSome : FnScope ["_law_pen_here", "_law_pool", "_law_least", "_law_most", "_law_left", "_law_many_here", "_law_lap"] ["_law_pen_here", "_law_pool", "_law_least", "_law_most"] (defScope sSome) := ⟨rfl, rfl, rfl, by decide +kernel, rfl, by decide +kernel, by decide +kernel⟩
theorem scLNames : FnScope ["_law_pen_here", "_law_many_here", "_law_pools"] ["_law_pen_here", "_law_many_here"] (defScope sLNames) := ⟨rfl, rfl, rfl, by decide +kernel, rfl, by decide +kernel, by decide +kernel⟩
theorem sqL_same {K : PySem.W.Frag} {H H' : Hp} {a : Addr} {xs : List V} (s : Same H H') (h : SqL K H a xs) : SqL K H' a xs := by
  rcases h with (h | ⟨o, h⟩) | h
  · exact .inl (.inl (s _ _ h))
  · exact .inl (.inr ⟨o, s _ _ h⟩)
  · exact .inr h
theorem samePut {H H' : Hp} {D : Addr} {o : HO} (s : Same H H') (h : H D = none) : Same H (upd H' D o) := fun b u hb => by
  rw [upd_ne (ne_of_none hb h)]
  exact s b u hb
/-- some of ws, each once, in any order -/
def Part (ws xs : List Str) : Prop := ∃ left, (xs ++ left).Perm ws
def spSome (K : PySem.W.Frag) : Sp := fun vs H Q _ => ∃ (p c : Addr) (ns : List Int) (at_ rest : Int) (l : Addr) (ws : List Str) (least most : Nat), vs = [.ref p, .ref l, .int (least : Int), .int (most : Int)] ∧ Pen H p c ns at_ rest ∧ at_ ≤ 900000 ∧ SqL K H l (ws.map V.str) ∧ ws.length ≤ 100 ∧ least ≤ most ∧ least ≤ ws.length ∧
  ∀ r xs H', H r = none → H' r = some (.lst (xs.map V.str)) → Part ws xs → least ≤ xs.length → xs.length ≤ most → Drawn H p c ns (at_ + 1 + ws.length) H' → Q (.ref r) H'
def rLen (K : PySem.W.Frag) : List V → Hp → VK → Prop := fun xs H Q => ∃ p ys, xs = [.ref p] ∧ (SqL K H p ys ∨ SqT K H p ys) ∧ Q (.int ys.length) H
/-- what stands while some is drawn -/
structure SomeI (H H' : Hp) (p c : Addr) (ns : List Int) (m : Int) (e D : Addr) (ws xs : List Str) : Prop where
  pen : ∃ a r, Pen H' p c ns a r ∧ a ≤ m
  but : But p H H'
  ex : ∃ left : List Str, H' e = some (.lst (left.map V.str)) ∧ (xs ++ left).Perm ws
  hD : H' D = some (.lst (xs.map V.str))
theorem seqIx {j n : Nat} (h : j < n) : seqIndex? (j : Int) n = some j := by
  unfold seqIndex?
  simp
  omega
theorem erase_map : ∀ (l : List Str) (j : Nat), (l.map V.str).eraseIdx j = (l.eraseIdx j).map V.str
  | [], _ => rfl
  | a :: l, 0 => rfl
  | a :: l, j + 1 => congrArg (V.str a :: ·) (erase_map l j)
theorem perm_pop : ∀ {left : List Str} {j : Nat} (h : j < left.length), (left[j] :: left.eraseIdx j).Perm left
  | a :: l, 0, _ => List.Perm.refl _
  | a :: l, j + 1, h => by
    have hj : j < l.length := by simpa using h
    exact (List.Perm.swap a l[j] (l.eraseIdx j)).trans ((perm_pop hj).cons a)
section
variable {P : Program} {w : World} {K : PySem.W.Frag} {mg : Str → Option Value} {base : Heap}
theorem ok_some {f : Addr} {fd : FuncData} (F : Fun K "_law_some" "_law_some" sSome f fd) (T : TxtB mg) (bmin : mg "min" = none) (cDraw : C8.Cal P w K mg base 1 "_law_draw" spDraw []) : FnOk P w K mg base CX0 2 f fd ["_law_pen_here", "_law_pool", "_law_least", "_law_most"] (spSome K) := by
  refine F.ok scSome (fun vs H Q E h => ?_) (fun cdv A outer s H vs Q E hr h => ?_)
  · obtain ⟨p, c, ns, a, r, l, ws, x, y, rfl, _⟩ := h
    rfl
  · obtain ⟨p, c, ns, at_, rest, l, ws, least, most, rfl, Pn, ha, hS, h100, hlm, hlw, k⟩ := h
    refine ⟨_, (pss_cons (ps_set (i := 4) scSome.nd rfl (Or.inr rfl) (pe_callTy call_list_of (by rfl) T.blist (by decide +kernel) (pa_cons (pv 1) pa_nil)))
      (pss_cons (ps_set (i := 5) scSome.nd rfl (Or.inl rfl) (pe_op op_add (pv 2) (C8.pe_c cDraw hr (by decide) rfl (pa_cons (pv 0) (pa_cons (pe_op op_add (pe_op op_sub (pe_callB (call_min2 rfl) (by rfl) bmin (by decide +kernel) (pa_cons (pv 3) (pa_cons (pe_callB call_len_seq (by rfl) T.blen (by decide +kernel) (pa_cons (pv 1) pa_nil)) pa_nil))) (pv 2)) pe_int) pa_nil)))))
      (pss_one (ps_ret (pe_lc (own := [("_law_lap", 6)]) (g := gName 6) rfl scSome.nd (pi_range1 (by rfl) T.brange (pa_cons (pv 5) pa_nil)) (blkOk_by (own := [("_law_lap", 6)]) (N := ["_law_pen_here", "_law_pool", "_law_least", "_law_most", "_law_left", "_law_many_here", "_law_lap"]) (sc := defScope sSome) (by decide +kernel)) (fun _ _ _ _ _ => (pg_name (i := 6) scSome.nd rfl (Or.inl rfl))) (fun _ _ _ _ _ => pts_nil)
        (fun _ _ _ _ _ => (show PE _ _ (tBM K "list" rPopAt (tVar 4) (tCons (tCall spDraw [] C8.E0 (tCons (tVar 0) (tCons (tCB (rLen K) (tCons (tVar 4) tNil)) tNil))) tNil)) from pe_bm PySem.F.plainAttrs_list PySem.F.slot_list_pop PySem.F.type_list_pop mt_popAt (pv 4) (pa_cons (C8.pe_c cDraw hr (by decide) rfl (pa_cons (pv 0) (pa_cons (pe_callB (show CallR _ (.builtin "len") (rLen K) from call_len_seq) (by rfl) T.blen (by decide +kernel) (pa_cons (pv 4) pa_nil)) pa_nil))) pa_nil)))))))), ?_⟩
    refine ⟨_, rfl, l, _, rfl, .inl hS, fun e he => ?_⟩
    have s1 : Same H (upd H e (.lst (ws.map V.str))) := Same.new he
    have P1 := Pn.same s1
    have hl1 := sqL_same s1 hS
    have he1 : (upd H e (.lst (ws.map V.str))) e = some (.lst (ws.map V.str)) := upd_same
    have ep : e ≠ p := fun z => by rw [z, Pn.hp] at he; cases he
    have ec : e ≠ c := fun z => by rw [z, Pn.hc] at he; cases he
    generalize (upd H e (.lst (ws.map V.str))) = H1 at *
    refine ⟨_, rfl, _, rfl, _, rfl, _, rfl, l, _, rfl, .inl hl1, _, _, rfl, _, rfl, _, _, rfl, rfl, _, _, rfl, rfl, ?_⟩
    have hmn : (if ((ws.map V.str).length : Int) < (most : Int) then ((ws.map V.str).length : Int) else (most : Int)) = ((min ws.length most : Nat) : Int) := by
      rw [List.length_map]
      split <;> omega
    rw [hmn]
    refine ⟨p, c, ns, at_, rest, _, rfl, P1, by omega, by omega, by omega, fun d H2 d0 d1 hd => ?_⟩
    obtain ⟨dn, rfl⟩ := Int.eq_ofNat_of_zero_le d0
    obtain ⟨at2, rest2, P2, l2, B2⟩ := hd
    have he2 := B2 _ _ he1 ep
    have B02 : But p H H2 := (But.same s1).trans B2
    refine ⟨_, _, rfl, rfl, ?_⟩
    refine ⟨_, rfl, _, rfl, by omega, by omega, ?_⟩
    have et : ((least : Int) + (dn : Int)).toNat = least + dn := by omega
    rw [et]
    intro D hD
    have Dp : D ≠ p := fun z => by rw [z, P2.hp] at hD; cases hD
    have Dc : D ≠ c := fun z => by rw [z, P2.hc] at hD; cases hD
    have De : e ≠ D := fun z => by rw [← z, he2] at hD; cases hD
    have hle : least + dn ≤ ws.length := by omega
    have HD0 : H D = none := by
      cases q : H D with
      | none => rfl
      | some o =>
        rw [B02 _ _ q Dp] at hD
        cases hD
    have z100 : (200 : Nat) ≤ sizeLine := by decide
    refine lc_range (lo := 0) (n := least + dn) (fun i H' => ∃ xs, xs.length = i ∧ SomeI H H' p c ns (at_ + 1 + i) e D ws xs) ?_ ?_ ?_
    · refine ⟨[], rfl, ⟨at2, rest2, ⟨(upd_ne (Ne.symm Dp)).trans P2.hp, (upd_ne (Ne.symm Dc)).trans P2.hc, P2.la, P2.lr⟩, by omega⟩, fun b o hb n => ?_, ⟨ws, (upd_ne De).trans he2, List.Perm.refl _⟩, upd_same⟩
      rw [upd_ne (fun z => by rw [z, HD0] at hb; cases hb)]
      exact B02 b o hb n
    · rintro i H' hi ⟨xs, hx, ⟨⟨a, r, P3, l3⟩, B3, ⟨left, he3, pm⟩, hD3⟩⟩
      have hlen := pm.length_eq
      rw [List.length_append] at hlen
      have hpos : 0 < left.length := by omega
      refine ⟨rfl, ?_⟩
      unfold tYes
      dsimp only
      rw [if_pos rfl]
      refine ⟨_, rfl, .inl ⟨rfl, _, SqL.of he3⟩, ?_⟩
      refine ⟨_, rfl, _, rfl, e, _, rfl, .inl (SqL.of he3), ?_⟩
      rw [List.length_map]
      refine ⟨p, c, ns, a, r, _, rfl, P3, by omega, by omega, by omega, fun d H4 d0 d1 hd => ?_⟩
      obtain ⟨j, rfl⟩ := Int.eq_ofNat_of_zero_le d0
      obtain ⟨a4, r4, P4, l4, B4⟩ := hd
      have hj : j < left.length := by omega
      have he4 := B4 _ _ he3 ep
      have hD4 := B4 _ _ hD3 Dp
      refine ⟨e, _, _, j, .str left[j], rfl, rfl, he4, by omega, by omega, seqIx (by rw [List.length_map]; exact hj), by rw [List.getElem?_map, List.getElem?_eq_getElem hj]; rfl, ?_⟩
      have eE : (left.map V.str).eraseIdx j = (left.eraseIdx j).map V.str := erase_map left j
      rw [eE]
      have HE0 : ∀ b o, H b = some o → b ≠ e := fun b o hb z => by rw [z, he] at hb; cases hb
      refine ⟨_, (upd_ne (Ne.symm De)).trans hD4, by rw [List.length_map]; omega, xs ++ [left[j]], by rw [List.length_append, hx]; rfl, ⟨a4, r4, ⟨?_, ?_, P4.la, P4.lr⟩, by omega⟩, fun b o hb n => ?_, ⟨left.eraseIdx j, ?_, ?_⟩, ?_⟩
      · rw [upd_ne (Ne.symm Dp), upd_ne (Ne.symm ep)]
        exact P4.hp
      · rw [upd_ne (Ne.symm Dc), upd_ne (Ne.symm ec)]
        exact P4.hc
      · rw [upd_ne (fun z => by rw [z, HD0] at hb; cases hb), upd_ne (HE0 b o hb)]
        exact B4 b o (B3 b o hb n) n
      · rw [upd_ne De]
        exact upd_same
      · rw [List.append_assoc]
        exact (List.Perm.append_left xs (perm_pop hj)).trans pm
      · rw [upd_same, List.map_append]
        rfl
    · rintro H' ⟨xs, hx, ⟨⟨a, r, P3, l3⟩, B3, ⟨left, he3, pm⟩, hD3⟩⟩
      exact k D xs H' HD0 hD3 ⟨left, pm⟩ (by omega) (by omega) ⟨a, r, P3, by omega, B3⟩
end
end K06

set_option Elab.async false
set_option linter.all false
set_option maxRecDepth 100000
set_option maxHeartbeats 4000000
/-! The law's names. -/
namespace K06
open PySem L2 NX NU
def poolA : List Str := ["a", "b", "c", "d", "e", "f"]
def poolB : List Str := ["x", "xy", "xyz", "xyzz", "xyzzz", "xyzzzz"]
def poolC : List Str := ["use", "make", "do", "loop", "end", "given"]
def poolD : List Str := ["zzzzzz", "aaaaaa", "azazaz", "z", "again", "store"]
theorem pools_ok : [poolA, poolB, poolC, poolD].all (fun l => decide (l.length = 6) && decide l.Nodup && l.all (fun z => nm z)) = true := by decide +kernel
theorem pool_at {l : List Str} (h : l ∈ [poolA, poolB, poolC, poolD]) : l.length = 6 ∧ l.Nodup ∧ ∀ z ∈ l, nm z = true := by
  have q := List.all_eq_true.mp pools_ok l h
  rw [Bool.and_eq_true, Bool.and_eq_true, decide_eq_true_eq, decide_eq_true_eq, List.all_eq_true] at q
  exact ⟨q.1.1, q.1.2, q.2⟩
theorem Part.mem {ws xs : List Str} (h : Part ws xs) : ∀ z ∈ xs, z ∈ ws := fun z hz => by
  obtain ⟨left, pm⟩ := h
  exact pm.subset (List.mem_append_left _ hz)
theorem Part.nodup {ws xs : List Str} (h : Part ws xs) (n : ws.Nodup) : xs.Nodup := by
  obtain ⟨left, pm⟩ := h
  have := pm.nodup_iff.mpr n
  exact (List.nodup_append.mp this).1
/-- names, each once -/
def Uni (xs : List Str) : Prop := xs.Nodup ∧ ∀ z ∈ xs, nm z = true
def spLNames : Sp := fun vs H Q _ => ∃ (p c : Addr) (ns : List Int) (at_ rest : Int) (m : Nat), vs = [.ref p, .int (m : Int)] ∧ 1 ≤ m ∧ m ≤ 6 ∧ Pen H p c ns at_ rest ∧ at_ ≤ 800000 ∧
  ∀ r xs H', H r = none → H' r = some (.lst (xs.map V.str)) → Uni xs → xs.length = m → Drawn H p c ns (at_ + 10) H' → Q (.ref r) H'
section
variable {P : Program} {w : World} {K : PySem.W.Frag} {mg : Str → Option Value} {base : Heap}
theorem ok_lnames {f : Addr} {fd : FuncData} (F : Fun K "_law_names" "_law_names" sLNames f fd) (cPick : C8.Cal P w K mg base 2 "_law_pick" (spPick K) []) (cSome : C8.Cal P w K mg base 2 "_law_some" (spSome K) []) : FnOk P w K mg base CX0 3 f fd ["_law_pen_here", "_law_many_here"] spLNames := by
  refine F.ok scLNames (fun vs H Q E h => ?_) (fun cdv A outer s H vs Q E hr h => ?_)
  · obtain ⟨p, c, ns, a, r, m, rfl, _⟩ := h
    rfl
  · obtain ⟨p, c, ns, at_, rest, m, rfl, hm1, hm6, Pn, ha, k⟩ := h
    refine ⟨_, (pss_cons (ps_set (i := 2) scLNames.nd rfl (Or.inl rfl) (pe_lst (pa_cons (pe_lst (pa_cons pe_str (pa_cons pe_str (pa_cons pe_str (pa_cons pe_str (pa_cons pe_str (pa_cons pe_str pa_nil))))))) (pa_cons (pe_lst (pa_cons pe_str (pa_cons pe_str (pa_cons pe_str (pa_cons pe_str (pa_cons pe_str (pa_cons pe_str pa_nil))))))) pa_nil))))
      (pss_cons (ps_expr (pe_bm PySem.F.plainAttrs_list PySem.F.slot_list_append PySem.F.type_list_append mt_append (pv 2) (pa_cons (pe_lst (pa_cons pe_str (pa_cons pe_str (pa_cons pe_str (pa_cons pe_str (pa_cons pe_str (pa_cons pe_str pa_nil))))))) pa_nil)))
      (pss_cons (ps_expr (pe_bm PySem.F.plainAttrs_list PySem.F.slot_list_append PySem.F.type_list_append mt_append (pv 2) (pa_cons (pe_lst (pa_cons pe_str (pa_cons pe_str (pa_cons pe_str (pa_cons pe_str (pa_cons pe_str (pa_cons pe_str pa_nil))))))) pa_nil)))
      (pss_one (ps_ret (C8.pe_c cSome hr (by decide) rfl (pa_cons (pv 0) (pa_cons (C8.pe_c cPick hr (by decide) rfl (pa_cons (pv 0) (pa_cons (pv 2) pa_nil))) (pa_cons (pv 1) (pa_cons (pv 1) pa_nil)))))))))), ?_⟩
    refine ⟨by show 6 ≤ sizeLine; decide, fun a1 h1 => ⟨by show 6 ≤ sizeLine; decide, fun a2 h2 => ⟨by show 2 ≤ sizeLine; decide, fun l h3 => ?_⟩⟩⟩
    have eA : poolA.map V.str = [V.str (Str.ofString "a"), V.str (Str.ofString "b"), V.str (Str.ofString "c"), V.str (Str.ofString "d"), V.str (Str.ofString "e"), V.str (Str.ofString "f")] := rfl
    have eB : poolB.map V.str = [V.str (Str.ofString "x"), V.str (Str.ofString "xy"), V.str (Str.ofString "xyz"), V.str (Str.ofString "xyzz"), V.str (Str.ofString "xyzzz"), V.str (Str.ofString "xyzzzz")] := rfl
    have eC : poolC.map V.str = [V.str (Str.ofString "use"), V.str (Str.ofString "make"), V.str (Str.ofString "do"), V.str (Str.ofString "loop"), V.str (Str.ofString "end"), V.str (Str.ofString "given")] := rfl
    have eD : poolD.map V.str = [V.str (Str.ofString "zzzzzz"), V.str (Str.ofString "aaaaaa"), V.str (Str.ofString "azazaz"), V.str (Str.ofString "z"), V.str (Str.ofString "again"), V.str (Str.ofString "store")] := rfl
    rw [← eA] at h2
    rw [← eA, ← eB] at h3
    rw [← eA, ← eB]
    have S1 := Same.new (o := .lst (poolA.map V.str)) h1
    have S2 := Same.new (o := .lst (poolB.map V.str)) h2
    have S3 := Same.new (o := .lst [.ref a1, .ref a2]) h3
    have g1 := (S2.trans S3) _ _ (upd_same (H := H) (a := a1) (o := .lst (poolA.map V.str)))
    have g2 := S3 _ _ (upd_same (H := upd H a1 (.lst (poolA.map V.str))) (a := a2) (o := .lst (poolB.map V.str)))
    have gl : (upd (upd (upd H a1 (.lst (poolA.map V.str))) a2 (.lst (poolB.map V.str))) l (.lst [.ref a1, .ref a2])) l = some (.lst [.ref a1, .ref a2]) := upd_same
    have SA := (S1.trans S2).trans S3
    have hl0 : H l = none := sameNone (S1.trans S2) h3
    clear S1 S2 S3 h1 h2 h3
    generalize (upd (upd (upd H a1 (.lst (poolA.map V.str))) a2 (.lst (poolB.map V.str))) l (.lst [.ref a1, .ref a2])) = G1 at *
    refine ⟨_, rfl, .inl ⟨rfl, _, SqL.of gl⟩, by show 6 ≤ sizeLine; decide, fun a3 h3 => ?_⟩
    rw [← eC]
    have S3 := Same.new (o := .lst (poolC.map V.str)) h3
    have n3 : a3 ≠ l := fun z => by rw [z, gl] at h3; cases h3
    have n1 : a1 ≠ l := fun z => by rw [z, gl] at g1; cases g1
    have n2 : a2 ≠ l := fun z => by rw [z, gl] at g2; cases g2
    have g3 : (upd G1 a3 (.lst (poolC.map V.str))) a3 = some (.lst (poolC.map V.str)) := upd_same
    have g1 := S3 _ _ g1
    have g2 := S3 _ _ g2
    have gl := S3 _ _ gl
    have SA := SA.trans S3
    clear S3 h3
    generalize (upd G1 a3 (.lst (poolC.map V.str))) = G2 at *
    refine ⟨l, _, _, rfl, rfl, gl, by show 2 < sizeLine; decide, ?_⟩
    have g1 : (upd G2 l (.lst ([.ref a1, .ref a2] ++ [.ref a3]))) a1 = some (.lst (poolA.map V.str)) := (upd_ne n1).trans g1
    have g2 : (upd G2 l (.lst ([.ref a1, .ref a2] ++ [.ref a3]))) a2 = some (.lst (poolB.map V.str)) := (upd_ne n2).trans g2
    have g3 : (upd G2 l (.lst ([.ref a1, .ref a2] ++ [.ref a3]))) a3 = some (.lst (poolC.map V.str)) := (upd_ne n3).trans g3
    have SA : Same H (upd G2 l (.lst ([.ref a1, .ref a2] ++ [.ref a3]))) := samePut SA hl0
    have gl : (upd G2 l (.lst ([.ref a1, .ref a2] ++ [.ref a3]))) l = some (.lst [.ref a1, .ref a2, .ref a3]) := upd_same
    generalize (upd G2 l (.lst ([.ref a1, .ref a2] ++ [.ref a3]))) = G3 at *
    refine ⟨_, rfl, .inl ⟨rfl, _, SqL.of gl⟩, by show 6 ≤ sizeLine; decide, fun a4 h4 => ?_⟩
    rw [← eD]
    have S4 := Same.new (o := .lst (poolD.map V.str)) h4
    have n4 : a4 ≠ l := fun z => by rw [z, gl] at h4; cases h4
    have g4 : (upd G3 a4 (.lst (poolD.map V.str))) a4 = some (.lst (poolD.map V.str)) := upd_same
    have g1 := S4 _ _ g1
    have g2 := S4 _ _ g2
    have g3 := S4 _ _ g3
    have gl := S4 _ _ gl
    have SA := SA.trans S4
    clear S4 h4
    generalize (upd G3 a4 (.lst (poolD.map V.str))) = G4 at *
    refine ⟨l, _, _, rfl, rfl, gl, by show 3 < sizeLine; decide, ?_⟩
    have g1 : (upd G4 l (.lst ([.ref a1, .ref a2, .ref a3] ++ [.ref a4]))) a1 = some (.lst (poolA.map V.str)) := (upd_ne n1).trans g1
    have g2 : (upd G4 l (.lst ([.ref a1, .ref a2, .ref a3] ++ [.ref a4]))) a2 = some (.lst (poolB.map V.str)) := (upd_ne n2).trans g2
    have g3 : (upd G4 l (.lst ([.ref a1, .ref a2, .ref a3] ++ [.ref a4]))) a3 = some (.lst (poolC.map V.str)) := (upd_ne n3).trans g3
    have g4 : (upd G4 l (.lst ([.ref a1, .ref a2, .ref a3] ++ [.ref a4]))) a4 = some (.lst (poolD.map V.str)) := (upd_ne n4).trans g4
    have SA : Same H (upd G4 l (.lst ([.ref a1, .ref a2, .ref a3] ++ [.ref a4]))) := samePut SA hl0
    have gl : (upd G4 l (.lst ([.ref a1, .ref a2, .ref a3] ++ [.ref a4]))) l = some (.lst [.ref a1, .ref a2, .ref a3, .ref a4]) := upd_same
    generalize (upd G4 l (.lst ([.ref a1, .ref a2, .ref a3] ++ [.ref a4]))) = G5 at *
    have P5 := Pn.same SA
    have lp : l ≠ p := fun z => by rw [z, Pn.hp] at hl0; cases hl0
    refine ⟨_, rfl, _, rfl, _, rfl, p, c, ns, at_, rest, .ref l, rfl, P5, by omega, .inl ⟨l, _, rfl, SqL.of gl, lp, by show 0 < 4; decide, by show 4 < 1000; decide, fun v H6 hv hd => ?_⟩⟩
    obtain ⟨ws, a, rfl, ha5, hws⟩ : ∃ ws a, v = .ref a ∧ G5 a = some (.lst (ws.map V.str)) ∧ ws ∈ [poolA, poolB, poolC, poolD] := by
      simp only [List.mem_cons, List.not_mem_nil, or_false] at hv
      rcases hv with e | e | e | e
      · exact ⟨poolA, a1, e, g1, by simp⟩
      · exact ⟨poolB, a2, e, g2, by simp⟩
      · exact ⟨poolC, a3, e, g3, by simp⟩
      · exact ⟨poolD, a4, e, g4, by simp⟩
    obtain ⟨w6, wn, wk⟩ := pool_at hws
    obtain ⟨a6, r6, P6, l6, B6⟩ := hd
    have ap : a ≠ p := fun z => by
      rw [z, P5.hp] at ha5
      injection ha5 with h
      injection h with h
      cases ws with
      | nil => cases h
      | cons y ys => injection h with h; cases h
    have ha6 := B6 _ _ ha5 ap
    refine ⟨_, rfl, _, rfl, p, c, ns, a6, r6, a, ws, m, m, rfl, P6, by omega, SqL.of ha6, by omega, by omega, by omega, fun r xs H7 hr0 hr7 pt h1 h2 hd7 => ?_⟩
    obtain ⟨a7, r7, P7, l7, B7⟩ := hd7
    have B06 : But p H H6 := (But.same SA).trans B6
    have hrH : H r = none := by
      cases q : H r with
      | none => rfl
      | some o =>
        have rp : r ≠ p := fun z => by rw [z, P6.hp] at hr0; cases hr0
        rw [B06 _ _ q rp] at hr0
        cases hr0
    exact k r xs H7 hrH hr7 ⟨pt.nodup wn, fun z hz => wk z (pt.mem z hz)⟩ (by omega) ⟨a7, r7, P7, by omega, B06.trans B7⟩
end
end K06

set_option Elab.async false
set_option linter.all false
set_option maxRecDepth 100000
set_option maxHeartbeats 4000000
/-! The law's deeds. -/
namespace K06
open PySem L2 NX NU
abbrev sReal : Stmt := top 75
theorem scReal : FnScope ["_law_made", "_law_used"] ["_law_made", "_law_used"] (defScope sReal) := ⟨rfl, rfl, rfl, by decide +kernel, rfl, by decide +kernel, by decide +kernel⟩
/-- what a deed is made of -/
structure LotOk (mk : Option Str) (us : List Str) : Prop where
  u : Uni us
  few : us.length ≤ 3
  m : ∀ z, mk = some z → nm z = true
  some_ : mk = none → 0 < us.length
theorem noRep_of {us : List Str} (h : us.Nodup) : NoRep us := fun i z hz hm => by
  obtain ⟨j, hj, e⟩ := List.mem_iff_getElem.mp hm
  rw [List.getElem_take] at e
  obtain ⟨hi, ez⟩ := List.getElem?_eq_some_iff.mp hz
  have hj' : j < i := by rw [List.length_take] at hj; omega
  have := (List.pairwise_iff_getElem.mp h) j i (by omega) hi hj'
  exact this (by rw [e, ez])
theorem LotOk.nms {mk : Option Str} {us : List Str} (h : LotOk mk us) : Nms us := fun z hz => by
  have q := h.u.2 z hz
  have := nm_le q
  exact ⟨by omega, q⟩
theorem LotOk.nmM {mk : Option Str} {us : List Str} (h : LotOk mk us) {m : Str} (e : mk = some m) : m.length ≤ 1000 ∧ nm m = true := by
  have q := h.m m e
  have := nm_le q
  exact ⟨by omega, q⟩
def NewI (d : D3) (H : Hp) (x : Addr) (mk : Option Str) (us : List Str) (H' : Hp) : Prop := Same H H' ∧ H x = none ∧ ∃ ys, IsD d H' x mk us ys
def spReal (K : PySem.W.Frag) (d : D3) : Sp := fun vs H Q _ => ∃ (l : Addr) (mk : Option Str) (us : List Str), vs = [mkV mk, .ref l] ∧ SqL K H l (us.map V.str) ∧ LotOk mk us ∧ ∀ x H', NewI d H x mk us H' → Q (.ref x) H'
section
variable {P : Program} {w : World} {K : PySem.W.Frag} {mg : Str → Option Value} {base : Heap}
theorem real_use {c : C4} {d : D3} {fU fM fD : Addr} {H : Hp} {us : List Str} {Q : VK} {E : XK} (D : Dcs K mg d fU fM fD) (ok : LotOk none us) (k : ∀ x H', NewI d H x none us H' → Q (.ref x) H') :
    ∀ x dx, H x = none → H dx = none → dx ≠ x → spUse K c (V.ref x :: us.map V.str) (upd (upd H dx (.own x)) x (.ins d.u dx [])) (fun v H2 => v = .non ∧ Q (.ref x) H2) E := by
  intro x dx h1 h2 h3
  have s1 := made2 (C := d.u) h1 h2 h3
  have lz : 60 ≤ sizeLine := by decide
  have few := ok.few
  refine ⟨[.ref x], us.map V.str, rfl, rfl, by rw [List.length_map]; omega, fun p hp => ?_⟩
  have s2 := s1.trans (Same.new (o := .tup (us.map V.str)) hp)
  have px : x ≠ p := fun e => by rw [← e, upd_same] at hp; cases hp
  refine ⟨x, d.u, dx, p, us.map V.str, none, rfl, D.du, (upd_ne px).trans upd_same, upd_same, by rw [List.length_map]; omega, .rest rfl ok.nms (.ok (noRep_of ok.u.1) (ok.some_ rfl) few), fun ws ys H2 e asc but dd => ?_⟩
  have e : us = ws := map_str e
  subst e
  have s3 := new_of h1 s2 but
  exact ⟨rfl, k x H2 ⟨s3, h1, ys, dd, ok.nms, (fun m e => by cases e), few, asc⟩⟩
theorem real_do {c : C4} {d : D3} {fU fM fD : Addr} {H : Hp} {m z0 : Str} {us : List Str} {Q : VK} {E : XK} (D : Dcs K mg d fU fM fD) (ok : LotOk (some m) (z0 :: us)) (k : ∀ x H', NewI d H x (some m) (z0 :: us) H' → Q (.ref x) H') :
    ∀ x dx, H x = none → H dx = none → dx ≠ x → spDo K c (V.ref x :: V.str m :: (z0 :: us).map V.str) (upd (upd H dx (.own x)) x (.ins d.d dx [])) (fun v H2 => v = .non ∧ Q (.ref x) H2) E := by
  intro x dx h1 h2 h3
  have s1 := made2 (C := d.d) h1 h2 h3
  have lz : 60 ≤ sizeLine := by decide
  have few := ok.few
  refine ⟨[.ref x, .str m], (z0 :: us).map V.str, rfl, rfl, by rw [List.length_map]; omega, fun p hp => ?_⟩
  have s2 := s1.trans (Same.new (o := .tup ((z0 :: us).map V.str)) hp)
  have px : x ≠ p := fun e => by rw [← e, upd_same] at hp; cases hp
  refine ⟨x, d.d, dx, p, .str m, (z0 :: us).map V.str, none, rfl, D.dd, (upd_ne px).trans upd_same, upd_same, by rw [List.length_map]; omega, .rest (ws := m :: z0 :: us) rfl (fun z hz => (List.mem_cons.mp hz).elim (fun e => by rw [e]; exact ok.nmM rfl) (ok.nms z)) (.ok (noRep_of ok.u.1) (by show 0 < us.length + 1; omega) few), fun m' ws ys H2 em e asc but dd => ?_⟩
  injection em with em
  subst em
  have e : z0 :: us = ws := map_str e
  subst e
  have s3 := new_of h1 s2 but
  exact ⟨rfl, k x H2 ⟨s3, h1, ys, dd, ok.nms, (fun y e => ok.nmM e), few, asc⟩⟩
theorem real_make {c : C4} {d : D3} {fU fM fD : Addr} {H : Hp} {m : Str} {Q : VK} {E : XK} (D : Dcs K mg d fU fM fD) (ok : LotOk (some m) []) (k : ∀ x H', NewI d H x (some m) [] H' → Q (.ref x) H') :
    ∀ x dx, H x = none → H dx = none → dx ≠ x → spMake K c (V.ref x :: ([V.str m] ++ [])) (upd (upd H dx (.own x)) x (.ins d.m dx [])) (fun v H2 => v = .non ∧ Q (.ref x) H2) E := by
  intro x dx h1 h2 h3
  have s1 := made2 (C := d.m) h1 h2 h3
  have hm := ok.nmM rfl
  refine ⟨x, d.m, dx, .str m, rfl, D.dm, upd_same, .inl ⟨m, ⟨rfl, hm.1, hm.2⟩, fun H2 but dd => ?_⟩⟩
  have s3 := new_of h1 s1 but
  exact ⟨rfl, k x H2 ⟨s3, h1, [m], dd, nofun, (fun y e => ok.nmM e), by decide, ⟨rfl, by simp, by simp⟩⟩⟩
theorem upto3 {α : Type} {xs : List α} (h : xs.length ≤ 3) : xs = [] ∨ (∃ a, xs = [a]) ∨ (∃ a b, xs = [a, b]) ∨ ∃ a b c, xs = [a, b, c] := by
  cases xs with
  | nil => exact .inl rfl
  | cons a xs =>
  cases xs with
  | nil => exact .inr (.inl ⟨a, rfl⟩)
  | cons b xs =>
  cases xs with
  | nil => exact .inr (.inr (.inl ⟨a, b, rfl⟩))
  | cons c xs =>
  cases xs with
  | nil => exact .inr (.inr (.inr ⟨a, b, c, rfl⟩))
  | cons f xs =>
    simp only [List.length_cons] at h
    omega
theorem ok_real {c : C4} {d : D3} {fU fM fD : Addr} {fdM : FuncData} {f : Addr} {fd : FuncData} (F : Fun K "_law_real_deed" "_law_real_deed" sReal f fd) (T : TxtB mg) (D : Dcs K mg d fU fM fD) (FU : FnR P w K mg base (CX P w) 5 fU (spUse K c)) (FM : FnOk P w K mg base (CX P w) 4 fM fdM ["self", "name"] (spMake K c)) (hbM : Binds K fdM ["self", "name"] []) (FD : FnR P w K mg base (CX P w) 5 fD (spDo K c)) :
    FnOk P w K mg base CX0 7 f fd ["_law_made", "_law_used"] (spReal K d) := by
  refine F.ok scReal (fun vs H Q E h => ?_) (fun cdv A outer s H vs Q E hr h => ?_)
  · obtain ⟨l, mk, us, rfl, _⟩ := h
    rfl
  · obtain ⟨l, mk, us, rfl, hS, ok, k⟩ := h
    have few := ok.few
    refine ⟨_, (pss_cons (ps_if (pt_cmpR op_isN (pv 0) pe_non (nomark _)) (pss_cons (ps_if (pt_cmpR op_eq (pe_callB call_len_seq (by rfl) T.blen (by decide +kernel) (pa_cons (pv 1) pa_nil)) pe_int (nomark _)) (pss_one (ps_ret (StX.pe_makeR D.mu FU (hr.mono (by decide)) rfl D.gu passL (pa_cons (pe_ix ix_list (pv 1) pe_int (fun _ _ => rfl)) pa_nil)))) pss_nil) (pss_one (ps_ret (pe_ifExp (pt_cmpR op_eq (pe_callB call_len_seq (by rfl) T.blen (by decide +kernel) (pa_cons (pv 1) pa_nil)) pe_int (nomark _)) (StX.pe_makeR D.mu FU (hr.mono (by decide)) rfl D.gu passL (pa_cons (pe_ix ix_list (pv 1) pe_int (fun _ _ => rfl)) (pa_cons (pe_ix ix_list (pv 1) pe_int (fun _ _ => rfl)) pa_nil))) (StX.pe_makeR D.mu FU (hr.mono (by decide)) rfl D.gu passL (pa_cons (pe_ix ix_list (pv 1) pe_int (fun _ _ => rfl)) (pa_cons (pe_ix ix_list (pv 1) pe_int (fun _ _ => rfl)) (pa_cons (pe_ix ix_list (pv 1) pe_int (fun _ _ => rfl)) pa_nil)))))))) pss_nil)
      (pss_cons (ps_if (pt_cmpR (op_eqD hr.units) (pv 1) (pe_lst pa_nil) (nomark _)) (pss_one (ps_ret (pe_make D.mm FM (hr.mono (by decide)) rfl D.gm hbM .nil passL (pa_cons (pv 0) pa_nil)))) pss_nil)
      (pss_cons (ps_if (pt_cmpR op_eq (pe_callB call_len_seq (by rfl) T.blen (by decide +kernel) (pa_cons (pv 1) pa_nil)) pe_int (nomark _)) (pss_one (ps_ret (StX.pe_makeR D.md FD (hr.mono (by decide)) rfl D.gd passL (pa_cons (pv 0) (pa_cons (pe_ix ix_list (pv 1) pe_int (fun _ _ => rfl)) pa_nil))))) pss_nil)
      (pss_one (ps_ret (pe_ifExp (pt_cmpR op_eq (pe_callB call_len_seq (by rfl) T.blen (by decide +kernel) (pa_cons (pv 1) pa_nil)) pe_int (nomark _)) (StX.pe_makeR D.md FD (hr.mono (by decide)) rfl D.gd passL (pa_cons (pv 0) (pa_cons (pe_ix ix_list (pv 1) pe_int (fun _ _ => rfl)) (pa_cons (pe_ix ix_list (pv 1) pe_int (fun _ _ => rfl)) pa_nil)))) (StX.pe_makeR D.md FD (hr.mono (by decide)) rfl D.gd passL (pa_cons (pv 0) (pa_cons (pe_ix ix_list (pv 1) pe_int (fun _ _ => rfl)) (pa_cons (pe_ix ix_list (pv 1) pe_int (fun _ _ => rfl)) (pa_cons (pe_ix ix_list (pv 1) pe_int (fun _ _ => rfl)) pa_nil))))))))))), ?_⟩
    cases mk with
    | none =>
      have h0 := ok.some_ rfl
      refine ⟨_, rfl, rfl, _, rfl, iteT ?_⟩
      rcases upto3 few with rfl | ⟨z0, rfl⟩ | ⟨z0, z1, rfl⟩ | ⟨z0, z1, z2, rfl⟩
      · exact absurd h0 (by decide)
      · refine ⟨_, rfl, l, _, rfl, .inl hS, rfl, _, rfl, iteT ?_⟩
        refine ⟨_, rfl, l, _, ((0 : Nat) : Int), _, rfl, rfl, hS, atI_nat rfl, ?_⟩
        exact real_use (us := [z0]) D ok k
      · refine ⟨_, rfl, l, _, rfl, .inl hS, rfl, _, rfl, iteF ?_⟩
        refine ⟨_, rfl, l, _, rfl, .inl hS, rfl, _, rfl, iteT ?_⟩
        refine ⟨_, rfl, l, _, ((0 : Nat) : Int), _, rfl, rfl, hS, atI_nat rfl, _, rfl, l, _, ((1 : Nat) : Int), _, rfl, rfl, hS, atI_nat rfl, ?_⟩
        exact real_use (us := [z0, z1]) D ok k
      · refine ⟨_, rfl, l, _, rfl, .inl hS, rfl, _, rfl, iteF ?_⟩
        refine ⟨_, rfl, l, _, rfl, .inl hS, rfl, _, rfl, iteF ?_⟩
        refine ⟨_, rfl, l, _, ((0 : Nat) : Int), _, rfl, rfl, hS, atI_nat rfl, _, rfl, l, _, ((1 : Nat) : Int), _, rfl, rfl, hS, atI_nat rfl, _, rfl, l, _, ((2 : Nat) : Int), _, rfl, rfl, hS, atI_nat rfl, ?_⟩
        exact real_use (us := [z0, z1, z2]) D ok k
    | some m =>
      refine ⟨_, rfl, rfl, _, rfl, iteF ?_⟩
      refine ⟨_, rfl, by show 0 ≤ sizeLine; decide, fun u hu => ?_⟩
      have s1 : Same H (upd H u (.lst [])) := Same.new hu
      have hS1 := sqL_same s1 hS
      have k1 : ∀ x H', NewI d (upd H u (.lst [])) x (some m) us H' → Q (.ref x) H' := fun x H' n => k x H' ⟨s1.trans n.1, sameNone s1 n.2.1, n.2.2⟩
      refine ⟨_, _, .lst hS1 (dpTup us), .lst (SqL.of upd_same) .nil, shapedTup (fun z hz => ok.u.2 z hz), by decide +kernel, _, rfl, ?_⟩
      rcases upto3 few with rfl | ⟨z0, rfl⟩ | ⟨z0, z1, rfl⟩ | ⟨z0, z1, z2, rfl⟩
      · refine iteT ⟨_, rfl, ?_⟩
        exact real_make D ok k1
      · refine iteF ?_
        refine ⟨_, rfl, l, _, rfl, .inl hS1, rfl, _, rfl, iteT ?_⟩
        refine ⟨_, rfl, _, rfl, l, _, ((0 : Nat) : Int), _, rfl, rfl, hS1, atI_nat rfl, ?_⟩
        exact real_do (us := []) D ok k1
      · refine iteF ?_
        refine ⟨_, rfl, l, _, rfl, .inl hS1, rfl, _, rfl, iteF ?_⟩
        refine ⟨_, rfl, l, _, rfl, .inl hS1, rfl, _, rfl, iteT ?_⟩
        refine ⟨_, rfl, _, rfl, l, _, ((0 : Nat) : Int), _, rfl, rfl, hS1, atI_nat rfl, _, rfl, l, _, ((1 : Nat) : Int), _, rfl, rfl, hS1, atI_nat rfl, ?_⟩
        exact real_do (us := [z1]) D ok k1
      · refine iteF ?_
        refine ⟨_, rfl, l, _, rfl, .inl hS1, rfl, _, rfl, iteF ?_⟩
        refine ⟨_, rfl, l, _, rfl, .inl hS1, rfl, _, rfl, iteF ?_⟩
        refine ⟨_, rfl, _, rfl, l, _, ((0 : Nat) : Int), _, rfl, rfl, hS1, atI_nat rfl, _, rfl, l, _, ((1 : Nat) : Int), _, rfl, rfl, hS1, atI_nat rfl, _, rfl, l, _, ((2 : Nat) : Int), _, rfl, rfl, hS1, atI_nat rfl, ?_⟩
        exact real_do (us := [z1, z2]) D ok k1
end
end K06

set_option Elab.async false
set_option linter.all false
set_option maxRecDepth 100000
set_option maxHeartbeats 4000000
/-! sorted(x, key=str) of a list, a tuple or a dict of texts. -/
namespace NSK
open PySem PySem.Spec PyProof.Rows L2
section
variable {prog : Program} {w : World} {A : Around} {E : Value → Shared → Prop} {s : Shared}
theorem tree_str (a : Addr) : Builtin.«list.sort» ⟨[.ref a], [(Str.ofString "key", .type "str")]⟩ = ksk_tree a (.type "str") false := rfl
theorem list_sort_key {a : Addr} {vs : List Value} {n : Nat} {P : PySem.Fin → Shared → Prop} {xs : List Str} (ho : s.heap.get? a = some (seqObj "list" vs.toArray n)) (hS : StrsAre vs xs) (h64 : vs.length < 64)
    (h : ∀ (h' : Heap) (out : Array Value) (c : Nat) (ys : List Str), (∀ b o, b ≠ a → s.heap.get? b = some o → h'.get? b = some o) → h'.get? a = some (seqObj "list" out c) → StrsAre out.toList ys → ys.Perm xs → sortedS ys = true → P (.done (.ret .none)) { s with heap := h' }) :
    wpAny (model prog w) A (Builtin.«list.sort» ⟨[.ref a], [(Str.ofString "key", .type "str")]⟩) P E s := by
  rw [tree_str]
  unfold ksk_tree
  have ha : a < s.heap.objs.size := Heap.lt_size ho
  have zl : vs.length ≤ sizeLine := by rw [sizeLine_eq]; omega
  refine wpAny_bind (listItems_at ho rfl ?_)
  refine wpAny_bind (listUpdate_at ho rfl ?_ (by rw [List.size_toArray]; exact zl) (Nat.zero_le _))
  obtain ⟨e1, ho1⟩ : ∃ e1, (s.heap.update a (Obj.mapSeq fun _ => #[])).get? a = some (seqObj "list" #[] e1) := ⟨_, get?_update_seq ho (fun _ => #[])⟩
  refine wpAny_bind (seqEpoch_at ho1 rfl ?_)
  refine wpAny_bind (wpAny_newTuple ?_ (by show vs.length ≤ _; exact zl))
  refine wpAny_bind (wpAny_newList ?_ (Nat.zero_le _))
  refine wpAny_holding ?_
  have hk0 : ((s.heap.update a (Obj.mapSeq fun _ => #[])).push (seqObj "tuple" vs.toArray 0)).objs.size = s.heap.objs.size + 1 := by rw [size_push', Heap.size_update]
  have ho6 : (((s.heap.update a (Obj.mapSeq fun _ => #[])).push (seqObj "tuple" vs.toArray 0)).push (seqObj "list" #[] 0)).get? a = some (seqObj "list" #[] e1) :=
    Heap.get?_push_of_some _ (Heap.get?_push_of_some _ ho1)
  have hoK : (((s.heap.update a (Obj.mapSeq fun _ => #[])).push (seqObj "tuple" vs.toArray 0)).push (seqObj "list" #[] 0)).get? ((s.heap.update a (Obj.mapSeq fun _ => #[])).push (seqObj "tuple" vs.toArray 0)).objs.size = some (seqObj "list" #[] 0) := Heap.get?_push_size _ rfl
  have keep : ∀ b o, b ≠ a → s.heap.get? b = some o → (((s.heap.update a (Obj.mapSeq fun _ => #[])).push (seqObj "tuple" vs.toArray 0)).push (seqObj "list" #[] 0)).get? b = some o := fun b o hb e =>
    Heap.get?_push_of_some _ (Heap.get?_push_of_some _ ((Heap.get?_update_ne _ _ _ _ hb).trans e))
  show wpAny (model prog w) A _ P E { s with heap := ((s.heap.update a (Obj.mapSeq fun _ => #[])).push (seqObj "tuple" vs.toArray 0)).push (seqObj "list" #[] 0) }
  have hka : ((s.heap.update a (Obj.mapSeq fun _ => #[])).push (seqObj "tuple" vs.toArray 0)).objs.size ≠ a := by rw [hk0]; exact Nat.ne_of_gt (Nat.lt_succ_of_lt ha)
  have hkn : ∀ b o, s.heap.get? b = some o → b ≠ ((s.heap.update a (Obj.mapSeq fun _ => #[])).push (seqObj "tuple" vs.toArray 0)).objs.size := fun b o e => by
    rw [hk0]
    exact Nat.ne_of_lt (Nat.lt_succ_of_lt (Heap.lt_size e))
  generalize ((s.heap.update a (Obj.mapSeq fun _ => #[])).push (seqObj "tuple" vs.toArray 0)).objs.size = kS at *
  generalize ((s.heap.update a (Obj.mapSeq fun _ => #[])).push (seqObj "tuple" vs.toArray 0)).push (seqObj "list" #[] 0) = G at *
  unfold ksk_rest
  refine wpAny_bind (wpAny_rule ?_)
  first
    | rw [List.forIn_toArray]
    | (rw [← Array.forIn_toList]; simp only [List.toList_toArray])
    | rw [← Array.forIn_toList]
  refine wpAny_bind (ksk_fold (fun i s' => ∃ h' e, s' = { s with heap := h' } ∧ h'.get? kS = some (seqObj "list" (vs.take i).toArray e) ∧ h'.get? a = some (seqObj "list" #[] e1) ∧ ∀ b o, b ≠ a → s.heap.get? b = some o → h'.get? b = some o) vs 0 _
    ⟨G, 0, rfl, hoK, ho6, keep⟩ ?step ?done)
  case step =>
    rintro j x s' hx ⟨h', e, rfl, k1, k2, k3⟩
    simp only [Nat.zero_add] at k1 ⊢
    have hj : j < vs.length := (List.getElem?_eq_some_iff.mp hx).1
    obtain ⟨z, t, rfl⟩ : ∃ z t, x = Value.str z t := by
      have q : ∀ {l : List Value} {zs : List Str}, StrsAre l zs → ∀ v ∈ l, ∃ z t, v = Value.str z t := by
        intro l zs hl
        induction hl with
        | nil => intro v hv; cases hv
        | cons z t _ ih =>
          intro v hv
          rcases List.mem_cons.mp hv with rfl | hv
          · exact ⟨z, t, rfl⟩
          · exact ih v hv
      exact q hS x (List.mem_of_getElem? hx)
    refine wpAny_bind (wpAny_attempt (PySem.P.str_of_str ?_))
    try dsimp only
    have s1 := Heap.SameBut.update h' kS (Obj.mapSeq (·.push (.str z t)))
    obtain ⟨c2, hc2⟩ : ∃ c2, (h'.update kS (Obj.mapSeq (·.push (.str z t)))).get? kS = some (seqObj "list" ((vs.take j).toArray.push (.str z t)) c2) := ⟨_, get?_update_seq k1 (·.push (.str z t))⟩
    refine wpAny_bind (listUpdate_at k1 rfl ?_ (by rw [List.size_toArray, List.length_take, sizeLine_eq]; omega) (Nat.le_trans (Nat.le_of_eq (Array.size_push ..)) (by rw [List.size_toArray, List.length_take, sizeLine_eq]; omega)))
    refine wpAny_pure ⟨rfl, _, c2, rfl, ?_, (s1.2 a hka.symm).trans k2, fun b o hb e => (s1.2 b (hkn b o e)).trans (k3 b o hb e)⟩
    rw [hc2]
    have ek : vs.take (j + 1) = vs.take j ++ [.str z t] := by rw [List.take_add_one, hx]; simp
    rw [ek]
    simp
  case done =>
    rintro s' ⟨h', e, rfl, k1, k2, k3⟩
    have e3 : vs.take (0 + vs.length) = vs := List.take_of_length_le (by omega)
    rw [e3] at k1
    try dsimp only
    refine wpAny_bind (listItems_at k1 rfl ?_)
    have tail : ∀ st' : SortSt, (arrOf st').Perm (pairsOf vs) → failedOf st' = none → SortedToK strKind (arrOf st') (pairsOf vs).size → wpAny (model prog w) A (ksk_tail a false e1 (.ref kS) st') P E { s with heap := h' } := by
      intro st' hp hf hs
      unfold ksk_tail
      try dsimp only
      have hsz : ((arrOf st').map (·.2)).size = vs.length := by rw [Array.size_map, hp.size_eq, pairsOf_size]
      have s1 := Heap.SameBut.update h' kS (Obj.mapSeq fun _ => (#[] : Array Value))
      have na1 : (h'.update kS (Obj.mapSeq fun _ => (#[] : Array Value))).get? a = some (seqObj "list" #[] e1) := (s1.2 a hka.symm).trans k2
      have s2 := Heap.SameBut.update (h'.update kS (Obj.mapSeq fun _ => (#[] : Array Value))) a (Obj.mapSeq fun _ => (arrOf st').map (·.2))
      obtain ⟨c2, hc2⟩ : ∃ c2, ((h'.update kS (Obj.mapSeq fun _ => (#[] : Array Value))).update a (Obj.mapSeq fun _ => (arrOf st').map (·.2))).get? a = some (seqObj "list" ((arrOf st').map (·.2)) c2) := ⟨_, get?_update_seq na1 fun _ => (arrOf st').map (·.2)⟩
      refine wpAny_bind (listUpdate_at k1 rfl ?_ (by rw [List.size_toArray]; exact zl) (Nat.zero_le _))
      refine wpAny_bind (wpAny_letGo ?_)
      refine wpAny_bind (seqEpoch_at na1 rfl ?_)
      refine wpAny_bind (listUpdate_at na1 rfl ?_ (Nat.zero_le _) (Nat.le_trans (Nat.le_of_eq hsz) (Nat.le_succ_of_le zl)))
      rw [hf]
      simp only [bne_self_eq_false, Bool.false_eq_true, if_false]
      obtain ⟨ys, q1, q2, q3⟩ := sorted_out_str hS hp hs
      exact wpAny_pure (h _ _ c2 ys (fun b o hb e => (s2.2 b hb).trans ((s1.2 b (hkn b o e)).trans (k3 b o hb e))) hc2 q1 q2 q3)
    unfold ksk_end
    simp only [Bool.false_eq_true, if_false]
    have hsz : vs.toArray.size = vs.length := by simp
    by_cases h2 : vs.toArray.size < 2
    · rw [if_pos h2, if_pos h2]
      refine wpAny_bind (wpAny_pure ?_)
      rw [StateT.run_pure]
      refine wpAny_bind (wpAny_pure ?_)
      try dsimp only
      refine tail (SortSt.mk' general' (vs.toArray.zip vs.toArray) #[] 7 none) (Array.Perm.refl _) rfl ?_
      intro i j hij hj
      have : i = j := by rw [pairsOf_size] at hj; omega
      subst this; exact KeyOrd.kle_refl _
    · rw [if_neg h2, if_neg h2]
      obtain ⟨v₁, v₂, rest, rfl⟩ : ∃ v₁ v₂ rest, vs = v₁ :: v₂ :: rest := by
        match vs, hsz, h2 with
        | [], _, h2 => simp at h2
        | [_], _, h2 => simp at h2
        | v₁ :: v₂ :: rest, _, _ => exact ⟨v₁, v₂, rest, rfl⟩
      rw [keyKind_strs hS]
      refine wpAny_bind (wpAny_pure ?_)
      refine wpAny_bind (wpAny_mono (wpS_sortRunsK (κ := strKind) strKind_oneLt (a₀ := pairsOf (v₁ :: v₂ :: rest)) (st := SortSt.mk' oneType' ((v₁ :: v₂ :: rest).toArray.zip (v₁ :: v₂ :: rest).toArray) #[] 7 none)
        (Q := fun _ st' => (arrOf st').Perm (pairsOf (v₁ :: v₂ :: rest)) ∧ failedOf st' = none ∧ SortedToK strKind (arrOf st') (pairsOf (v₁ :: v₂ :: rest)).size)
        hS.keysOf ⟨Array.Perm.refl _, rfl, rfl, rfl⟩ (by rw [pairsOf_size]; simp) (by rw [pairsOf_size]; exact h64) fun st' a1 a2 a3 => ⟨a1, a2, a3⟩) ?_ fun _ _ e => e)
      rintro ⟨⟨⟩, st'⟩ s' ⟨rfl, hp, hf, hs⟩
      try dsimp only
      exact tail st' hp hf hs
end
section
variable {X : Cx}
/-- sorted(x, key=str) -/
def rSrtK (K : PySem.W.Frag) : List V → List V → Hp → VK → Prop := fun vs zs H Q => ∃ (a : Addr) (ws : List Str), vs = [.ref a] ∧ zs = [.ty "str"] ∧ (SqL K H a (ws.map V.str) ∨ SqT K H a (ws.map V.str) ∨ ∃ kvs : List (Key × V), Rd H a (.dK kvs) ∧ kvs.map (·.1) = ws.map Sum.inr) ∧ ws.length < 64 ∧
  ∀ (ys : List Str) (p : Addr), ys.Perm ws → sortedS ys = true → H p = none → Q (.ref p) (upd H p (.lst (ys.map V.str)))
theorem tailW {pins : List (Addr × Obj)} {σ : L2.St} {H : Hp} {s : Shared} {vs : List Value} {ws : List Str} {Q : VK} {E : Value → Shared → Prop} {A : Around} (I : Inv X pins σ H s) (hS : StrsAre vs ws) (hl : vs.length = ws.length) (h64 : ws.length < 64)
    (q : ∀ (ys : List Str) (p : Addr), ys.Perm ws → sortedS ys = true → H p = none → Q (.ref p) (upd H p (.lst (ys.map V.str)))) :
    wpAny (model X.prog X.w) A (do
      let l ← newList vs
      let _ ← holding [l] (call (Value.builtin "list.sort") [l] [(Str.ofString "key", .type "str")])
      ret l) (fun fin s' => ∃ v, fin = Fin.done (Flow.ret v) ∧ EP X pins σ Q v s') E s := by
  refine wpAny_bind (wpAny_newList ?_ (by rw [hl, sizeLine_eq]; omega))
  have hoL : (s.heap.push (seqObj "list" vs.toArray 0)).get? s.heap.objs.size = some (seqObj "list" vs.toArray 0) := Heap.get?_push_size _ rfl
  refine wpAny_bind (wpAny_holding (wpAny_call_entry_kw slot_list_sort ⟨_, hoL, rfl⟩ entry_list_sort ?_ (PyProof.Rows.ksk_l1 _ _)))
  refine list_sort_key (s := { s with heap := s.heap.push (seqObj "list" vs.toArray 0) }) hoL hS (by rw [hl]; exact h64) fun h' out c ys k1 k2 g1 g2 g3 => ⟨_, rfl, ?_⟩
  have hlen : (ys.map V.str).length ≤ sizeLine := by
    rw [List.length_map, g2.length_eq]
    exact small64 h64
  refine wpAny_pure ⟨_, rfl, .ref s.heap.objs.size, upd H s.heap.objs.size (.lst (ys.map V.str)), I.laid (t' := s.toks) (fun b u e => ?_) (Nat.le_refl _)
    (show ObjOk X.prog X.w _ _ _ (.lst (ys.map V.str)) from ⟨hlen, out.toList, c, vals_of_strs g1, by rw [Array.toArray_toList]; exact k2⟩), rfl, q ys _ g2 g3 (I.hok.fresh (Nat.le_refl _))⟩
  exact k1 b u (Nat.ne_of_lt (Heap.lt_size e)) (Heap.get?_push_of_some _ e)
theorem cr_sortedKS (hcalm : X.calm = true) : CallRK X (.builtin "sorted") [Str.ofString "key"] (rSrtK X.K) := by
  intro pins s σ H vs zs us ws0 Q I r rz h
  obtain ⟨a, ws, rfl, rfl, hs, h64, q⟩ := h
  obtain rfl := Vals.ref1 r
  obtain ⟨w1, rfl, e1⟩ := vals1 rz
  obtain rfl : w1 = Value.type "str" := e1
  refine call_function_entry_kw kind_sorted plain_sorted entry_sorted (PyProof.Rows.ksk_s1 _ _) ?_
  unfold Builtin.«sorted»
  refine wpAny_bind (m := checkCount "sorted" 1 1 _) (wpAny_pure ?_)
  rcases hs with hs | hs | ⟨kvs, hd, hks⟩
  · obtain ⟨its, rv, hl, _⟩ := I.list hs
    have hlen := rv.length
    rw [List.length_map] at hlen
    refine wpAny_bind (collect_list hl.isList ?_ (by rw [← hlen]; exact small64 h64))
    refine tailW (s := { s with heap := _ }) (I.kept (t' := s.toks) fun b u e => ?_) rv.strs hlen.symm h64 q
    rw [Heap.get?_update_ne _ _ _ _ (Nat.ne_of_lt (Heap.lt_size e))]
    exact Heap.get?_push_of_some _ e
  · obtain ⟨its, rv, ⟨o, ho, hc, n, hd⟩, _⟩ := I.tuple hs
    have hlen := rv.length
    rw [List.length_map] at hlen
    refine wpAny_bind (PySem.wpAny_collect_seq a (.inr rfl) ho hc hd (fun h' hk => ?_) (by rw [List.size_toArray, ← hlen]; exact small64 h64))
    rw [List.toList_toArray]
    exact tailW (s := { s with heap := h' }) (I.kept (t' := s.toks) hk) rv.strs hlen.symm h64 q
  · obtain ⟨z, lo, vs, rel, dd⟩ := dk_rd I.hok hd
    obtain ⟨ep, hat⟩ := dd.dictAt
    have hkeys : vs.map (·.1) = ws.map Sum.inr := rel.keys.symm.trans hks
    have hl : vs.length = ws.length := by
      have e := congrArg List.length hkeys
      rw [List.length_map, List.length_map] at e
      exact e
    have h16 : vs.length ≤ sizeLine := by rw [hl, sizeLine_eq]; omega
    refine wpAny_bind (PySem.W.kdu_collect (A := X.A.in1) (PySem.W.kdl_dict (knd := mixKind X.prog X.w) (kvs := vs) (ep := ep) lo) (I.ok.hd hcalm) hat h16 fun h' tk acc hk hacc => ?_)
    have hal : acc.toList.length = ws.length := by rw [Array.length_toList, hacc.1, hl]
    have hS : StrsAre acc.toList ws := strs_at hal fun j v e => by
      obtain ⟨k, x, e1, e2⟩ := hacc.2 j v (by rw [← Array.getElem?_toList]; exact e)
      have e3 : (vs.map (·.1))[j]? = some k := by rw [List.getElem?_map, e1]; all_goals rfl
      rw [hkeys, List.getElem?_map] at e3
      cases e4 : ws[j]? with
      | none => rw [e4] at e3; cases e3
      | some y =>
        rw [e4] at e3
        have e5 : Sum.inr y = k := Option.some.inj e3
        subst e5
        obtain ⟨t, ev⟩ := Value.isStrOf_shape (x := y) (v := v) e2
        exact ⟨y, t, rfl, ev⟩
    exact tailW (I.kept hk) hS hal h64 q
end
end NSK

set_option Elab.async false
set_option linter.all false
set_option maxRecDepth 100000
set_option maxHeartbeats 4000000
/-! *d of a dict of texts in a display or a call. -/
namespace NSD
open PySem PySem.Spec PyProof.Rows L2
def tStarD (te : TE) (t : TA) : TA := fun σ H Q => te σ H fun x H1 => ∃ (p : Addr) (kvs : List (Key × V)) (ws : List Str), x = V.ref p ∧ Rd H1 p (.dK kvs) ∧ kvs.map (·.1) = ws.map Sum.inr ∧ t σ H1 fun ys H2 => Q (ws.map V.str ++ ys) H2
section
variable {X : Cx} {pins : List (Addr × Obj)} {σ : L2.St} {H : Hp} {s : Shared}
theorem star_dict {a : Addr} {kvs : List (Key × V)} {ws : List Str} {E : Value → Shared → Prop} {Q : List Value → Shared → Prop} (hcalm : X.calm = true) (I : Inv X pins σ H s) (hd : Rd H a (.dK kvs)) (hks : kvs.map (·.1) = ws.map Sum.inr) (hQ : ∀ us s', Inv X pins σ H s' → Vals (ws.map V.str) us → Q us s') :
    PySem.W.StarOf (model X.prog X.w) X.A E (.ref a) Q s := by
  obtain ⟨z, lo, vs, rel, dd⟩ := dk_rd I.hok hd
  obtain ⟨ep, hat⟩ := dd.dictAt
  have hkeys : vs.map (·.1) = ws.map Sum.inr := rel.keys.symm.trans hks
  have hl : vs.length = ws.length := by
    have e := congrArg List.length hkeys
    rw [List.length_map, List.length_map] at e
    exact e
  have hkl : kvs.length = ws.length := by
    have e := congrArg List.length hks
    rw [List.length_map, List.length_map] at e
    exact e
  have h16 : vs.length ≤ sizeLine := by rw [hl, ← hkl]; exact z
  have hT : s.TypeIs (.ref a) "dict" := by
    obtain ⟨o, es, h1, h2, h3, _⟩ := hat
    exact ⟨o, h1, h2.1⟩
  have zz : wpAny (model X.prog X.w) X.A (collect (.ref a)) Q E s := by
    refine PySem.W.kdu_collect (A := X.A) (PySem.W.kdl_dict (knd := mixKind X.prog X.w) (kvs := vs) (ep := ep) lo) (I.ok.hd hcalm) hat h16 fun h' tk acc hk hacc => ?_
    have hal : acc.toList.length = ws.length := by rw [Array.length_toList, hacc.1, hl]
    have hS : StrsAre acc.toList ws := strs_at hal fun j v e => by
      obtain ⟨k, x, e1, e2⟩ := hacc.2 j v (by rw [← Array.getElem?_toList]; exact e)
      have e3 : (vs.map (·.1))[j]? = some k := by rw [List.getElem?_map, e1]; all_goals rfl
      rw [hkeys, List.getElem?_map] at e3
      cases e4 : ws[j]? with
      | none => rw [e4] at e3; cases e3
      | some y =>
        rw [e4] at e3
        have e5 : Sum.inr y = k := Option.some.inj e3
        subst e5
        obtain ⟨t, ev⟩ := Value.isStrOf_shape (x := y) (v := v) e2
        exact ⟨y, t, rfl, ev⟩
    exact hQ _ _ (I.kept hk) (vals_of_strs hS)
  unfold PySem.W.StarOf notIterableAtAll
  exact wpAny_bind (wpAny_specialOf hT PySem.F.slot_dict_iter.lookup (wpAny_pure ⟨rfl, zz⟩))
end
section
variable {X : Cx} {e : Expr} {es : List Expr} {te : TE} {t : TA} {p : Pos}
theorem pa_starD (hcalm : X.calm = true) (he : PE X e te) (hr : PA X es t) (hs : starEach (.Starred e p :: es) X.env = (true, eval e X.env) :: starEach es X.env := by rfl) : PA X (.Starred e p :: es) (tStarD te t) := by
  refine ⟨fun pos pins s σ H Q I h => ?_⟩
  refine PySem.W.items_star (thn (he.run pins s σ H _ I h) fun v s1 ⟨y, H1, I1, ry, a, kvs, ws, ey, hd, hks, q⟩ => ?_) hs
  subst ey
  obtain rfl : v = Value.ref a := ry
  refine star_dict hcalm I1 hd hks fun us s2 I2 rv => ?_
  exact thn (hr.run pos pins s2 σ H1 _ I2 q) fun ws s3 ⟨vs, H3, I3, r3, q3⟩ => ⟨_, H3, I3, rv.append r3, q3⟩
end
end NSD

set_option Elab.async false
set_option linter.all false
set_option maxRecDepth 100000
set_option maxHeartbeats 4000000
/-! sorted(set(xs)) where only the distinct texts are fewer than 64. -/
namespace NU
open PySem PySem.Spec PyProof.Rows L2
theorem many_in : ∀ (l pool : List Str), (∀ x ∈ l, x ∈ pool) → many l ≤ pool.length
  | [], pool, _ => Nat.zero_le _
  | x :: l, pool, h => by
    show (if x ∈ l then many l else many l + 1) ≤ pool.length
    split
    · exact many_in l pool fun y hy => h y (List.mem_cons_of_mem _ hy)
    · rename_i n
      have hx := h x List.mem_cons_self
      have := many_in l (pool.erase x) fun y hy => by
        have ne : y ≠ x := fun e => n (e ▸ hy)
        exact (List.mem_erase_of_ne ne).mpr (h y (List.mem_cons_of_mem _ hy))
      rw [List.length_erase_of_mem hx] at this
      have : 0 < pool.length := List.length_pos_of_mem hx
      omega
section
variable {X : Cx}
def rSrtM (wo : World) : List V → Hp → VK → Prop := fun vs H Q => ∃ (a : Addr) (xs : List Str), vs = [.ref a] ∧ H a = some (SetX wo a xs) ∧ many xs < 64 ∧
  ∀ (ys : List Str) (p : Addr), sortedS ys = true → ys.Nodup → (∀ y, y ∈ ys ↔ y ∈ xs) → H p = none → Q (.ref p) (upd H p (.lst (ys.map V.str)))
theorem cr_srtM (hc : X.calm = true) : CallR X (.builtin "sorted") (rSrtM X.w) := by
  intro pins s σ H vs us Q I r h
  obtain ⟨a, xs, rfl, ga, few, q⟩ := h
  rw [Vals.ref1 r]
  refine sorted_tx (setX_get I ga) (I.ok.hd hc) few fun t p arr c ys k g o lp gp are srt nd mm len => ?_
  have fits : (ys.map V.str).length ≤ sizeLine := by rw [List.length_map, len, sizeLine_eq]; omega
  have new : H p = none := I.hok.fresh lp
  have J : Inv X pins σ (upd H p (.lst (ys.map V.str))) { s with heap := t.heap, gens := t.gens, drawn := t.drawn, toks := t.toks } :=
    I.call (ch := []) (Un.laid k lp new) (I.hok.laid k lp ⟨fits, arr.toList, c, vals_of_strs are, gp⟩) (by rw [g]; exact I.bare) nofun
  have same : t = { s with heap := t.heap, gens := t.gens, drawn := t.drawn, toks := t.toks } := by
    obtain ⟨_, _, _, _, _⟩ := t
    subst o
    rfl
  rw [same]
  exact ⟨.ref p, _, J, rfl, q ys p srt nd (fun y => (mm y).trans decide_eq_true_iff) new⟩
end
end NU

set_option Elab.async false
set_option linter.all false
set_option maxRecDepth 100000
set_option maxHeartbeats 4000000
/-! enumerate(tuple). -/
namespace NEn
open PySem PySem.Spec PyProof.Rows L2
theorem meets_new {v : Value} {o : Obj} {St : Heap → Prop} (B : Begins v o St) :
    Meets (Builtin.«enumerate.__new__» ⟨[.type "enumerate", v], []⟩) (fun _ R s => St s.heap ∧
      R (.ok (.ret (.ref (s.heap.push o).objs.size))) { s with heap := (s.heap.push o).push { cls := .type "enumerate", data := .fields #[.none, .bool false, .ref s.heap.objs.size, rawInt 0, .none, .none] } }) :=
  .of_wp fun prog w A R s h => by
    obtain ⟨hp, gs, dr, tk, os⟩ := s
    obtain ⟨st, h⟩ := h
    have sub := sub_enumerate
    have start : ∀ {A2 : Around} {E Q : Value → Shared → Prop}, Q (.ref hp.objs.size) ⟨hp.push o, gs, dr, tk, os⟩ → wpAny (model prog w) A2 (pyIter v) Q E ⟨hp, gs, dr, tk, os⟩ := fun q => B.iter prog w _ _ ⟨hp, gs, dr, tk, os⟩ _ st q
    wp_walk using start
    refine wpAny_stack_any fun stk => wpAny_pure ?_
    split
    · rename_i c _ _ _ _ _
      cases (c == Value.type "enumerate") <;> (wp_walk using start; exact ⟨_, rfl, h⟩)
    · wp_walk using start
      exact ⟨_, rfl, h⟩
theorem begins1 {prog : Program} {w : World} {A : Around} {E : Value → Shared → Prop} {s : Shared} {v : Value} {o : Obj} {St : Heap → Prop} {Q : Value → Shared → Prop} (B : Begins v o St) (st : St s.heap)
    (h : ∀ h1, IsEnum h1 (s.heap.objs.size + 1) s.heap.objs.size 0 .none → h1.get? s.heap.objs.size = some o → (∀ b u, s.heap.get? b = some u → h1.get? b = some u) → Q (.ref (s.heap.objs.size + 1)) { s with heap := h1 }) :
    wpAny (model prog w) A (call (.type "enumerate") [v]) Q E s := by
  refine callType_new F.called_enumerate (by decide) (F.typeCall_enumerate_1 _) (F.newCall_enumerate_1 _) (fun obj => F.args_object_init_2 obj _) F.entry_enumerate_new (meets_new B) ⟨st, ?_⟩
  have sz : (s.heap.push o).objs.size = s.heap.objs.size + 1 := Heap.size_push ..
  have at_ := Heap.get?_push_size (s.heap.push o) (o := { cls := .type "enumerate", data := .fields #[.none, .bool false, .ref s.heap.objs.size, rawInt 0, .none, .none] }) rfl
  show _ ∧ _
  rw [sz] at at_ ⊢
  exact ⟨⟨_, at_, rfl⟩, h _ at_ (Heap.get?_push_of_some _ (Heap.get?_push_size _ B.free)) fun b u x => Heap.get?_push_of_some _ (Heap.get?_push_of_some _ x)⟩
/-- the tuple at a, each item in a new pair -/
def Ent (K : PySem.W.Frag) (a : Addr) : It :=
  ⟨fun i H => ∃ (xs : List V) (x : V), SqT K H a xs ∧ xs[i]? = some x, fun i H v H2 => ∃ T x, v = .ref T ∧ H T = none ∧ H2 = upd H T (.tup [.int (i : Nat), x]) ∧ ∀ xs, SqT K H a xs → xs[i]? = some x, fun i H => ∃ xs : List V, SqT K H a xs ∧ xs.length ≤ i⟩
theorem turn_ent {P : Program} {w : World} {K : PySem.W.Frag} {elts : List Expr} {kk : Nat} {tpos : Pos} (a e it : Addr) :
    Turn P w K (.Tuple elts kk tpos) (Ent K a) [e, it] e (fun i h => (∃ old, IsEnum h e it ((i : Nat) : Int) old) ∧ h.IsTupleIter it a i ∧ e ≠ it) where
  mem := List.mem_cons_self
  obj := fun i h st b hb => by
    obtain ⟨⟨old, he⟩, ⟨o, ho, hc, hd⟩, _⟩ := st
    rcases List.mem_cons.mp hb with z | z
    · subst z
      exact ⟨_, he, fun v q => nomatch q⟩
    · have z := List.mem_singleton.mp z
      subst z
      exact ⟨o, ho, fun v q => by rw [hd] at q; cases q⟩
  keep := fun i h h1 ⟨⟨old, he⟩, hi, ne⟩ k => ⟨⟨old, k e (by simp) _ he⟩, hi.at fun o q => k it (by simp) o q, ne⟩
  item := by
    intro X hP hw hK hc i pins s σ H E I hf st hg
    subst hP hw hK
    obtain ⟨⟨old, he⟩, hit, hne⟩ := st
    obtain ⟨xs, x, hq, hx⟩ := hg
    obtain ⟨its, rv, p, hz⟩ := I.tuple hq
    have hT : s.heap.IsTuple a its.toArray := p
    have nit : a ≠ it := fun z => by
      obtain ⟨o1, g1, _, d1⟩ := hit
      obtain ⟨o2, g2, _, n, d2⟩ := hT
      rw [← z, g2] at g1
      cases g1
      rw [d2] at d1
      cases d1
    have nea : e ≠ a := fun z => by
      obtain ⟨o2, g2, _, n, d2⟩ := hT
      rw [← z, he] at g2
      cases g2
      cases d2
    obtain ⟨u, hu, ru⟩ := rv.get hx
    have lt : i < its.toArray.size := by
      rw [List.size_toArray]
      exact (List.getElem?_eq_some_iff.mp hu).1
    have hel : e < s.heap.objs.size := Heap.lt_size he
    have hil : it < s.heap.objs.size := by obtain ⟨_, q, _⟩ := hit; exact Heap.lt_size q
    have D := Draws.tuple (prog := X.prog) (w := X.w) (A := X.A.in1) (I.ok.hd hc) it a nit its.toArray
    refine wpAny_pyNext_enum_itemC D he ⟨hit, hT⟩ lt hne (by simp only [List.mem_cons, List.not_mem_nil, or_false, not_or]; exact ⟨hne, nea⟩) fun x1 h1 tk px ho st1 hT1 hsz hk => ?_
    obtain rfl : u = x1 := by
      have q : its.toArray[i]? = some x1 := px
      have q2 : its.toArray[i]? = some u := by simpa using hu
      rw [q2] at q
      exact Option.some.inj q
    refine ⟨_, rfl, wpAny_letOwnedTupleGo_enum (s := { s with heap := h1, toks := tk + 1 }) ho fun h2 he2 sb => ?_⟩
    have hT2 : h2.get? s.heap.objs.size = some { cls := .type "tuple", data := .seq #[.int i tk, u] } := (sb.2 _ (Nat.ne_of_gt hel)).trans hT1
    have new : ObjOk X.prog X.w (upd H s.heap.objs.size (.tup [.int (i : Nat), x])) h2 s.heap.objs.size (.tup [.int (i : Nat), x]) :=
      ⟨by show 2 ≤ sizeLine; decide, [.int i tk, u], .cons ⟨_, rfl⟩ (.cons ru .nil), ⟨_, hT2, rfl, _, rfl⟩⟩
    have J : Inv X pins σ (upd H s.heap.objs.size (.tup [.int (i : Nat), x])) { s with heap := h2, toks := tk + 1 } :=
      I.turnedNew (ch := [e, it]) (fun b ob hb q => (sb.2 b (fun z => hb (by simp [z]))).trans (hk b ob (fun z => hb (by simp [z])) (fun z => hb (by simp [z])) q)) hf (Nat.le_refl _) new
    refine ⟨.ref s.heap.objs.size, _, J, rfl, ⟨_, x, rfl, I.hok.fresh (Nat.le_refl _), rfl, fun ys hy => by rw [I.tuple_inj hy hq]; exact hx⟩, ⟨⟨u, ?_⟩, st1.1.at fun o q => (sb.2 it (Ne.symm hne)).trans q, hne⟩, fun b hb => ?_⟩
    · have e1 : ((i + 1 : Nat) : Int) = (i : Int) + 1 := by omega
      rw [e1]
      exact he2
    · have lb : b < s.heap.objs.size := by
        rcases List.mem_cons.mp hb with z | z
        · rw [z]; exact hel
        · rw [List.mem_singleton.mp z]; exact hil
      rw [upd_ne (Nat.ne_of_lt lb)]
      exact (hf b hb).1
  done := by
    intro X hP hw hK hc i pins s σ H E I hf st hg
    subst hP hw hK
    obtain ⟨⟨old, he⟩, hit, hne⟩ := st
    obtain ⟨xs, hq, hx⟩ := hg
    obtain ⟨its, rv, p, hz⟩ := I.tuple hq
    obtain ⟨f0, f1, f2, f3, f4, f5⟩ := hf it (by simp)
    have hl := rv.length
    have hT : s.heap.IsTuple a its.toArray := p
    obtain ⟨o1, g1, c1, d1⟩ := id hit
    have nit : a ≠ it := fun z => by
      obtain ⟨o2, g2, _, n, d2⟩ := hT
      rw [← z, g2] at g1
      cases g1
      rw [d2] at d1
      cases d1
    have D := Draws.tuple (prog := X.prog) (w := X.w) (A := X.A.in1) (I.ok.hd hc) it a nit its.toArray
    have hT0 : s.TypeIs (.ref e) "enumerate" := ⟨_, he, rfl⟩
    unfold pyNext
    refine wpAny_bind (wpAny_attempt (wpAny_callSpecial?_slot (name := Str.ofString "__next__") hT0 F.slot_enumerate_next (wpAny_call_entry F.slot_enumerate_next hT0 F.entry_enumerate_next ?_ (F.args_enumerate_next_1 _))))
    show wpAny _ _ (field (.ref e) 2 >>= _) _ _ _
    refine wpAny_bind (wpAny_field he rfl (x := .ref it) rfl ?_)
    refine wpAny_bind (wpAny_nextOf_tuple_end (I.ok.hd hc) hit hT (by simp; omega) fun h1 x1 eb ⟨o, ho, hc1⟩ => ?_)
    refine wpAny_bind (wpAny_isInstance (T := "StopIteration") (b := true) ⟨o, ho, hc1⟩ isSubtype_stop ?_)
    exact wpAny_pure ⟨rfl, I.turned (t' := s.toks) (fun b o hb q => eb b o hb q) f0 f1 f3 f4 f5⟩
  self := fun A i s Q E st h => let ⟨⟨_, he⟩, _⟩ := st; wpAny_pyIter_enum he h
def iEnt (K : PySem.W.Frag) (ta : TA) : TI := fun σ H R => ta σ H fun vs H1 => ∃ a xs, vs = [.ref a] ∧ SqT K H1 a xs ∧ R (Ent K a) H1
theorem pi_ent {X : Cx} {e : Expr} {ta : TA} {p pos tpos : Pos} {elts : List Expr} {kk : Nat} (hg : Gl X "enumerate") (hm : X.mg "enumerate" = none) (ha : PA X [e] ta) (hs : starEach [e] X.env = [(false, eval e X.env)] := by rfl) :
    PI X (.Tuple elts kk tpos) (.Call (.Name "enumerate" p) [e] [] pos) (iEnt X.K ta) := by
  refine ⟨fun pins s σ H R I h => Call_ (ld_blt I hg hm boot_enumerate (PyProof.Rows.callWith_type1 (thn (ha.run pos pins s σ H _ I h) fun us s1 ⟨vs, H1, I1, r1, q1⟩ => ?_) hs rfl))⟩
  obtain ⟨a, xs, ex, hq, q⟩ := q1
  subst ex
  cases r1 with
  | cons r rr =>
    cases rr
    cases r
    obtain ⟨its, rv, pt, hz⟩ := I1.tuple hq
    refine begins1 (begins_tuple a its.toArray) pt fun h1 he hit hk => wpAny_pyIter_enum he ?_
    refine ⟨s1.heap.objs.size + 1, [s1.heap.objs.size + 1, s1.heap.objs.size], _, _, H1, rfl, I1.kept (t' := s1.toks) hk, turn_ent a (s1.heap.objs.size + 1) s1.heap.objs.size, ⟨⟨.none, he⟩, ⟨_, hit, rfl, rfl⟩, Nat.succ_ne_self _⟩, fun b hb => ?_, q⟩
    have low : s1.heap.objs.size ≤ b := by
      rcases List.mem_cons.mp hb with z | z
      · rw [z]; exact Nat.le_succ _
      · rw [List.mem_singleton.mp z]; exact Nat.le_refl _
    exact I1.fpOk low (I1.hok.fresh low)
theorem for_ent {K : PySem.W.Frag} {a : Addr} {xs : List V} {g : TG} {tb : TS} {D : Ends} {σ : L2.St} {H : Hp} (Pv : Nat → L2.St → Hp → Prop) (h0 : Pv 0 σ H) (hl : ∀ i σ H, i ≤ xs.length → Pv i σ H → SqT K H a xs)
    (hs : ∀ i x σ H T, xs[i]? = some x → Pv i σ H → H T = none → g (.ref T) σ (upd H T (.tup [.int (i : Nat), x])) fun σ2 H2 => tb { D with nx := Pv (i + 1), ct := Pv (i + 1), bk := D.nx } σ2 H2) (hd : ∀ σ H, Pv xs.length σ H → D.nx σ H) :
    ∃ W : Nat → Nat → L2.St → Hp → Prop, (∃ m, W 0 m σ H) ∧ ∀ i m σ H, W i m σ H →
      ((Ent K a).stop i H ∧ D.nx σ H) ∨ ((Ent K a).go i H ∧ ∃ N : L2.St → Hp → Prop, (∀ σ' H', N σ' H' → ∃ m', m' < m ∧ W (i + 1) m' σ' H') ∧ ∀ x H', (Ent K a).yld i H x H' → g x σ H' fun σ2 H2 => tb { D with nx := N, ct := N, bk := D.nx } σ2 H2) := by
  refine ⟨fun i m σ H => m = xs.length - i ∧ i ≤ xs.length ∧ Pv i σ H, ⟨xs.length, by simp, Nat.zero_le _, h0⟩, ?_⟩
  rintro i m σ H ⟨rfl, hi, p⟩
  have q := hl i σ H hi p
  by_cases lt : i < xs.length
  · have at_ : xs[i]? = some xs[i] := List.getElem?_eq_getElem lt
    refine .inr ⟨⟨xs, xs[i], q, at_⟩, Pv (i + 1), fun σ1 H1 p1 => ⟨xs.length - (i + 1), by omega, rfl, lt, p1⟩, fun y H1 ⟨T, x, ey, hT, eH, hx⟩ => ?_⟩
    subst ey eH
    exact hs i x σ H T (hx xs q) p hT
  · obtain rfl : i = xs.length := by omega
    exact .inl ⟨⟨xs, q, Nat.le_refl _⟩, hd σ H p⟩
theorem for_enl {K : PySem.W.Frag} {a : Addr} {xs : List V} {g : TG} {tb : TS} {D : Ends} {σ : L2.St} {H : Hp} (Pv : Nat → L2.St → Hp → Prop) (h0 : Pv 0 σ H) (hl : ∀ i σ H, i ≤ xs.length → Pv i σ H → SqL K H a xs)
    (hs : ∀ i x σ H T, xs[i]? = some x → Pv i σ H → H T = none → g (.ref T) σ (upd H T (.tup [.int (i : Nat), x])) fun σ2 H2 => tb { D with nx := Pv (i + 1), ct := Pv (i + 1), bk := D.nx } σ2 H2) (hd : ∀ σ H, Pv xs.length σ H → D.nx σ H) :
    ∃ W : Nat → Nat → L2.St → Hp → Prop, (∃ m, W 0 m σ H) ∧ ∀ i m σ H, W i m σ H →
      ((Ite K a).stop i H ∧ D.nx σ H) ∨ ((Ite K a).go i H ∧ ∃ N : L2.St → Hp → Prop, (∀ σ' H', N σ' H' → ∃ m', m' < m ∧ W (i + 1) m' σ' H') ∧ ∀ x H', (Ite K a).yld i H x H' → g x σ H' fun σ2 H2 => tb { D with nx := N, ct := N, bk := D.nx } σ2 H2) := by
  refine ⟨fun i m σ H => m = xs.length - i ∧ i ≤ xs.length ∧ Pv i σ H, ⟨xs.length, by simp, Nat.zero_le _, h0⟩, ?_⟩
  rintro i m σ H ⟨rfl, hi, p⟩
  have q := hl i σ H hi p
  by_cases lt : i < xs.length
  · have at_ : xs[i]? = some xs[i] := List.getElem?_eq_getElem lt
    refine .inr ⟨⟨xs, xs[i], q, at_⟩, Pv (i + 1), fun σ1 H1 p1 => ⟨xs.length - (i + 1), by omega, rfl, lt, p1⟩, fun y H1 ⟨T, x, ey, hT, eH, hx⟩ => ?_⟩
    subst ey eH
    exact hs i x σ H T (hx xs q) p hT
  · obtain rfl : i = xs.length := by omega
    exact .inl ⟨⟨xs, q, Nat.le_refl _⟩, hd σ H p⟩
end NEn

set_option Elab.async false
set_option linter.all false
set_option maxRecDepth 100000
set_option maxHeartbeats 4000000
/-! xs.extend(t), t a tuple. -/
namespace NEX
open PySem PySem.Spec PyProof.Rows L2
section
variable {X : Cx}
def rExtendT (K : PySem.W.Frag) : V → List V → Hp → VK → Prop := fun x vs H Q => ∃ l b xs zs, x = .ref l ∧ vs = [.ref b] ∧ H l = some (.lst xs) ∧ SqT K H b zs ∧ xs.length + zs.length ≤ sizeLine ∧ Q .non (upd H l (.lst (xs ++ zs)))
theorem mt_extendT : MtM X "list.extend" (rExtendT X.K) := by
  intro pins s σ H x vs v us Q I rx rv h
  obtain ⟨l, b, xs, zs, rfl, rfl, hH, hB, hz, q⟩ := h
  cases rx
  obtain ⟨u, rfl, ru⟩ := rv.one
  cases ru
  obtain ⟨z, its, n, r, hl, e⟩ := I.lstM hH
  obtain ⟨its2, r2, ⟨o2, e2, c2, n2, d2⟩, hl2⟩ := I.tuple hB
  have hl3 := r2.length
  refine wpAny_call_entry F.slot_list_extend ⟨_, e, rfl⟩ F.entry_list_extend ?_ (F.args_list_extend_2 _ _)
  have hsz : its.toArray.size + its2.toArray.size ≤ sizeLine := by rw [List.size_toArray, List.size_toArray]; omega
  have hlong : (!its.toArray.isEmpty && Builtin.List.listTooLong (its.toArray.size + its2.toArray.size)) = false := by
    unfold Builtin.List.listTooLong
    rw [decide_eq_false (by omega), Bool.and_false]
  unfold Builtin.«list.extend»
  show wpAny _ X.A.in1 (Builtin.List.listExtendWith (.ref l) (.ref b) .none) _ _ _
  unfold Builtin.List.listExtendWith
  refine wpAny_bind (wpAny_typeOf ⟨o2, e2, c2⟩ ?_)
  have h1 : (Builtin.List.listSameRef (.ref l) (.ref b) || Value.type "tuple" == Value.type "list" || Value.type "tuple" == Value.type "tuple") = true := by simp
  simp only [h1, if_true]
  refine wpAny_bind ?_
  unfold Builtin.List.listItems
  refine wpAny_bind (wpAny_seqItems e2 d2 (wpAny_pure ?_))
  refine wpAny_bind ?_
  refine wpAny_bind (wpAny_seqItems e rfl (wpAny_pure ?_))
  simp only [hlong, Bool.false_eq_true, if_false]
  show wpAny _ X.A.in1 (updateSeq l (· ++ its2.toArray) >>= fun _ => ret .none) _ _ s
  refine wpAny_bind (wpAny_updateSeq e rfl ?_ (by rw [List.size_toArray]; omega) (by rw [Array.size_append]; omega))
  refine wpAny_pure ⟨_, rfl, .non, _, I.lset (its' := its ++ its2) hH e (by simp) (r.append r2) ?_, rfl, q⟩
  rw [List.length_append]
  exact hz
end
end NEX

set_option Elab.async false
set_option linter.all false
set_option maxRecDepth 100000
set_option maxHeartbeats 4000000
/-! Walks over what is a list or a tuple. -/
namespace NI
open PySem L2 LamX
abbrev Sq (K : PySem.W.Frag) (H : Hp) (a : Addr) (xs : List V) : Prop := SqL K H a xs ∨ SqT K H a xs
theorem sqL_same {K : PySem.W.Frag} {H H2 : Hp} {a : Addr} {xs : List V} (s : Same H H2) (h : SqL K H a xs) : SqL K H2 a xs := by
  rcases h with (h | ⟨o, h⟩) | h
  · exact .inl (.inl (s _ _ h))
  · exact .inl (.inr ⟨o, s _ _ h⟩)
  · exact .inr h
theorem sqT_same {K : PySem.W.Frag} {H H2 : Hp} {a : Addr} {xs : List V} (s : Same H H2) (h : SqT K H a xs) : SqT K H2 a xs := by
  rcases h with (h | ⟨o, h⟩) | h
  · exact .inl (.inl (s _ _ h))
  · exact .inl (.inr ⟨o, s _ _ h⟩)
  · exact .inr h
theorem Sq.same {K : PySem.W.Frag} {H H2 : Hp} {a : Addr} {xs : List V} (s : Same H H2) (h : Sq K H a xs) : Sq K H2 a xs := h.imp (sqL_same s) (sqT_same s)
theorem pi_either {X : Cx} {tg l : Expr} {w1 w2 : TI} (h1 : PI X tg l w1) (h2 : PI X tg l w2) : PI X tg l (fun σ H R => w1 σ H R ∨ w2 σ H R) := ⟨fun pins s σ H R I h => h.elim (h1.run pins s σ H R I) (h2.run pins s σ H R I)⟩
theorem for_either {K : PySem.W.Frag} {j : Nat} {a : Addr} {xs : List V} {g : TG} {tb : TS} {D : Ends} {σ : L2.St} {H H0 : Hp} (hv : σ[j]? = some (some (.ref a))) (hS : Sq K H0 a xs) (Pv : Nat → L2.St → Hp → Prop) (h0 : Pv 0 σ H) (hk : ∀ i σ2 H2, Pv i σ2 H2 → Same H0 H2)
    (hs : ∀ i x σ1 H1, xs[i]? = some x → Pv i σ1 H1 → g x σ1 H1 fun σ2 H2 => tb { D with nx := Pv (i + 1), ct := Pv (i + 1), bk := D.nx } σ2 H2) (hd : ∀ σ1 H1, Pv xs.length σ1 H1 → D.nx σ1 H1) :
    tFor (fun σ H R => iList K (tVar j) σ H R ∨ iTup K (tVar j) σ H R) g tb D σ H := by
  rcases hS with h | h
  · exact .inl ⟨_, hv, a, rfl, ⟨xs, sqL_same (hk 0 σ H h0) h⟩, for_list (xs := xs) Pv h0 (fun i σ2 H2 _ p => sqL_same (hk i σ2 H2 p) h) hs hd⟩
  · exact .inr ⟨_, hv, a, rfl, ⟨xs, sqT_same (hk 0 σ H h0) h⟩, for_tup (xs := xs) Pv h0 (fun i σ2 H2 _ p => sqT_same (hk i σ2 H2 p) h) hs hd⟩
theorem tyOf_ext {K : PySem.W.Frag} {H H' : Hp} {v : V} {t : Value} (s : ExtN H H') (h : TyOf K H v t) : TyOf K H' v t := by
  cases h with
  | non => exact .non
  | bl x => exact .bl x
  | int x => exact .int x
  | str x => exact .str x
  | flt x => exact .flt x
  | lst h => exact .lst (s _ _ h (by intro p e; cases e))
  | frz h => exact .frz (s _ _ h (by intro p e; cases e))
  | tup h => exact .tup (s _ _ h (by intro p e; cases e))
  | dK h => exact .dK (s _ _ h (by intro p e; cases e))
  | dT h => exact .dT (s _ _ h (by intro p e; cases e))
  | ins h a b c d e => exact .ins (s _ _ h (by intro p e; cases e)) a b c d e
theorem tyX_ext {K : PySem.W.Frag} {H H' : Hp} {v : V} {t : Value} (s : ExtN H H') (h : TyX K H v t) : TyX K H' v t := by
  cases h with
  | base h => exact .base (tyOf_ext s h)
  | byt b => exact .byt b
  | set h => exact .set (s _ _ h (by intro p e; cases e))
  | kList a b => exact .kList a b
  | kTuple a b => exact .kTuple a b
  | kDict a b => exact .kDict a b
  | fTuple h => exact .fTuple (s _ _ h (by intro p e; cases e))
  | fDict h => exact .fDict (s _ _ h (by intro p e; cases e))
theorem sqL_ext {K : PySem.W.Frag} {H H2 : Hp} {a : Addr} {xs : List V} (s : ExtN H H2) (h : SqL K H a xs) : SqL K H2 a xs := by
  rcases h with (h | ⟨o, h⟩) | h
  · exact .inl (.inl (s _ _ h (by intro p e; cases e)))
  · exact .inl (.inr ⟨o, s _ _ h (by intro p e; cases e)⟩)
  · exact .inr h
theorem sqT_ext {K : PySem.W.Frag} {H H2 : Hp} {a : Addr} {xs : List V} (s : ExtN H H2) (h : SqT K H a xs) : SqT K H2 a xs := by
  rcases h with (h | ⟨o, h⟩) | h
  · exact .inl (.inl (s _ _ h (by intro p e; cases e)))
  · exact .inl (.inr ⟨o, s _ _ h (by intro p e; cases e)⟩)
  · exact .inr h
theorem Sq.ext {K : PySem.W.Frag} {H H2 : Hp} {a : Addr} {xs : List V} (s : ExtN H H2) (h : Sq K H a xs) : Sq K H2 a xs := by
  rcases h with ((h | ⟨o, h⟩) | h) | ((h | ⟨o, h⟩) | h)
  · exact .inl (.inl (.inl (s _ _ h (by intro p e; cases e))))
  · exact .inl (.inl (.inr ⟨o, s _ _ h (by intro p e; cases e)⟩))
  · exact .inl (.inr h)
  · exact .inr (.inl (.inl (s _ _ h (by intro p e; cases e))))
  · exact .inr (.inl (.inr ⟨o, s _ _ h (by intro p e; cases e)⟩))
  · exact .inr (.inr h)
/-- an instance is written, a list or a tuple stays -/
theorem sqT_put {K : PySem.W.Frag} {H : Hp} {a x C dx : Addr} {fs : List (Str × V)} {o : HO} {xs : List V} (hx : H x = some (.ins C dx fs)) (h : SqT K H a xs) : SqT K (upd H x o) a xs := by
  have ne : ∀ {u : HO}, H a = some u → (∀ C dx fs, u ≠ .ins C dx fs) → a ≠ x := fun e n z => by
    rw [z, hx] at e
    exact n _ _ _ (Option.some.inj e).symm
  rcases h with (h | ⟨o1, h⟩) | h
  · exact .inl (.inl ((upd_ne (ne h (by intro C dx fs e; cases e))).trans h))
  · exact .inl (.inr ⟨o1, (upd_ne (ne h (by intro C dx fs e; cases e))).trans h⟩)
  · exact .inr h
theorem sqL_put {K : PySem.W.Frag} {H : Hp} {a x C dx : Addr} {fs : List (Str × V)} {o : HO} {xs : List V} (hx : H x = some (.ins C dx fs)) (h : SqL K H a xs) : SqL K (upd H x o) a xs := by
  have ne : ∀ {u : HO}, H a = some u → (∀ C dx fs, u ≠ .ins C dx fs) → a ≠ x := fun e n z => by
    rw [z, hx] at e
    exact n _ _ _ (Option.some.inj e).symm
  rcases h with (h | ⟨o1, h⟩) | h
  · exact .inl (.inl ((upd_ne (ne h (by intro C dx fs e; cases e))).trans h))
  · exact .inl (.inr ⟨o1, (upd_ne (ne h (by intro C dx fs e; cases e))).trans h⟩)
  · exact .inr h
theorem same_refl {H : Hp} : Same H H := fun _ _ e => e
end NI

set_option Elab.async false
set_option linter.all false
set_option maxRecDepth 100000
set_option maxHeartbeats 4000000
namespace K06
open PySem L2 NX NU
open PyProof.Rows (sortedS)
abbrev sNum : Stmt := top 21
abbrev sCnt : Stmt := top 22
abbrev sPri : Stmt := top 23
theorem scNum : FnScope ["value"] ["value"] (defScope sNum) := ⟨rfl, rfl, rfl, by decide +kernel, rfl, by decide +kernel, by decide +kernel⟩
theorem scCnt : FnScope ["value"] ["value"] (defScope sCnt) := ⟨rfl, rfl, rfl, by decide +kernel, rfl, by decide +kernel, by decide +kernel⟩
theorem scPri : FnScope ["value"] ["value"] (defScope sPri) := ⟨rfl, rfl, rfl, by decide +kernel, rfl, by decide +kernel, by decide +kernel⟩
structure TxtP (mg : Str → Option Value) : Prop where
  bbool : mg "bool" = none
  bdict : mg "dict" = none
  brev : mg "reversed" = none
  mp : ∃ t, mg "MOST_PRICE" = some (.int 9 t)
def spNum : Sp := fun vs H Q _ => ∃ n : Int, vs = [.int n] ∧ Q (.bl true) H
def spCnt : Sp := fun vs H Q _ => ∃ n : Int, vs = [.int n] ∧ 0 ≤ n ∧ Q (.bl true) H
def spPri : Sp := fun vs H Q _ => ∃ n : Int, vs = [.int n] ∧ 0 ≤ n ∧ n ≤ 9 ∧ Q (.bl true) H
/-- names, in a list or a tuple -/
def spCnsS (K : PySem.W.Frag) : Sp := fun vs H Q _ => ∃ (p : Addr) (ws : List Str), vs = [.ref p] ∧ NI.Sq K H p (ws.map V.str) ∧ Nms ws ∧ Q .non H
def spCunS (K : PySem.W.Frag) : Sp := fun vs H Q _ => ∃ (p : Addr) (ws : List Str), vs = [.ref p] ∧ NI.Sq K H p (ws.map V.str) ∧ ws.length ≤ 1000 ∧ NoRep ws ∧ ∀ H', Same H H' → Q .non H'
/-- ascending(names), names not more than those of a short pool -/
def spAscM (K : PySem.W.Frag) : Sp := fun vs H Q _ => ∃ (p : Addr) (ws pool : List Str), vs = [.ref p] ∧ NI.Sq K H p (ws.map V.str) ∧ ws.length ≤ 1000 ∧ (∀ z ∈ ws, z ∈ pool) ∧ pool.length < 64 ∧
  ∀ (ys : List Str) q H', Asc ys ws → Same H H' → H q = none → H' q = some (.tup (ys.map V.str)) → Q (.ref q) H'
theorem Asc.few {ys ws pool : List Str} (h : Asc ys ws) (k : ∀ z ∈ ws, z ∈ pool) : ys.length ≤ pool.length := by
  rw [← many_of ys h.2.1]
  exact many_in ys pool fun x hx => k x ((h.2.2 x).mp hx)
section
variable {P : Program} {w : World} {K : PySem.W.Frag} {mg : Str → Option Value} {base : Heap}
theorem ok_num {f : Addr} {fd : FuncData} (F : Fun K "is_number" "is_number" sNum f fd) (T : TxtB mg) (N : TxtP mg) : FnOk P w K mg base CX0 1 f fd ["value"] spNum := by
  refine F.ok scNum (fun vs H Q E h => ?_) (fun cdv A outer s H vs Q E hr h => ?_)
  · obtain ⟨n, rfl, _⟩ := h
    rfl
  · obtain ⟨n, rfl, q⟩ := h
    refine ⟨_, pss_one (ps_ret (pe_and (pe_callB call_isi (by rfl) T.bisinstance (by decide +kernel) (pa_cons (pv 0) (pa_cons (pe_bltn (v := .ty "int") (by rfl) T.bint (by decide +kernel) rfl) pa_nil)))
      (pe_one (pe_not (pe_callB call_isi (by rfl) T.bisinstance (by decide +kernel) (pa_cons (pv 0) (pa_cons (pe_bltn (v := .ty "bool") (by rfl) N.bbool (by decide +kernel) rfl) pa_nil))))))), ?_⟩
    refine ⟨_, rfl, _, _, _, _, true, rfl, .ty "int", .base (.int _), kit_ty (by decide +kernel), true, rfl, ?_⟩
    exact iteT ⟨_, rfl, _, _, _, _, false, rfl, .ty "bool", .base (.int _), kit_ty (by decide +kernel), false, rfl, q⟩
theorem ok_cnt {f : Addr} {fd : FuncData} (F : Fun K "is_count" "is_count" sCnt f fd) (cNum : C8.Cal P w K mg base 1 "is_number" spNum []) : FnOk P w K mg base CX0 2 f fd ["value"] spCnt := by
  refine F.ok scCnt (fun vs H Q E h => ?_) (fun cdv A outer s H vs Q E hr h => ?_)
  · obtain ⟨n, rfl, _⟩ := h
    rfl
  · obtain ⟨n, rfl, h0, q⟩ := h
    refine ⟨_, pss_one (ps_ret (pe_and (C8.pe_c cNum hr (by decide) rfl (pa_cons (pv 0) pa_nil)) (pe_one (pe_cmpR op_ge (pv 0) pe_int (nomark _))))), ?_⟩
    refine ⟨_, rfl, n, rfl, true, rfl, iteT ⟨_, rfl, n, 0, rfl, rfl, ?_⟩⟩
    show Q (.bl (decide (0 ≤ n))) H
    rw [decide_eq_true h0]
    exact q
theorem ok_pri {f : Addr} {fd : FuncData} (F : Fun K "is_price" "is_price" sPri f fd) (N : TxtP mg) (cCnt : C8.Cal P w K mg base 2 "is_count" spCnt []) : FnOk P w K mg base CX0 3 f fd ["value"] spPri := by
  refine F.ok scPri (fun vs H Q E h => ?_) (fun cdv A outer s H vs Q E hr h => ?_)
  · obtain ⟨n, rfl, _⟩ := h
    rfl
  · obtain ⟨n, rfl, h0, h9, q⟩ := h
    obtain ⟨t9, e9⟩ := N.mp
    refine ⟨_, pss_one (ps_ret (pe_and (C8.pe_c cCnt hr (by decide) rfl (pa_cons (pv 0) pa_nil)) (pe_one (pe_cmpR op_le (pv 0) (pe_glob (v := .int 9) rfl e9 ⟨t9, rfl⟩) (nomark _))))), ?_⟩
    refine ⟨_, rfl, n, rfl, h0, true, rfl, iteT ⟨_, rfl, n, 9, rfl, rfl, ?_⟩⟩
    show Q (.bl (decide (n ≤ 9))) H
    rw [decide_eq_true h9]
    exact q
theorem ok_cnsS {f : Addr} {fd : FuncData} (F : Fun K "check_names" "check_names" sCns f fd) (cIs : C8.Cal P w K mg base 1 "is_name" (spIs K) []) : FnOk P w K mg base CX0 2 f fd ["values"] (spCnsS K) := by
  refine F.ok scCns (fun vs H Q E h => ?_) (fun cdv A outer s H vs Q E hr h => ?_)
  · obtain ⟨p, ws, rfl, _⟩ := h
    rfl
  · obtain ⟨p, ws, rfl, hS, hn, q⟩ := h
    refine ⟨_, (pss_one (ps_for PassesOwn.never rfl (NI.pi_either (pi_list (pv 0)) (pi_tup (pv 0))) (pg_name (i := 1) scCns.nd rfl (Or.inl rfl)) (pss_one (ps_if (pt_not (pt_val (C8.pe_c cIs hr (by decide) rfl (pa_cons (pv 1) pa_nil)))) pss_never pss_nil)))), ?_⟩
    refine NI.for_either (j := 0) rfl hS (fun i σ H' => H' = H ∧ ∃ y, σ = [some (.ref p), y]) ⟨rfl, _, rfl⟩ (fun i σ H2 ⟨e, _⟩ => by rw [e]; exact NI.same_refl) (fun i x σ H' hx ⟨e, y, eσ⟩ => ?_) (fun σ H' ⟨e, _⟩ => by rw [e]; exact q)
    subst e eσ
    rw [List.getElem?_map] at hx
    obtain ⟨z, hz, rfl⟩ := Option.map_eq_some_iff.mp hx
    obtain ⟨h1, h2⟩ := hn z (List.mem_of_getElem? hz)
    refine ⟨_, rfl, _, rfl, .inl ⟨z, rfl, h1, ?_⟩⟩
    rw [h2]
    exact ⟨_, rfl, iteF ⟨rfl, _, rfl⟩⟩
theorem ok_cunS {f : Addr} {fd : FuncData} (F : Fun K "check_unlike" "check_unlike" sCun f fd) : FnOk P w K mg base CX0 1 f fd ["names"] (spCunS K) := by
  refine F.ok scCun (fun vs H Q E h => ?_) (fun cdv A outer s H vs Q E hr h => ?_)
  · obtain ⟨p, ws, rfl, _⟩ := h
    rfl
  · obtain ⟨p, ws, rfl, hS, few, nr, q⟩ := h
    have hu := hu_of hr
    refine ⟨_, (pss_cons (ps_set (i := 1) scCun.nd rfl (Or.inl rfl) pe_dnewK) (pss_one (ps_for PassesOwn.never rfl (NI.pi_either (pi_list (pv 0)) (pi_tup (pv 0))) (pg_name (i := 2) scCun.nd rfl (Or.inl rfl))
      (pss_cons (ps_if (pt_cmp (pc_din hu (pv 2) (pv 1))) pss_never pss_nil)
        (pss_one (ps_dput hu (pv 1) (pv 2) pe_bl rfl)))))), ?_⟩
    intro d hd
    refine NI.for_either (j := 0) rfl hS (fun i σ H' => Same H H' ∧ (∃ kvs, H' d = some (.dK kvs) ∧ kvs.length ≤ i ∧ ∀ y : Str, (valV kvs (.inr y)).isSome = decide (y ∈ ws.take i)) ∧ ∃ y, σ = [some (.ref p), some (.ref d), y])
      ⟨Same.new hd, ⟨[], upd_same, Nat.le_refl _, fun y => by simp [valV]⟩, _, rfl⟩ (fun i σ H2 ⟨s, _⟩ => s) (fun i x σ H' hx ⟨s, ⟨kvs, g, l, k⟩, y, eσ⟩ => ?_) (fun σ H' ⟨s, _⟩ => q _ s)
    subst eσ
    rw [List.getElem?_map] at hx
    obtain ⟨z, hz, rfl⟩ := Option.map_eq_some_iff.mp hx
    have no := nr i z hz
    refine ⟨_, rfl, _, rfl, _, _, rfl, DGet.k (k := .inr z) g, ?_⟩
    rw [k z, decide_eq_false no]
    refine ⟨_, rfl, iteF ⟨_, rfl, _, rfl, _, _, rfl, DPut.k (k := .inr z) g (by have := (List.getElem?_eq_some_iff.mp hz).1; rw [sizeLine_eq]; omega), fun b o hb => ?_, ⟨_, upd_same, Nat.le_trans (length_putK kvs _ _) (by omega), fun y => ?_⟩, _, rfl⟩⟩
    · have ne : b ≠ d := fun e => by rw [e, hd] at hb; cases hb
      rw [upd_ne ne]
      exact s b o hb
    · rw [valV_put, List.take_add_one, hz]
      by_cases e : y = z
      · subst e
        rw [if_pos rfl]
        simp
      · rw [if_neg (fun q => e (Sum.inr.inj q)), k y]
        simp [e]
theorem ok_ascM {f : Addr} {fd : FuncData} (F : Fun K "ascending" "ascending" sAsc f fd) (T : TxtA mg) : FnOk P w K mg base CX0 1 f fd ["names"] (spAscM K) := by
  refine F.ok scAsc (fun vs H Q E h => ?_) (fun cdv A outer s H vs Q E hr h => ?_)
  · obtain ⟨p, ws, pool, rfl, _⟩ := h
    rfl
  · obtain ⟨p, ws, pool, rfl, hS, few, hp, h64, q⟩ := h
    refine ⟨_, (pss_one (ps_ret (pe_callTy call_tuple_of (by rfl) T.btuple (by decide +kernel) (pa_cons (pe_callB (cr_srtM rfl) (by rfl) T.bsorted (by decide +kernel) (pa_cons (pe_callTy (cr_setX rfl) (by rfl) T.bset (by decide +kernel) (pa_cons (pv 0) pa_nil)) pa_nil)) pa_nil)))), ?_⟩
    refine ⟨_, rfl, p, ws, rfl, hS, few, fun a ha => ⟨a, ws, rfl, upd_same, Nat.lt_of_le_of_lt (many_in ws pool hp) h64, fun ys b srt nd mm hb => ?_⟩⟩
    refine ⟨b, _, rfl, .inl ⟨SqL.of upd_same, fun l hl => ?_⟩⟩
    have s1 : Same H (upd H a (SetX w a ws)) := Same.new ha
    have s2 := s1.trans (Same.new (o := .lst (ys.map V.str)) hb)
    exact q ys l _ ⟨srt, nd, mm⟩ (s2.trans (Same.new hl)) (sameNone s2 hl) upd_same
end
end K06

set_option Elab.async false
set_option linter.all false
set_option maxRecDepth 100000
set_option maxHeartbeats 4000000
/-! The parts of a program: what the checks ask of them. -/
namespace K06
open PySem L2 NX NU
open PyProof.Rows (sortedS)
abbrev sCp : Stmt := top 52
abbrev sCz : Stmt := top 53
theorem scCp : FnScope ["parts"] ["parts"] (defScope sCp) := ⟨rfl, rfl, rfl, by decide +kernel, rfl, by decide +kernel, by decide +kernel⟩
theorem scCz : FnScope ["parts", "outside", "part", "size", "most"] ["parts"] (defScope sCz) := ⟨rfl, rfl, rfl, by decide +kernel, rfl, by decide +kernel, by decide +kernel⟩
abbrev Act := Option Str × List Str
/-- deeds at the addresses xs -/
def AllAt (d : D3) (H : Hp) (xs : List Addr) (as : List Act) : Prop := xs.length = as.length ∧ ∀ (i : Nat) x a, xs[i]? = some x → as[i]? = some a → ∃ ys, IsD d H x a.1 a.2 ys
theorem AllAt.same {d : D3} {H H' : Hp} {xs : List Addr} {as : List Act} (s : Same H H') (h : AllAt d H xs as) : AllAt d H' xs as := ⟨h.1, fun i x a e1 e2 => (h.2 i x a e1 e2).imp fun _ q => q.same s⟩
def Deeds (K : PySem.W.Frag) (d : D3) (H : Hp) (p : Addr) (as : List Act) : Prop := ∃ xs : List Addr, SqT K H p (xs.map V.ref) ∧ AllAt d H xs as
theorem Deeds.same {K : PySem.W.Frag} {d : D3} {H H' : Hp} {p : Addr} {as : List Act} (s : Same H H') (h : Deeds K d H p as) : Deeds K d H' p as := h.imp fun _ q => ⟨sqT_same s q.1, q.2.same s⟩
def PartA (K : PySem.W.Frag) (d : D3) (H : Hp) (v : V) : Option (List Act) → Prop
  | none => v = .non
  | some as => ∃ p, v = .ref p ∧ Deeds K d H p as
theorem PartA.same {K : PySem.W.Frag} {d : D3} {H H' : Hp} {v : V} (s : Same H H') : ∀ {o : Option (List Act)}, PartA K d H v o → PartA K d H' v o
  | none, h => h
  | some _, ⟨p, e, h⟩ => ⟨p, e, h.same s⟩
/-- the parts of a program -/
structure Prg where
  a : List Act
  l : Option (List Act)
  b : List Act
  s : Option (List Act)
  h : List Act
def Prg.at (g : Prg) : Nat → Option (List Act)
  | 0 => some g.a
  | 1 => g.l
  | 2 => some g.b
  | 3 => g.s
  | _ => some g.h
def partN : List Str := ["ahead", "loop", "between", "second", "behind"]
def kvsP (v0 v1 v2 v3 v4 : V) : List (Key × V) := [(.inr "ahead", v0), (.inr "loop", v1), (.inr "between", v2), (.inr "second", v3), (.inr "behind", v4)]
/-- the dict of parts at P -/
def PartsD (K : PySem.W.Frag) (d : D3) (H : Hp) (P : Addr) (g : Prg) : Prop := ∃ v0 v1 v2 v3 v4, H P = some (.dK (kvsP v0 v1 v2 v3 v4)) ∧ PartA K d H v0 (some g.a) ∧ PartA K d H v1 g.l ∧ PartA K d H v2 (some g.b) ∧ PartA K d H v3 g.s ∧ PartA K d H v4 (some g.h)
theorem PartsD.same {K : PySem.W.Frag} {d : D3} {H H' : Hp} {P : Addr} {g : Prg} (s : Same H H') (h : PartsD K d H P g) : PartsD K d H' P g := by
  obtain ⟨v0, v1, v2, v3, v4, e, h0, h1, h2, h3, h4⟩ := h
  exact ⟨v0, v1, v2, v3, v4, s _ _ e, h0.same s, h1.same s, h2.same s, h3.same s, h4.same s⟩
theorem PartsD.get {K : PySem.W.Frag} {d : D3} {H : Hp} {P : Addr} {g : Prg} (h : PartsD K d H P g) (i : Nat) {z : Str} (hz : partN[i]? = some z) : ∃ v, DGet H P (.str z) (some v) ∧ PartA K d H v (g.at i) := by
  obtain ⟨v0, v1, v2, v3, v4, e, h0, h1, h2, h3, h4⟩ := h
  match i, hz with
  | 0, hz => cases hz; exact ⟨v0, DGet.k (k := .inr "ahead") e, h0⟩
  | 1, hz => cases hz; exact ⟨v1, DGet.k (k := .inr "loop") e, h1⟩
  | 2, hz => cases hz; exact ⟨v2, DGet.k (k := .inr "between") e, h2⟩
  | 3, hz => cases hz; exact ⟨v3, DGet.k (k := .inr "second") e, h3⟩
  | 4, hz => cases hz; exact ⟨v4, DGet.k (k := .inr "behind") e, h4⟩
  | n + 5, hz => cases hz
/-- parts[..] or () -/
theorem PartA.or {K : PySem.W.Frag} {d : D3} {H : Hp} {v : V} {σ : L2.St} {Q : VK} {o : Option (List Act)} (h : PartA K d H v o) (q : ∀ p H', Same H H' → Deeds K d H' p (o.getD []) → Q (.ref p) H') : ∃ k, TruV K v H k ∧ if k = true then Q v H else tTup tNil σ H Q := by
  have emp : tTup tNil σ H fun x H' => (o.getD [] = [] → Q x H') := ⟨by show 0 ≤ sizeLine; decide, fun t ht e => by
    refine q t _ (Same.new ht) ?_
    rw [e]
    exact ⟨[], SqT.of upd_same, rfl, fun i x a h1 => by cases h1⟩⟩
  cases o with
  | none =>
    obtain rfl : v = .non := h
    exact ⟨false, rfl, iteF ⟨emp.1, fun t ht => emp.2 t ht rfl⟩⟩
  | some as =>
    obtain ⟨p, rfl, xs, e, hx⟩ := h
    refine ⟨!(xs.map V.ref).isEmpty, .inr (.inl ⟨_, e, rfl⟩), ?_⟩
    cases xs with
    | nil =>
      have ea : as = [] := List.length_eq_zero_iff.mp hx.1.symm
      exact iteF ⟨emp.1, fun t ht => emp.2 t ht ea⟩
    | cons x r => exact iteT (q p H (Same.refl H) ⟨_, e, hx⟩)
/-- what the checks ask of the parts -/
structure Prg.Shape (g : Prg) : Prop where
  l : g.l = none → g.b = [] ∧ g.s = none ∧ g.h = []
  s : g.s = none → g.b = []
structure Prg.Sizes (g : Prg) : Prop where
  a : g.a.length ≤ 200
  l : (g.l.getD []).length ≤ 24
  b : g.b.length ≤ 24
  s : (g.s.getD []).length ≤ 24
  h : g.h.length ≤ 24
  all : g.a.length + g.b.length + g.h.length ≤ 200
def spCp (K : PySem.W.Frag) (d : D3) : Sp := fun vs H Q _ => ∃ (P : Addr) (g : Prg), vs = [.ref P] ∧ PartsD K d H P g ∧ g.Shape ∧ Q .non H
def spCz (K : PySem.W.Frag) (d : D3) : Sp := fun vs H Q _ => ∃ (P : Addr) (g : Prg), vs = [.ref P] ∧ PartsD K d H P g ∧ g.Sizes ∧ ∀ H', Same H H' → Q .non H'
/-- the module's constants -/
structure TxtQ (mg : Str → Option Value) (K : PySem.W.Frag) : Prop where
  parts : ∃ a, mg "PARTS" = some (.ref a) ∧ ∀ H : Hp, SqT K H a (partN.map V.str)
  loops : ∃ a, mg "LOOPS" = some (.ref a) ∧ ∀ H : Hp, SqT K H a (([ "loop", "second" ] : List Str).map V.str)
  ma : ∃ t, mg "MOST_AHEAD" = some (.int 200 t)
  mi : ∃ t, mg "MOST_IN_PART" = some (.int 24 t)
  mn : ∃ t, mg "MOST_NAMES" = some (.int 6 t)
theorem PartA.isNon {K : PySem.W.Frag} {d : D3} {H : Hp} {v : V} {o : Option (List Act)} (h : PartA K d H v o) : decide (v = V.non) = o.isNone := by
  cases o with
  | none => rw [show v = .non from h]; rfl
  | some as =>
    obtain ⟨p, rfl, _⟩ := h
    exact decide_eq_false (fun e => nomatch e)
theorem Deeds.tru {K : PySem.W.Frag} {d : D3} {H : Hp} {p : Addr} {as : List Act} (h : Deeds K d H p as) : TruV K (.ref p) H (!as.isEmpty) := by
  obtain ⟨xs, e, hx⟩ := h
  refine .inr (.inl ⟨_, e, ?_⟩)
  cases xs with
  | nil =>
    have ea : as = [] := List.length_eq_zero_iff.mp hx.1.symm
    rw [ea]
    rfl
  | cons x r =>
    cases as with
    | nil => cases hx.1
    | cons a q => rfl
section
variable {P : Program} {w : World} {K : PySem.W.Frag} {mg : Str → Option Value} {base : Heap}
theorem ok_cp {d : D3} {f : Addr} {fd : FuncData} (F : Fun K "check_parts" "check_parts" sCp f fd) : FnOk P w K mg base CX0 1 f fd ["parts"] (spCp K d) := by
  refine F.ok scCp (fun vs H Q E h => ?_) (fun cdv A outer s H vs Q E hr h => ?_)
  · obtain ⟨p, g, rfl, _⟩ := h
    rfl
  · obtain ⟨p, g, rfl, hP, sh, q⟩ := h
    have hu := hu_of hr
    refine ⟨_, (pss_one (ps_if (pt_cmpR op_isN (pe_dget hu (pv 0) pe_str (fun _ _ => rfl)) pe_non (nomark _))
      (pss_cons (ps_if (pt_truth (pe_dget hu (pv 0) pe_str (fun _ _ => rfl)) (fun _ => rfl)) pss_never pss_nil)
      (pss_cons (ps_if (pt_cmpR op_notN (pe_dget hu (pv 0) pe_str (fun _ _ => rfl)) pe_non (nomark _)) pss_never pss_nil)
      (pss_one (ps_if (pt_truth (pe_dget hu (pv 0) pe_str (fun _ _ => rfl)) (fun _ => rfl)) pss_never pss_nil))))
      (pss_one (ps_if (PW.pt (pw_and (pt_truth (pe_dget hu (pv 0) pe_str (fun _ _ => rfl)) (fun _ => rfl)) (pw_and1 (pt_cmpR op_isN (pe_dget hu (pv 0) pe_str (fun _ _ => rfl)) pe_non (nomark _))))) pss_never pss_nil)))), ?_⟩
    obtain ⟨v1, g1, a1⟩ := hP.get 1 (z := "loop") rfl
    obtain ⟨v2, g2, a2⟩ := hP.get 2 (z := "between") rfl
    obtain ⟨v3, g3, a3⟩ := hP.get 3 (z := "second") rfl
    obtain ⟨v4, g4, a4⟩ := hP.get 4 (z := "behind") rfl
    have i1 := a1.isNon
    have i3 := a3.isNon
    obtain ⟨p2, rfl, d2⟩ := a2
    obtain ⟨p4, rfl, d4⟩ := a4
    have t2 := d2.tru (K := K)
    have t4 := d4.tru (K := K)
    refine ⟨_, rfl, p, v1, rfl, g1, rfl, _, rfl, ?_⟩
    rw [i1]
    have e1 : (g.at 1) = g.l := rfl
    have e3 : (g.at 3) = g.s := rfl
    rw [e1]
    rw [e3] at i3
    cases hl : g.l with
    | none =>
      obtain ⟨b0, s0, h0⟩ := sh.l hl
      rw [b0] at t2
      rw [h0] at t4
      rw [s0] at i3
      refine iteT ⟨_, rfl, p, _, rfl, g2, false, t2, iteF ⟨_, rfl, p, _, rfl, g3, rfl, _, rfl, ?_⟩⟩
      rw [i3]
      exact iteF ⟨_, rfl, p, _, rfl, g4, false, t4, iteF q⟩
    | some as =>
      refine iteF ⟨_, rfl, p, _, rfl, g2, _, t2, ?_⟩
      cases hb : g.b with
      | nil => exact iteF (iteF q)
      | cons x r =>
        refine iteT ⟨_, rfl, p, _, rfl, g3, rfl, _, rfl, ?_⟩
        rw [i3]
        cases hs : g.s with
        | none => rw [sh.s hs] at hb; cases hb
        | some q2 => exact iteF q
def Prg.outs (g : Prg) : Nat → Nat
  | 0 => 0
  | 1 => g.a.length
  | 2 => g.a.length
  | 3 => g.a.length + g.b.length
  | 4 => g.a.length + g.b.length
  | _ => g.a.length + g.b.length + g.h.length
theorem partF {i : Nat} {z : Str} (h : partN[i]? = some z) : i < 5 ∧ decide (V.str z = V.str (Str.ofString "ahead")) = decide (i = 0) := by
  match i, h with
  | 0, h => cases h; decide +kernel
  | 1, h => cases h; decide +kernel
  | 2, h => cases h; decide +kernel
  | 3, h => cases h; decide +kernel
  | 4, h => cases h; decide +kernel
  | n + 5, h => cases h
theorem ok_cz {d : D3} {f : Addr} {fd : FuncData} (F : Fun K "check_sizes" "check_sizes" sCz f fd) (T : TxtB mg) (TQ : TxtQ mg K) : FnOk P w K mg base CX0 1 f fd ["parts"] (spCz K d) := by
  refine F.ok scCz (fun vs H Q E h => ?_) (fun cdv A outer s H vs Q E hr h => ?_)
  · obtain ⟨p, g, rfl, _⟩ := h
    rfl
  · obtain ⟨p, g, rfl, hP, sz, q⟩ := h
    have hu := hu_of hr
    obtain ⟨aP, gP, sP⟩ := TQ.parts
    obtain ⟨aL, gL, sL⟩ := TQ.loops
    obtain ⟨t1, e1⟩ := TQ.ma
    obtain ⟨t2, e2⟩ := TQ.mi
    refine ⟨_, (pss_cons (ps_set (i := 1) scCz.nd rfl (Or.inl rfl) pe_int)
      (pss_cons (ps_for PassesOwn.never rfl (pi_tup (C8.pe_gc (v := .ref aP) rfl ⟨_, gP, rfl⟩)) (pg_name (i := 2) scCz.nd rfl (Or.inl rfl))
        (pss_cons (ps_set (i := 3) scCz.nd rfl (Or.inl rfl) (pe_callB call_len_seq (by rfl) T.blen (by decide +kernel) (pa_cons (pe_orT (pe_dget hu (pv 0) (pv 2) (fun _ _ => rfl)) (pe_one (pe_tup pa_nil))) pa_nil)))
        (pss_cons (ps_set (i := 4) scCz.nd rfl (Or.inl rfl) (pe_ifExp (pt_cmpR op_eq (pv 2) pe_str (nomark _)) (pe_glob (v := .int 200) rfl e1 ⟨_, rfl⟩) (pe_glob (v := .int 24) rfl e2 ⟨_, rfl⟩)))
        (pss_cons (ps_if (pt_cmpR op_gt (pv 3) (pv 4) (nomark _)) pss_never pss_nil)
        (pss_one (ps_if (pt_cmpR op_notIn_seq (pv 2) (C8.pe_gc (v := .ref aL) rfl ⟨_, gL, rfl⟩) rfl) (pss_one (ps_set (i := 1) scCz.nd rfl (Or.inl rfl) (pe_op op_add (pv 1) (pv 3)))) pss_nil))))))
      (pss_one (ps_if (pt_cmpR op_gt (pv 1) (pe_glob (v := .int 200) rfl e1 ⟨_, rfl⟩) (nomark _)) pss_never pss_nil)))), ?_⟩
    refine ⟨aP, rfl, ⟨_, sP _⟩, for_tup (xs := partN.map V.str) (fun i σ H' => Same H H' ∧ ∃ x2 x3 x4, σ = [some (.ref p), some (.int (g.outs i : Nat)), x2, x3, x4]) ⟨Same.refl H, _, _, _, rfl⟩ (fun i σ H' _ _ => sP H') (fun i x σ H' hx ⟨s1, x2, x3, x4, eσ⟩ => ?_) (fun σ H' ⟨s1, x2, x3, x4, eσ⟩ => ?_)⟩
    · subst eσ
      rw [List.getElem?_map] at hx
      obtain ⟨z, hz, rfl⟩ := Option.map_eq_some_iff.mp hx
      obtain ⟨v, hg, ha⟩ := (hP.same s1).get i hz
      obtain ⟨i5, ez⟩ := partF hz
      refine ⟨_, rfl, _, rfl, p, v, rfl, hg, ha.or fun p2 H2 s2 hd => ?_⟩
      obtain ⟨xs, hx2, hal⟩ := hd
      refine ⟨p2, _, rfl, .inr hx2, ?_⟩
      have lz := hal.1
      have mx : ((g.at i).getD []).length ≤ if i = 0 then 200 else 24 := by
        have : i = 0 ∨ i = 1 ∨ i = 2 ∨ i = 3 ∨ i = 4 := by omega
        rcases this with rfl | rfl | rfl | rfl | rfl
        · exact sz.a
        · exact sz.l
        · exact sz.b
        · exact sz.s
        · exact sz.h
      have inl : inV (V.str z) (([ "loop", "second" ] : List Str).map V.str) = decide (i = 1 ∨ i = 3) := by
        have : i = 0 ∨ i = 1 ∨ i = 2 ∨ i = 3 ∨ i = 4 := by omega
        rcases this with rfl | rfl | rfl | rfl | rfl <;> cases hz <;> decide +kernel
      have ou : (g.outs (i + 1) : Int) = g.outs i + if i = 1 ∨ i = 3 then 0 else (((g.at i).getD []).length : Int) := by
        have : i = 0 ∨ i = 1 ∨ i = 2 ∨ i = 3 ∨ i = 4 := by omega
        rcases this with rfl | rfl | rfl | rfl | rfl <;> simp [Prg.outs, Prg.at]
      refine ⟨_, rfl, rfl, _, rfl, ?_⟩
      rw [ez]
      refine ite2 (fun h0 => ?_) (fun h0 => ?_)
      · rw [if_pos (of_decide_eq_true h0)] at mx
        refine ⟨_, rfl, _, rfl, _, _, rfl, rfl, _, rfl, ite2 (fun h => ?_) (fun _ => ?_)⟩
        · have h := of_decide_eq_true h
          rw [List.length_map] at h
          exfalso
          omega
        · refine ⟨_, rfl, aL, _, rfl, .inr (sL _), rfl, by decide +kernel, _, rfl, ?_⟩
          rw [if_pos rfl, inl]
          by_cases hL : i = 1 ∨ i = 3
          · rw [decide_eq_true hL]
            rw [if_pos hL, Int.add_zero] at ou
            exact iteF ⟨s1.trans s2, _, _, _, by rw [ou]; rfl⟩
          · rw [decide_eq_false hL]
            rw [if_neg hL] at ou
            rw [← lz, ← List.length_map (f := V.ref)] at ou
            exact iteT ⟨_, rfl, _, rfl, _, _, rfl, rfl, s1.trans s2, _, _, _, by rw [ou]; rfl⟩
      · rw [if_neg (fun e => h0 (decide_eq_true e))] at mx
        refine ⟨_, rfl, _, rfl, _, _, rfl, rfl, _, rfl, ite2 (fun h => ?_) (fun _ => ?_)⟩
        · have h := of_decide_eq_true h
          rw [List.length_map] at h
          exfalso
          omega
        · refine ⟨_, rfl, aL, _, rfl, .inr (sL _), rfl, by decide +kernel, _, rfl, ?_⟩
          rw [if_pos rfl, inl]
          by_cases hL : i = 1 ∨ i = 3
          · rw [decide_eq_true hL]
            rw [if_pos hL, Int.add_zero] at ou
            exact iteF ⟨s1.trans s2, _, _, _, by rw [ou]; rfl⟩
          · rw [decide_eq_false hL]
            rw [if_neg hL] at ou
            rw [← lz, ← List.length_map (f := V.ref)] at ou
            exact iteT ⟨_, rfl, _, rfl, _, _, rfl, rfl, s1.trans s2, _, _, _, by rw [ou]; rfl⟩
    · subst eσ
      refine ⟨_, rfl, _, 200, rfl, rfl, _, rfl, ite2 (fun h => ?_) (fun _ => q _ s1)⟩
      have h := of_decide_eq_true h
      have e : g.outs (partN.map V.str).length = g.a.length + g.b.length + g.h.length := rfl
      rw [e] at h
      have := sz.all
      exfalso
      omega
end
end K06

set_option Elab.async false
set_option linter.all false
set_option maxRecDepth 100000
set_option maxHeartbeats 4000000
/-! The names of a program: what the checks ask of them. -/
namespace K06
open PySem L2 NX NU
open PyProof.Rows (sortedS)
abbrev sCt : Stmt := top 54
abbrev sAn : Stmt := top 55
abbrev sCd : Stmt := top 57
theorem scCt : FnScope ["given", "again", "results", "again_names", "name"] ["given", "again", "results"] (defScope sCt) := ⟨rfl, rfl, rfl, by decide +kernel, rfl, by decide +kernel, by decide +kernel⟩
theorem scAn : FnScope ["parts", "given", "again", "results", "names", "part", "deed"] ["parts", "given", "again", "results"] (defScope sAn) := ⟨rfl, rfl, rfl, by decide +kernel, rfl, by decide +kernel, by decide +kernel⟩
theorem scCd : FnScope ["deed", "place", "known", "again", "name"] ["deed", "place", "known", "again"] (defScope sCd) := ⟨rfl, rfl, rfl, by decide +kernel, rfl, by decide +kernel, by decide +kernel⟩
/-- the dict of names to be made again, with their prices -/
def agK (l : List (Str × Int)) : List (Key × V) := l.map fun q => (Sum.inr q.1, V.int q.2)
def AgD (H : Hp) (a : Addr) (l : List (Str × Int)) : Prop := H a = some (.dK (agK l))
structure AgOk (l : List (Str × Int)) : Prop where
  nm_ : ∀ q ∈ l, nm q.1 = true
  lo : ∀ q ∈ l, 0 ≤ q.2
  hi : ∀ q ∈ l, q.2 ≤ 9
  few : l.length < 60
  nd : (l.map (·.1)).Nodup
theorem agKeys (l : List (Str × Int)) : (agK l).map (·.1) = (l.map (·.1)).map Sum.inr := by
  unfold agK
  rw [List.map_map, List.map_map]
  rfl
theorem agIn : ∀ {l : List (Str × Int)} {z : Str}, z ∈ l.map (·.1) → ∃ n, valV (agK l) (.inr z) = some (.int n) ∧ (z, n) ∈ l
  | [], z, h => nomatch h
  | q :: r, z, h => by
    by_cases e : q.1 = z
    · refine ⟨q.2, ?_, ?_⟩
      · show valV ((Sum.inr q.1, V.int q.2) :: agK r) (.inr z) = _
        rw [valV_pos (show (Sum.inr q.1 : Key) = .inr z by rw [e])]
      · rw [← e]
        exact List.mem_cons_self
    · rw [List.map_cons, List.mem_cons] at h
      obtain ⟨n, h1, h2⟩ := agIn (h.resolve_left fun x => e x.symm)
      refine ⟨n, ?_, List.mem_cons_of_mem _ h2⟩
      show valV ((Sum.inr q.1, V.int q.2) :: agK r) (.inr z) = _
      rw [valV_neg (show ¬ (Sum.inr q.1 : Key) = .inr z from fun x => e (Sum.inr.inj x))]
      exact h1
theorem agOut : ∀ {l : List (Str × Int)} {z : Str}, z ∉ l.map (·.1) → valV (agK l) (.inr z) = none
  | [], z, h => rfl
  | q :: r, z, h => by
    rw [List.map_cons, List.mem_cons] at h
    show valV ((Sum.inr q.1, V.int q.2) :: agK r) (.inr z) = _
    rw [valV_neg (show ¬ (Sum.inr q.1 : Key) = .inr z from fun x => h (.inl (Sum.inr.inj x).symm))]
    exact agOut fun x => h (.inr x)
/-- names once each, as they are told -/
structure Tld (us : List Str) : Prop where
  nm_ : ∀ z ∈ us, nm z = true
  nr : us.Nodup
  few : us.length < 60
theorem Tld.nms {us : List Str} (h : Tld us) : Nms us := fun z hz => ⟨Nat.le_trans (nm_le (h.nm_ z hz)).2 (by decide), h.nm_ z hz⟩
def spCt (K : PySem.W.Frag) : Sp := fun vs H Q _ => ∃ (gv ag rs : Addr) (us ws : List Str) (l : List (Str × Int)), vs = [.ref gv, .ref ag, .ref rs] ∧ NI.Sq K H gv (us.map V.str) ∧ AgD H ag l ∧ NI.Sq K H rs (ws.map V.str) ∧ Tld us ∧ AgOk l ∧ Tld ws ∧ ∀ H', Same H H' → Q .non H'
def spCd (K : PySem.W.Frag) (d : D3) : Sp := fun vs H Q _ => ∃ (x kn ag : Addr) (v : V) (mk : Option Str) (us ys ws : List Str) (l : List (Str × Int)), vs = [.ref x, v, .ref kn, .ref ag] ∧ IsD d H x mk us ys ∧ SqL K H kn (ws.map V.str) ∧ AgD H ag l ∧ (∀ z ∈ us, z ∈ ws) ∧ (∀ m, mk = some m → m ∉ l.map (·.1)) ∧ Q .non H
theorem inV_str (z : Str) (ws : List Str) : inV (V.str z) (ws.map V.str) = decide (z ∈ ws) := by
  unfold inV
  rw [Bool.eq_iff_iff, decide_eq_true_eq, List.any_eq_true]
  constructor
  · rintro ⟨x, hx, e⟩
    obtain ⟨y, hy, rfl⟩ := List.mem_map.mp hx
    have e : (y == z) = true := e
    rw [← beq_iff_eq.mp e]
    exact hy
  · intro h
    exact ⟨_, List.mem_map_of_mem h, beq_self_eq_true z⟩
theorem flat_strs (ws : List Str) : (ws.map V.str).all flatV = true := by
  rw [List.all_eq_true]
  intro x hx
  obtain ⟨y, hy, rfl⟩ := List.mem_map.mp hx
  rfl
section
variable {P : Program} {w : World} {K : PySem.W.Frag} {mg : Str → Option Value} {base : Heap}
theorem ok_ct {f : Addr} {fd : FuncData} (F : Fun K "check_told_names" "check_told_names" sCt f fd) (T : TxtB mg) (TA : TxtA mg) (cCns : C8.Cal P w K mg base 2 "check_names" (spCnsS K) []) (cCun : C8.Cal P w K mg base 1 "check_unlike" (spCunS K) []) (cPri : C8.Cal P w K mg base 3 "is_price" spPri []) :
    FnOk P w K mg base CX0 4 f fd ["given", "again", "results"] (spCt K) := by
  refine F.ok scCt (fun vs H Q E h => ?_) (fun cdv A outer s H vs Q E hr h => ?_)
  · obtain ⟨a, b, c, us, ws, l, rfl, _⟩ := h
    rfl
  · obtain ⟨gv, ag, rs, us, ws, l, rfl, h1, h2, h3, o1, o2, o3, q⟩ := h
    have hu := hu_of hr
    refine ⟨_, (pss_cons (ps_expr (C8.pe_c cCns hr (by decide) rfl (pa_cons (pv 0) pa_nil)))
      (pss_cons (ps_expr (C8.pe_c cCun hr (by decide) rfl (pa_cons (pv 0) pa_nil)))
      (pss_cons (ps_set (i := 3) scCt.nd rfl (Or.inl rfl) (pe_callBK (NSK.cr_sortedKS rfl) (by rfl) TA.bsorted (by decide +kernel) (pa_cons (pv 1) pa_nil) (pk_cons (pe_bltn (v := .ty "str") (by rfl) T.bstr (by decide +kernel) rfl) pk_nil)))
      (pss_cons (ps_expr (C8.pe_c cCns hr (by decide) rfl (pa_cons (pv 3) pa_nil)))
      (pss_cons (ps_for PassesOwn.never rfl (pi_list (pv 3)) (pg_name (i := 4) scCt.nd rfl (Or.inl rfl)) (pss_one (ps_if (pt_not (pt_val (C8.pe_c cPri hr (by decide) rfl (pa_cons (pe_dget hu (pv 1) (pv 4) (fun _ _ => rfl)) pa_nil)))) pss_never pss_nil)))
      (pss_cons (ps_expr (C8.pe_c cCns hr (by decide) rfl (pa_cons (pv 2) pa_nil)))
      (pss_one (ps_expr (C8.pe_c cCun hr (by decide) rfl (pa_cons (pv 2) pa_nil)))))))))), ?_⟩
    refine ⟨_, rfl, gv, us, rfl, h1, o1.nms, ?_⟩
    refine ⟨_, rfl, gv, us, rfl, h1, by have := o1.few; omega, noRep_of o1.nr, fun H1 s1 => ?_⟩
    refine ⟨_, rfl, ag, l.map (·.1), rfl, rfl, .inr (.inr ⟨_, .inl (s1 _ _ h2), agKeys l⟩), by rw [List.length_map]; have := o2.few; omega, fun ys p pm srt hp => ?_⟩
    have s2 : Same H1 (upd H1 p (.lst (ys.map V.str))) := Same.new hp
    have inl : ∀ z ∈ ys, z ∈ l.map (·.1) := fun z hz => pm.mem_iff.mp hz
    have ny : Nms ys := fun z hz => by
      obtain ⟨q, hq, rfl⟩ := List.mem_map.mp (inl z hz)
      have := o2.nm_ q hq
      exact ⟨Nat.le_trans (nm_le this).2 (by decide), this⟩
    refine ⟨_, rfl, p, ys, rfl, .inl (SqL.of upd_same), ny, ?_⟩
    refine ⟨_, rfl, p, rfl, ⟨_, SqL.of upd_same⟩, ?_⟩
    refine for_list (xs := ys.map V.str) (fun i σ H' => H' = upd H1 p (.lst (ys.map V.str)) ∧ ∃ y, σ = [some (.ref gv), some (.ref ag), some (.ref rs), some (.ref p), y]) ⟨rfl, _, rfl⟩ (fun i σ H' _ ⟨e, _⟩ => by rw [e]; exact SqL.of upd_same) (fun i x σ H' hx ⟨e, y, eσ⟩ => ?_) (fun σ H' ⟨e, y, eσ⟩ => ?_)
    · subst e eσ
      rw [List.getElem?_map] at hx
      obtain ⟨z, hz, rfl⟩ := Option.map_eq_some_iff.mp hx
      obtain ⟨n, e1, e2⟩ := agIn (inl z (List.mem_of_getElem? hz))
      refine ⟨_, rfl, _, rfl, ag, .int n, rfl, ?_, n, rfl, o2.lo _ e2, o2.hi _ e2, true, rfl, iteF ⟨rfl, _, rfl⟩⟩
      rw [← e1]
      exact DGet.k (k := .inr z) (s2 _ _ (s1 _ _ h2))
    · subst e eσ
      refine ⟨_, rfl, rs, ws, rfl, (h3.same s1).same s2, o3.nms, ?_⟩
      exact ⟨_, rfl, rs, ws, rfl, (h3.same s1).same s2, by have := o3.few; omega, noRep_of o3.nr, fun H2 s3 => q H2 ((s1.trans s2).trans s3)⟩
theorem ok_cd {d : D3} {f : Addr} {fd : FuncData} (F : Fun K "check_deed" "check_deed" sCd f fd) (k : D3C K d) : FnOk P w K mg base CX0 1 f fd ["deed", "place", "known", "again"] (spCd K d) := by
  refine F.ok scCd (fun vs H Q E h => ?_) (fun cdv A outer s H vs Q E hr h => ?_)
  · obtain ⟨x, kn, ag, v, mk, us, ys, ws, l, rfl, _⟩ := h
    rfl
  · obtain ⟨x, kn, ag, v, mk, us, ys, ws, l, rfl, hD, hk, ha, hu1, hm, q⟩ := h
    have hu := hu_of hr
    have kc := k.at_ mk us
    obtain ⟨dx, p, r, g1, g2, g3⟩ := hD.dd
    refine ⟨_, (pss_cons (ps_for PassesOwn.never rfl (pi_tup (pe_fld (pv 0) rfl)) (pg_name (i := 4) scCd.nd rfl (Or.inl rfl)) (pss_one (ps_if (pt_cmpR op_notIn_seq (pv 4) (pv 2) rfl) pss_never pss_nil)))
      (pss_one (ps_if (pt_cmp (pc_dinN hu (pe_fld (pv 0) rfl) (pv 3))) pss_never pss_nil))), ?_⟩
    refine ⟨_, rfl, x, _, dx, _, _, rfl, g1, kc.cl, kc.nu, rfl, p, rfl, ⟨_, SqT.of g2⟩, ?_⟩
    refine for_tup (xs := us.map V.str) (fun i σ H' => H' = H ∧ ∃ y, σ = [some (.ref x), some v, some (.ref kn), some (.ref ag), y]) ⟨rfl, _, rfl⟩ (fun i σ H' _ ⟨e, _⟩ => by rw [e]; exact SqT.of g2) (fun i y σ H' hx ⟨e, y0, eσ⟩ => ?_) (fun σ H' ⟨e, y0, eσ⟩ => ?_)
    · subst e eσ
      rw [List.getElem?_map] at hx
      obtain ⟨z, hz, rfl⟩ := Option.map_eq_some_iff.mp hx
      refine ⟨_, rfl, _, rfl, kn, _, rfl, .inl hk, rfl, flat_strs ws, _, rfl, ?_⟩
      rw [if_pos rfl, inV_str, decide_eq_true (hu1 z (List.mem_of_getElem? hz))]
      exact iteF ⟨rfl, _, rfl⟩
    · subst e eσ
      refine ⟨_, rfl, x, _, dx, _, _, rfl, g1, kc.cl, kc.nk, rfl, _, rfl, ?_⟩
      cases mk with
      | none => exact .inr ⟨ag, _, rfl, rfl, .inl ha, false, rfl, iteF q⟩
      | some m =>
        refine .inl ⟨ag, none, rfl, ?_, false, rfl, iteF q⟩
        rw [← agOut (hm m rfl)]
        exact DGet.k (k := .inr m) ha
end
end K06

set_option Elab.async false
set_option linter.all false
set_option maxRecDepth 100000
set_option maxHeartbeats 4000000
/-! all_names, check_values. -/
namespace K06
open PySem L2 NX NU
open PyProof.Rows (sortedS)
abbrev sCv : Stmt := top 56
theorem scCv : FnScope ["parts", "given", "again", "results", "lasting", "part", "known", "index", "deed", "name"] ["parts", "given", "again", "results"] (defScope sCv) := ⟨rfl, rfl, rfl, by decide +kernel, rfl, by decide +kernel, by decide +kernel⟩
/-- the names of a deed -/
def Act.ns (a : Act) : List Str := a.1.toList ++ a.2
def actsN (as : List Act) : List Str := (as.map Act.ns).flatten
def Prg.upto (g : Prg) : Nat → List Act
  | 0 => []
  | n + 1 => g.upto n ++ (g.at n).getD []
def Prg.acts (g : Prg) : List Act := g.upto 5
theorem actsN_app (a b : List Act) : actsN (a ++ b) = actsN a ++ actsN b := by
  unfold actsN
  rw [List.map_append, List.flatten_append]
theorem IsD.names {d : D3} {H : Hp} {x : Addr} {mk : Option Str} {us ys : List Str} (h : IsD d H x mk us ys) : ys.length ≤ 4 := by
  have := h.asc.few (pool := mk.toList ++ us) fun z hz => hz
  rw [List.length_append] at this
  have := h.few
  have : mk.toList.length ≤ 1 := by cases mk <;> simp
  omega
/-- all but lists stays as it was -/
def KL (H H' : Hp) : Prop := ∀ b o, H b = some o → (∀ ys, o ≠ .lst ys) → H' b = some o
theorem KL.refl (H : Hp) : KL H H := fun _ _ h _ => h
theorem KL.of {H H' : Hp} (s : Same H H') : KL H H' := fun b o h _ => s b o h
theorem KL.trans {H H1 H2 : Hp} (a : KL H H1) (b : KL H1 H2) : KL H H2 := fun c o h n => b c o (a c o h n) n
theorem KL.put {H H' : Hp} {l : Addr} {xs ys : List V} (a : KL H H') (h : H' l = some (.lst xs)) : KL H (upd H' l (.lst ys)) := fun c o e n => by
  have q := a c o e n
  have ne : c ≠ l := fun z => by
    rw [z, h] at q
    exact n _ (Option.some.inj q).symm
  rw [upd_ne ne]
  exact q
theorem IsD.kl {d : D3} {H H' : Hp} {x : Addr} {mk : Option Str} {us ys : List Str} (s : KL H H') (h : IsD d H x mk us ys) : IsD d H' x mk us ys := by
  obtain ⟨⟨dx, p, q, a, b, c⟩, h1, h2, h3, h4⟩ := h
  exact ⟨⟨dx, p, q, s _ _ a (fun _ e => nomatch e), s _ _ b (fun _ e => nomatch e), s _ _ c (fun _ e => nomatch e)⟩, h1, h2, h3, h4⟩
theorem sqT_kl {K : PySem.W.Frag} {H H' : Hp} {a : Addr} {xs : List V} (s : KL H H') (h : SqT K H a xs) : SqT K H' a xs := by
  rcases h with (h | ⟨o, h⟩) | h
  · exact .inl (.inl (s _ _ h (fun _ e => nomatch e)))
  · exact .inl (.inr ⟨o, s _ _ h (fun _ e => nomatch e)⟩)
  · exact .inr h
theorem Deeds.kl {K : PySem.W.Frag} {d : D3} {H H' : Hp} {p : Addr} {as : List Act} (s : KL H H') (h : Deeds K d H p as) : Deeds K d H' p as := by
  obtain ⟨xs, e, l, k⟩ := h
  exact ⟨xs, sqT_kl s e, l, fun i x a e1 e2 => (k i x a e1 e2).imp fun _ q => q.kl s⟩
theorem PartA.kl {K : PySem.W.Frag} {d : D3} {H H' : Hp} {v : V} (s : KL H H') : ∀ {o : Option (List Act)}, PartA K d H v o → PartA K d H' v o
  | none, h => h
  | some _, ⟨p, e, h⟩ => ⟨p, e, h.kl s⟩
theorem PartsD.kl {K : PySem.W.Frag} {d : D3} {H H' : Hp} {P : Addr} {g : Prg} (s : KL H H') (h : PartsD K d H P g) : PartsD K d H' P g := by
  obtain ⟨v0, v1, v2, v3, v4, e, h0, h1, h2, h3, h4⟩ := h
  exact ⟨v0, v1, v2, v3, v4, s _ _ e (fun _ e => nomatch e), h0.kl s, h1.kl s, h2.kl s, h3.kl s, h4.kl s⟩
/-- a new list may change -/
theorem sameUpd {H H' : Hp} {l : Addr} {o : HO} (s : Same H H') (h : H l = none) : Same H (upd H' l o) := fun b u e => by
  have ne : b ≠ l := fun z => by rw [z, h] at e; cases e
  rw [upd_ne ne]
  exact s b u e
def spAn (K : PySem.W.Frag) (d : D3) : Sp := fun vs H Q _ => ∃ (P gv ag rs : Addr) (g : Prg) (us ws pool : List Str) (l : List (Str × Int)), vs = [.ref P, .ref gv, .ref ag, .ref rs] ∧ PartsD K d H P g ∧ NI.Sq K H gv (us.map V.str) ∧ AgD H ag l ∧ NI.Sq K H rs (ws.map V.str) ∧
  (∀ z ∈ us ++ l.map (·.1) ++ ws ++ actsN g.acts, z ∈ pool) ∧ pool.length ≤ 6 ∧ us.length + l.length + ws.length + 4 * g.acts.length ≤ 1000 ∧
  ∀ (ys : List Str) q H', Asc ys (us ++ l.map (·.1) ++ ws ++ actsN g.acts) → Same H H' → H q = none → H' q = some (.tup (ys.map V.str)) → Q (.ref q) H'
theorem Sq.sw {K : PySem.W.Frag} {H : Hp} {a : Addr} {xs : List V} (h : NI.Sq K H a xs) : SqT K H a xs ∨ SqL K H a xs := h.symm
theorem getLast {as : List Act} {i : Nat} {a : Act} (h : as[i]? = some a) : as.take (i + 1) = as.take i ++ [a] := by rw [List.take_add_one, h]; rfl
section
variable {P : Program} {w : World} {K : PySem.W.Frag} {mg : Str → Option Value} {base : Heap}
theorem ok_an {d : D3} {fN pN : Addr} {fdN : FuncData} {f : Addr} {fd : FuncData} (F : Fun K "all_names" "all_names" sAn f fd) (T : TxtB mg) (TQ : TxtQ mg K) (cAsc : C8.Cal P w K mg base 1 "ascending" (spAscM K) [])
    (FN : FnOk P w K mg base CX0 1 fN fdN ["self"] (spNames K d)) (hbN : Binds K fdN ["self"] []) (k : D3C K d) (q1 : PropOf K d.u "names" pN fN) (q2 : PropOf K d.m "names" pN fN) (q3 : PropOf K d.d "names" pN fN) :
    FnOk P w K mg base CX0 3 f fd ["parts", "given", "again", "results"] (spAn K d) := by
  refine F.ok scAn (fun vs H Q E h => ?_) (fun cdv A outer s H vs Q E hr h => ?_)
  · obtain ⟨a, b, c, e, g, us, ws, pool, l, rfl, _⟩ := h
    rfl
  · obtain ⟨p, gv, ag, rs, g, us, ws, pool, l, rfl, hP, h1, h2, h3, hpool, h6, hsz, q⟩ := h
    have hu := hu_of hr
    obtain ⟨aP, gP, sP⟩ := TQ.parts
    obtain ⟨t1, e1⟩ := TQ.mn
    refine ⟨_, (pss_cons (ps_set (i := 4) scAn.nd rfl (Or.inl rfl) (pe_lst (StX.pa_star (pv 1) (NSD.pa_starD rfl (pv 2) (StX.pa_star (pv 3) pa_nil)))))
      (pss_cons (ps_for PassesOwn.never rfl (pi_tup (C8.pe_gc (v := .ref aP) rfl ⟨_, gP, rfl⟩)) (pg_name (i := 5) scAn.nd rfl (Or.inl rfl))
        (pss_one (ps_for PassesOwn.never rfl (pi_tup (pe_orT (pe_dget hu (pv 0) (pv 5) (fun _ _ => rfl)) (pe_one (pe_tup pa_nil)))) (pg_name (i := 6) scAn.nd rfl (Or.inl rfl))
          (pss_one (ps_expr (pe_bm PySem.F.plainAttrs_list PySem.F.slot_list_extend PySem.F.type_list_extend NEX.mt_extendT (pv 4) (pa_cons (NX.pe_propG (pv 6) FN (hr.mono (by decide)) hbN pass0 rfl) pa_nil)))))))
      (pss_cons (ps_if (pt_cmpR op_gt (pe_callB call_len_seq (by rfl) T.blen (by decide +kernel) (pa_cons (C8.pe_c cAsc hr (by decide) rfl (pa_cons (pv 4) pa_nil)) pa_nil)) (pe_glob (v := .int 6) rfl e1 ⟨_, rfl⟩) (nomark _)) pss_never pss_nil)
      (pss_one (ps_ret (C8.pe_c cAsc hr (by decide) rfl (pa_cons (pv 4) pa_nil))))))), ?_⟩
    have z1000 : (1000 : Nat) ≤ sizeLine := by decide
    refine ⟨_, rfl, gv, _, rfl, h1.symm, _, rfl, ag, _, l.map (·.1), rfl, .inl h2, agKeys l, _, rfl, rs, _, rfl, h3.symm, ?_⟩
    dsimp only [tNil]
    rw [List.append_nil, ← List.map_append, ← List.map_append]
    have e0 : us ++ (l.map (·.1) ++ ws) = us ++ l.map (·.1) ++ ws := by rw [List.append_assoc]
    rw [e0]
    obtain ⟨ws0, hws0⟩ : ∃ ws0, us ++ l.map (·.1) ++ ws = ws0 := ⟨_, rfl⟩
    have l0 : ws0.length = us.length + l.length + ws.length := by rw [← hws0, List.length_append, List.length_append, List.length_map]
    rw [hws0] at hpool q ⊢
    refine ⟨by rw [List.length_map]; exact Nat.le_trans (by omega) z1000, fun N hN => ?_⟩
    have sN : Same H (upd H N (.lst (ws0.map V.str))) := Same.new hN
    refine ⟨aP, rfl, ⟨_, sP _⟩, for_tup (xs := partN.map V.str) (fun i σ H' => Same H H' ∧ (∃ xs : List Str, H' N = some (.lst (xs.map V.str)) ∧ (∀ y, y ∈ xs ↔ y ∈ ws0 ++ actsN (g.upto i)) ∧ xs.length ≤ ws0.length + 4 * (g.upto i).length) ∧ ∃ x5 x6, σ = [some (.ref p), some (.ref gv), some (.ref ag), some (.ref rs), some (.ref N), x5, x6])
      ⟨sN, ⟨ws0, upd_same, fun y => by show _ ↔ y ∈ ws0 ++ []; rw [List.append_nil], Nat.le_add_right _ _⟩, _, _, rfl⟩ (fun i σ H' _ _ => sP H') (fun i x σ H' hx ⟨s1, ⟨xs, gN, mm, lx⟩, x5, x6, eσ⟩ => ?_) (fun σ H' ⟨s1, ⟨xs, gN, mm, lx⟩, x5, x6, eσ⟩ => ?_)⟩
    · subst eσ
      rw [List.getElem?_map] at hx
      obtain ⟨z, hz, rfl⟩ := Option.map_eq_some_iff.mp hx
      obtain ⟨v, hg, ha⟩ := (hP.same s1).get i hz
      obtain ⟨i5, ez⟩ := partF hz
      have up : (g.upto (i + 1)) = g.upto i ++ (g.at i).getD [] := rfl
      have tot' : (g.upto (i + 1)).length ≤ g.acts.length := by
        have : i = 0 ∨ i = 1 ∨ i = 2 ∨ i = 3 ∨ i = 4 := by omega
        rcases this with rfl | rfl | rfl | rfl | rfl <;> simp only [Prg.acts, Prg.upto, List.length_append] <;> omega
      refine ⟨_, rfl, _, rfl, p, v, rfl, hg, ha.or fun p2 H2 s2 hd => ?_⟩
      obtain ⟨as, eas⟩ : ∃ as, as = (g.at i).getD [] := ⟨_, rfl⟩
      rw [← eas] at hd up
      obtain ⟨xd, hx2, hal⟩ := hd
      refine ⟨p2, rfl, ⟨_, hx2⟩, ?_⟩
      refine for_tup (xs := xd.map V.ref) (fun j σ H' => Same H H' ∧ KL H2 H' ∧ (∃ xs : List Str, H' N = some (.lst (xs.map V.str)) ∧ (∀ y, y ∈ xs ↔ y ∈ ws0 ++ actsN (g.upto i ++ as.take j)) ∧ xs.length ≤ ws0.length + 4 * ((g.upto i).length + j)) ∧ ∃ x6, σ = [some (.ref p), some (.ref gv), some (.ref ag), some (.ref rs), some (.ref N), some (.str z), x6])
        ⟨s1.trans s2, KL.refl H2, ⟨xs, s2 _ _ gN, fun y => by rw [List.take_zero, List.append_nil]; exact mm y, by omega⟩, _, rfl⟩ (fun j σ H' _ ⟨_, s3, _⟩ => sqT_kl s3 hx2) (fun j x σ H' hx ⟨s4, s3, ⟨xs, gN, mm, lx⟩, x6, eσ⟩ => ?_) (fun σ H' ⟨s4, s3, ⟨xs, gN, mm, lx⟩, x6, eσ⟩ => ?_)
      · subst eσ
        rw [List.getElem?_map] at hx
        obtain ⟨x, hxj, rfl⟩ := Option.map_eq_some_iff.mp hx
        have hj : j < as.length := by rw [← hal.1]; exact (List.getElem?_eq_some_iff.mp hxj).1
        obtain ⟨a, haj⟩ : ∃ a, as[j]? = some a := ⟨_, List.getElem?_eq_getElem hj⟩
        obtain ⟨ys, hD⟩ := hal.2 j x a hxj haj
        have hD := hD.kl s3
        have y4 := hD.names
        obtain ⟨dx, pu, pn, d1, d2, d3⟩ := id hD.dd
        have kc := k.at_ a.1 a.2
        refine ⟨_, rfl, .inl ⟨rfl, _, SqL.of gN⟩, _, rfl, x, _, dx, _, _, rfl, d1, kc.cl, of3 (φ := fun C => PropOf K C "names" pN fN) q1 q2 q3, ?_⟩
        refine ⟨x, a.1, a.2, ys, rfl, hD, fun r hr2 => ?_⟩
        rw [up, List.length_append] at tot'
        refine ⟨N, r, _, _, rfl, rfl, gN, SqT.of hr2, by rw [List.length_map, List.length_map]; exact Nat.le_trans (by omega) z1000, ?_⟩
        refine ⟨sameUpd s4 hN, s3.put gN, ⟨xs ++ ys, upd_same.trans (by rw [List.map_append]), fun y => ?_, by rw [List.length_append]; omega⟩, _, rfl⟩
        rw [getLast haj, ← List.append_assoc (g.upto i), actsN_app, ← List.append_assoc, List.mem_append, List.mem_append (s := ws0 ++ _), mm y, hD.asc.2.2 y]
        show _ ∨ _ ↔ _ ∨ y ∈ (([a] : List Act).map Act.ns).flatten
        simp [Act.ns]
      · subst eσ
        rw [List.length_map, hal.1, List.take_length] at mm
        rw [List.length_map, hal.1] at lx
        exact ⟨s4, ⟨xs, gN, by rw [up]; exact mm, by rw [up, List.length_append]; exact lx⟩, _, _, rfl⟩
    · subst eσ
      have mm : ∀ y, y ∈ xs ↔ y ∈ ws0 ++ actsN g.acts := mm
      have lx : xs.length ≤ ws0.length + 4 * g.acts.length := lx
      have hp2 : ∀ z ∈ xs, z ∈ pool := fun z hz => hpool z ((mm z).mp hz)
      refine ⟨_, rfl, N, xs, pool, rfl, .inl (SqL.of gN), by omega, hp2, by omega, fun ys q3 H3 asc s3 hq3 g3 => ?_⟩
      have := asc.few hp2
      refine ⟨q3, _, rfl, .inr (SqT.of g3), _, 6, rfl, rfl, _, rfl, ite2 (fun h => ?_) (fun _ => ?_)⟩
      · have h := of_decide_eq_true h
        rw [List.length_map] at h
        exfalso
        omega
      · refine ⟨_, rfl, N, xs, pool, rfl, .inl (SqL.of (s3 _ _ gN)), by omega, hp2, by omega, fun ys q4 H4 asc s4 hq4 g4 => ?_⟩
        exact q ys q4 H4 ⟨asc.1, asc.2.1, fun y => (asc.2.2 y).trans (mm y)⟩ ((s1.trans s3).trans s4) (by
          have := hq4
          cases e : H q4 with
          | none => rfl
          | some o => rw [s3 _ _ (s1 _ _ e)] at this; cases this) g4
end
end K06

set_option Elab.async false
set_option linter.all false
set_option maxRecDepth 100000
set_option maxHeartbeats 4000000
/-! check_values. -/
namespace K06
open PySem L2 NX NU
open PyProof.Rows (sortedS)
def UsesOk (ag : List Str) : List Str → List Act → Prop
  | _, [] => True
  | kn, a :: r => (∀ z ∈ a.2, z ∈ kn) ∧ (∀ m, a.1 = some m → m ∉ ag) ∧ UsesOk ag (kn ++ a.1.toList) r
def aft (kn : List Str) (as : List Act) : List Str := kn ++ (as.map fun a => a.1.toList).flatten
theorem aft_nil (kn : List Str) : aft kn [] = kn := List.append_nil kn
theorem aft_snoc (kn : List Str) (as : List Act) (a : Act) : aft kn (as ++ [a]) = aft kn as ++ a.1.toList := by
  unfold aft
  rw [List.map_append, List.flatten_append, List.append_assoc]
  simp
theorem aft_cons (kn : List Str) (as : List Act) (a : Act) : aft kn (a :: as) = aft (kn ++ a.1.toList) as := by
  unfold aft
  rw [List.map_cons, List.flatten_cons, List.append_assoc]
theorem aft_len (kn : List Str) : ∀ as : List Act, (aft kn as).length ≤ kn.length + as.length
  | [] => by rw [aft_nil]; exact Nat.le_add_right _ _
  | a :: r => by
    have := aft_len (kn ++ a.1.toList) r
    have h : a.1.toList.length ≤ 1 := by cases a.1 <;> simp
    rw [aft_cons]
    rw [List.length_append] at this
    rw [List.length_cons]
    omega
theorem usesAt {ag : List Str} : ∀ {as : List Act} {kn : List Str} {j : Nat} {a : Act}, UsesOk ag kn as → as[j]? = some a → (∀ z ∈ a.2, z ∈ aft kn (as.take j)) ∧ ∀ m, a.1 = some m → m ∉ ag
  | [], _, _, _, _, h => nomatch h
  | b :: r, kn, 0, a, u, h => by
    cases h
    rw [List.take_zero, aft_nil]
    exact ⟨u.1, u.2.1⟩
  | b :: r, kn, j + 1, a, u, h => by
    rw [List.take_succ_cons, aft_cons]
    exact usesAt u.2.2 h
def Prg.lastAt (g : Prg) (bs : List Str) : Nat → List Str
  | 0 => bs
  | n + 1 => if n = 1 ∨ n = 3 then g.lastAt bs n else aft (g.lastAt bs n) ((g.at n).getD [])
theorem lastLen (g : Prg) (bs : List Str) : ∀ n, (g.lastAt bs n).length ≤ bs.length + (g.upto n).length
  | 0 => Nat.le_add_right _ _
  | n + 1 => by
    have ih := lastLen g bs n
    show (if n = 1 ∨ n = 3 then g.lastAt bs n else aft (g.lastAt bs n) ((g.at n).getD [])).length ≤ bs.length + (g.upto n ++ (g.at n).getD []).length
    rw [List.length_append]
    split
    · omega
    · have := aft_len (g.lastAt bs n) ((g.at n).getD [])
      omega
theorem uptoLe (g : Prg) {i : Nat} (h : i < 5) : (g.upto i).length + ((g.at i).getD []).length ≤ g.acts.length := by
  have : i = 0 ∨ i = 1 ∨ i = 2 ∨ i = 3 ∨ i = 4 := by omega
  rcases this with rfl | rfl | rfl | rfl | rfl <;> simp only [Prg.acts, Prg.upto, List.length_append] <;> omega
/-- what the walk over the parts asks -/
structure Prg.VOk (g : Prg) (bs ag rs : List Str) : Prop where
  uses : ∀ i, i < 5 → UsesOk ag (g.lastAt bs i) ((g.at i).getD [])
  res : ∀ z ∈ rs, z ∈ g.lastAt bs 5
def spCv (K : PySem.W.Frag) (d : D3) : Sp := fun vs H Q _ => ∃ (P gv ag rs : Addr) (g : Prg) (us ws : List Str) (l : List (Str × Int)), vs = [.ref P, .ref gv, .ref ag, .ref rs] ∧ PartsD K d H P g ∧ NI.Sq K H gv (us.map V.str) ∧ AgD H ag l ∧ NI.Sq K H rs (ws.map V.str) ∧
  ws.length < 60 ∧ us.length + l.length + g.acts.length ≤ 1000 ∧ g.VOk (us ++ l.map (·.1)) (l.map (·.1)) ws ∧ ∀ H', Same H H' → Q .non H'
theorem partL {i : Nat} {z : Str} (h : partN[i]? = some z) : inV (V.str z) (([ "loop", "second" ] : List Str).map V.str) = decide (i = 1 ∨ i = 3) := by
  match i, h with
  | 0, h => cases h; decide +kernel
  | 1, h => cases h; decide +kernel
  | 2, h => cases h; decide +kernel
  | 3, h => cases h; decide +kernel
  | 4, h => cases h; decide +kernel
  | n + 5, h => cases h
section
variable {P : Program} {w : World} {K : PySem.W.Frag} {mg : Str → Option Value} {base : Heap}
theorem ok_cv {d : D3} {f : Addr} {fd : FuncData} (F : Fun K "check_values" "check_values" sCv f fd) (T : TxtB mg) (TQ : TxtQ mg K) (k : D3C K d) (cAsc : C8.Cal P w K mg base 1 "ascending" (spAscM K) []) (cCd : C8.Cal P w K mg base 1 "check_deed_partchecks" (spCd K d) []) :
    FnOk P w K mg base CX0 2 f fd ["parts", "given", "again", "results"] (spCv K d) := by
  refine F.ok scCv (fun vs H Q E h => ?_) (fun cdv A outer s H vs Q E hr h => ?_)
  · obtain ⟨a, b, c, e, g, us, ws, l, rfl, _⟩ := h
    rfl
  · obtain ⟨p, gv, ag, rs, g, us, ws, l, rfl, hP, h1, h2, h3, hws, hsz, vo, q⟩ := h
    have hu := hu_of hr
    obtain ⟨aP, gP, sP⟩ := TQ.parts
    obtain ⟨aL, gL, sL⟩ := TQ.loops
    refine ⟨_, (pss_cons (ps_set (i := 4) scCv.nd rfl (Or.inl rfl) (pe_lst (StX.pa_star (pv 1) (NSD.pa_starD rfl (pv 2) pa_nil))))
      (pss_cons (ps_for PassesOwn.never rfl (pi_tup (C8.pe_gc (v := .ref aP) rfl ⟨_, gP, rfl⟩)) (pg_name (i := 5) scCv.nd rfl (Or.inl rfl))
        (pss_cons (ps_set (i := 6) scCv.nd rfl (Or.inl rfl) (pe_callTy call_list_of (by rfl) T.blist (by decide +kernel) (pa_cons (pv 4) pa_nil)))
        (pss_cons (ps_for PassesOwn.never rfl (NEn.pi_ent (by rfl) T.benumerate (pa_cons (pe_orT (pe_dget hu (pv 0) (pv 5) (fun _ _ => rfl)) (pe_one (pe_tup pa_nil))) pa_nil)) (pg_tup rfl (pgs_cons (pg_name (i := 7) scCv.nd rfl (Or.inl rfl)) (pgs_cons (pg_name (i := 8) scCv.nd rfl (Or.inl rfl)) pgs_nil)))
          (pss_cons (ps_expr (C8.pe_c cCd hr (by decide) rfl (pa_cons (pv 8) (pa_cons (pe_tup (pa_cons (pv 5) (pa_cons (pv 7) pa_nil))) (pa_cons (pv 6) (pa_cons (pv 2) pa_nil))))))
          (pss_one (ps_if (pt_cmpR op_notN (pe_fld (pv 8) rfl) pe_non (nomark _)) (pss_one (ps_expr (pe_bm PySem.F.plainAttrs_list PySem.F.slot_list_append PySem.F.type_list_append mt_append (pv 6) (pa_cons (pe_fld (pv 8) rfl) pa_nil)))) pss_nil))))
        (pss_one (ps_if (pt_cmpR op_notIn_seq (pv 5) (C8.pe_gc (v := .ref aL) rfl ⟨_, gL, rfl⟩) rfl) (pss_one (ps_set (i := 4) scCv.nd rfl (Or.inl rfl) (pv 6))) pss_nil)))))
      (pss_one (ps_for PassesOwn.never rfl (pi_tup (C8.pe_c cAsc hr (by decide) rfl (pa_cons (pv 3) pa_nil))) (pg_name (i := 9) scCv.nd rfl (Or.inl rfl)) (pss_one (ps_if (pt_cmpR op_notIn_seq (pv 9) (pv 4) rfl) pss_never pss_nil)))))), ?_⟩
    have z1000 : (1000 : Nat) < sizeLine := by decide
    refine ⟨_, rfl, gv, _, rfl, h1.symm, _, rfl, ag, _, l.map (·.1), rfl, .inl h2, agKeys l, ?_⟩
    dsimp only [tNil]
    rw [List.append_nil, ← List.map_append]
    obtain ⟨bs, hbs⟩ : ∃ bs, us ++ l.map (·.1) = bs := ⟨_, rfl⟩
    have lb : bs.length = us.length + l.length := by rw [← hbs, List.length_append, List.length_map]
    rw [hbs] at vo ⊢
    refine ⟨by rw [List.length_map]; exact Nat.le_trans (by omega) (Nat.le_of_lt z1000), fun N hN => ?_⟩
    refine ⟨aP, rfl, ⟨_, sP _⟩, for_tup (xs := partN.map V.str) (fun i σ H' => Same H H' ∧ ∃ L x5 x6 x7 x8 x9, H' L = some (.lst ((g.lastAt bs i).map V.str)) ∧ σ = [some (.ref p), some (.ref gv), some (.ref ag), some (.ref rs), some (.ref L), x5, x6, x7, x8, x9])
      ⟨Same.new hN, N, _, _, _, _, _, upd_same, rfl⟩ (fun i σ H' _ _ => sP H') (fun i x σ H' hx ⟨s1, L, x5, x6, x7, x8, x9, gL1, eσ⟩ => ?_) (fun σ H' ⟨s1, L, x5, x6, x7, x8, x9, gL1, eσ⟩ => ?_)⟩
    · subst eσ
      rw [List.getElem?_map] at hx
      obtain ⟨z, hz, rfl⟩ := Option.map_eq_some_iff.mp hx
      obtain ⟨i5, ez⟩ := partF hz
      have uo := vo.uses i i5
      have up := uptoLe g i5
      have ll := lastLen g bs i
      obtain ⟨kn, hkn⟩ : ∃ kn, kn = g.lastAt bs i := ⟨_, rfl⟩
      rw [← hkn] at gL1 uo ll
      refine ⟨_, rfl, L, _, rfl, .inl (SqL.of gL1), fun Kn hKn => ?_⟩
      have sK := Same.new (o := .lst (kn.map V.str)) hKn
      have gK : (upd H' Kn (.lst (kn.map V.str))) Kn = some (.lst (kn.map V.str)) := upd_same
      have nKL : L ≠ Kn := ne_of_none gL1 hKn
      have gL1 := sK _ _ gL1
      have hKH : H Kn = none := by
        cases e : H Kn with
        | none => rfl
        | some o => rw [s1 _ _ e] at hKn; cases hKn
      have s2 := s1.trans sK
      clear s1 sK hKn
      generalize (upd H' Kn (.lst (kn.map V.str))) = H2 at *
      obtain ⟨v, hg, ha⟩ := (hP.same s2).get i hz
      refine ⟨_, rfl, _, rfl, p, v, rfl, hg, ha.or fun p2 H3 s3 hd => ?_⟩
      obtain ⟨as, eas⟩ : ∃ as, as = (g.at i).getD [] := ⟨_, rfl⟩
      rw [← eas] at hd uo up
      obtain ⟨xd, hx2, hal⟩ := hd
      refine ⟨p2, _, rfl, hx2, ?_⟩
      refine NEn.for_ent (xs := xd.map V.ref) (fun j σ H' => Same H H' ∧ KL H3 H' ∧ H' L = some (.lst (kn.map V.str)) ∧ H' Kn = some (.lst ((aft kn (as.take j)).map V.str)) ∧ ∃ x7 x8, σ = [some (.ref p), some (.ref gv), some (.ref ag), some (.ref rs), some (.ref L), some (.str z), some (.ref Kn), x7, x8, x9])
        ⟨s2.trans s3, KL.refl H3, s3 _ _ gL1, s3 _ _ (by rw [List.take_zero, aft_nil]; exact gK), _, _, rfl⟩ (fun j σ H' _ ⟨_, s4, _⟩ => sqT_kl s4 hx2) (fun j x σ H' T hx ⟨s4, s5, gL2, gK2, x7, x8, eσ⟩ hT => ?_) (fun σ H' ⟨s4, s5, gL2, gK2, x7, x8, eσ⟩ => ?_)
      · subst eσ
        rw [List.getElem?_map] at hx
        obtain ⟨x, hxj, rfl⟩ := Option.map_eq_some_iff.mp hx
        have hj : j < as.length := by rw [← hal.1]; exact (List.getElem?_eq_some_iff.mp hxj).1
        obtain ⟨a, haj⟩ : ∃ a, as[j]? = some a := ⟨_, List.getElem?_eq_getElem hj⟩
        obtain ⟨ys, hD⟩ := hal.2 j x a hxj haj
        obtain ⟨u1, u2⟩ := usesAt uo haj
        have sT : Same H' (upd H' T (.tup [.int (j : Nat), .ref x])) := Same.new hT
        refine ⟨T, _, rfl, SqT.of upd_same, rfl, _, _, rfl, _, _, rfl, rfl, ?_⟩
        have s4 := s4.trans sT
        have s5 := s5.trans (KL.of sT)
        have gL2 := sT _ _ gL2
        have gK2 := sT _ _ gK2
        clear sT hT
        generalize (upd H' T (.tup [.int (j : Nat), .ref x])) = H4 at *
        refine ⟨_, rfl, _, rfl, _, rfl, by show 2 ≤ sizeLine; decide, fun T2 hT2 => ?_⟩
        have sT : Same H4 (upd H4 T2 (.tup [.str z, .int (j : Nat)])) := Same.new hT2
        have s4 := s4.trans sT
        have s5 := s5.trans (KL.of sT)
        have gL2 := sT _ _ gL2
        have gK2 := sT _ _ gK2
        clear sT hT2
        generalize (upd H4 T2 (.tup [.str z, .int (j : Nat)])) = H5 at *
        have hD := hD.kl s5
        have kc := k.at_ a.1 a.2
        obtain ⟨dx, pu, pn, d1, d2, d3⟩ := id hD.dd
        refine ⟨_, rfl, _, rfl, x, Kn, ag, _, a.1, a.2, ys, _, l, rfl, hD, SqL.of gK2, s4 _ _ h2, u1, u2, ?_⟩
        refine ⟨_, rfl, x, _, dx, _, _, rfl, d1, kc.cl, kc.nk, rfl, rfl, _, rfl, ?_⟩
        have lk := aft_len kn (as.take j)
        rw [List.length_take] at lk
        cases ea : a.1 with
        | none =>
          refine iteF ⟨s4, s5, gL2, ?_, _, _, rfl⟩
          rw [getLast haj, aft_snoc, ea]
          show _ = some (HO.lst ((aft kn (as.take j) ++ []).map V.str))
          rw [List.append_nil]
          exact gK2
        | some m =>
          refine iteT ⟨_, rfl, .inl ⟨rfl, _, SqL.of gK2⟩, _, rfl, x, _, dx, _, _, rfl, d1, kc.cl, kc.nk, rfl, ?_⟩
          rw [ea]
          refine ⟨Kn, _, _, rfl, rfl, gK2, by rw [List.length_map]; exact Nat.lt_of_le_of_lt (by omega) z1000, ?_⟩
          refine ⟨sameUpd s4 hKH, s5.put gK2, (upd_ne nKL).trans gL2, ?_, _, _, rfl⟩
          rw [getLast haj, aft_snoc, ea]
          exact upd_same.trans (by rw [List.map_append]; rfl)
      · subst eσ
        rw [List.length_map, hal.1, List.take_length] at gK2
        refine ⟨_, rfl, aL, _, rfl, .inr (sL _), rfl, by decide +kernel, _, rfl, ?_⟩
        rw [if_pos rfl, partL hz]
        have e9 : g.lastAt bs (i + 1) = if i = 1 ∨ i = 3 then kn else aft kn as := by rw [hkn, eas]; rfl
        by_cases hL : i = 1 ∨ i = 3
        · rw [decide_eq_true hL]
          rw [if_pos hL] at e9
          exact iteF ⟨s4, L, _, _, _, _, _, by rw [e9]; exact gL2, rfl⟩
        · rw [decide_eq_false hL]
          rw [if_neg hL] at e9
          exact iteT ⟨_, rfl, s4, Kn, _, _, _, _, _, by rw [e9]; exact gK2, rfl⟩
    · subst eσ
      have gL1 : H' L = some (.lst ((g.lastAt bs 5).map V.str)) := gL1
      refine ⟨_, rfl, rs, ws, ws, rfl, h3.same s1, by omega, fun _ h => h, by omega, fun ys q2 H2 asc s2 hq2 g2 => ?_⟩
      refine ⟨q2, rfl, ⟨_, SqT.of g2⟩, ?_⟩
      refine for_tup (xs := ys.map V.str) (fun i σ H' => H' = H2 ∧ ∃ x9, σ = [some (.ref p), some (.ref gv), some (.ref ag), some (.ref rs), some (.ref L), x5, x6, x7, x8, x9]) ⟨rfl, _, rfl⟩ (fun i σ H' _ ⟨e, _⟩ => by rw [e]; exact SqT.of g2) (fun i x σ H' hx ⟨e, y, eσ⟩ => ?_) (fun σ H' ⟨e, _⟩ => by rw [e]; exact q H2 (s1.trans s2))
      subst e eσ
      rw [List.getElem?_map] at hx
      obtain ⟨z, hz, rfl⟩ := Option.map_eq_some_iff.mp hx
      refine ⟨_, rfl, _, rfl, L, _, rfl, .inl (SqL.of (s2 _ _ gL1)), rfl, flat_strs _, _, rfl, ?_⟩
      rw [if_pos rfl, inV_str, decide_eq_true (vo.res z ((asc.2.2 z).mp (List.mem_of_getElem? hz)))]
      exact iteF ⟨rfl, _, rfl⟩
end
end K06

set_option Elab.async false
set_option linter.all false
set_option maxRecDepth 100000
set_option maxHeartbeats 4000000
/-! Program.__init__. -/
namespace K06
open PySem L2 NX NU
open PyProof.Rows (sortedS)
abbrev sPi : Stmt := inClass (top 65) 0
abbrev NPi : List Str := ["self", "ahead", "loop", "between", "second", "behind", "given", "again", "results", "parts", "prices"]
abbrev pPi : List Str := ["self", "ahead", "loop", "between", "second", "behind", "given", "again", "results"]
theorem scPi : FnScope NPi pPi (defScope sPi) := ⟨rfl, rfl, rfl, by decide +kernel, rfl, by decide +kernel, by decide +kernel⟩
def InA (K : PySem.W.Frag) (d : D3) (H : Hp) (v : V) (as : List Act) : Prop := ∃ (p : Addr) (xs : List Addr), v = .ref p ∧ NI.Sq K H p (xs.map V.ref) ∧ AllAt d H xs as
def InO (K : PySem.W.Frag) (d : D3) (H : Hp) (v : V) : Option (List Act) → Prop
  | none => v = .non
  | some as => InA K d H v as
theorem InA.same {K : PySem.W.Frag} {d : D3} {H H' : Hp} {v : V} {as : List Act} (s : Same H H') (h : InA K d H v as) : InA K d H' v as := by
  obtain ⟨p, xs, e, a, b⟩ := h
  exact ⟨p, xs, e, a.same s, b.same s⟩
theorem InO.same {K : PySem.W.Frag} {d : D3} {H H' : Hp} {v : V} (s : Same H H') : ∀ {o : Option (List Act)}, InO K d H v o → InO K d H' v o
  | none, h => h
  | some _, h => InA.same s h
/-- tuple(deeds) -/
theorem InA.tup {K : PySem.W.Frag} {d : D3} {H : Hp} {v : V} {as : List Act} {Q : VK} (h : InA K d H v as) (q : ∀ p H', Same H H' → Deeds K d H' p as → Q (.ref p) H') :
    ∃ p ys, [v] = [V.ref p] ∧ ((SqL K H p ys ∧ ∀ l, H l = none → Q (.ref l) (upd H l (.tup ys))) ∨ (SqT K H p ys ∧ Q (.ref p) H)) := by
  obtain ⟨p, xs, rfl, hs, b⟩ := h
  rcases hs with hs | hs
  · exact ⟨p, _, rfl, .inl ⟨hs, fun l hl => q l _ (Same.new hl) ⟨xs, SqT.of upd_same, b.same (Same.new hl)⟩⟩⟩
  · exact ⟨p, _, rfl, .inr ⟨hs, q p H (Same.refl H) ⟨xs, hs, b⟩⟩⟩
/-- tuple(v), v a list or a tuple of deeds -/
theorem tupR {K : PySem.W.Frag} {d : D3} {H : Hp} {v : V} {as : List Act} {i : Nat} {σ : L2.St} {Q : VK} (hσ : σ[i]? = some (some v)) (h : InA K d H v as) (q : ∀ p H', Same H H' → Deeds K d H' p as → Q (.ref p) H') :
    tCB (fun xs H Q => ∃ p ys, xs = [V.ref p] ∧ ((SqL K H p ys ∧ ∀ l, H l = none → Q (.ref l) (upd H l (.tup ys))) ∨ (SqT K H p ys ∧ Q (.ref p) H))) (tCons (tVar i) tNil) σ H Q := ⟨v, hσ, InA.tup (Q := Q) h q⟩
theorem optR {K : PySem.W.Frag} {d : D3} {H : Hp} {v : V} {o : Option (List Act)} {i : Nat} {σ : L2.St} {Q : VK} (hσ : σ[i]? = some (some v)) (h : InO K d H v o) (q : ∀ v' H', Same H H' → PartA K d H' v' o → Q v' H') :
    tIf (tTest (tOp (fun x y H Q => y = V.non ∧ Q (V.bl (decide (x = V.non))) H) (tVar i) (tC V.non))) (tC V.non) (tCB (fun xs H Q => ∃ p ys, xs = [V.ref p] ∧ ((SqL K H p ys ∧ ∀ l, H l = none → Q (.ref l) (upd H l (.tup ys))) ∨ (SqT K H p ys ∧ Q (.ref p) H))) (tCons (tVar i) tNil)) σ H Q := by
  refine ⟨v, hσ, rfl, _, rfl, ?_⟩
  cases o with
  | none =>
    obtain rfl : v = .non := h
    exact iteT (q _ H (Same.refl H) rfl)
  | some as =>
    refine ite2 (fun e => ?_) (fun _ => tupR hσ h fun p H' s h2 => q _ H' s ⟨p, rfl, h2⟩)
    obtain ⟨p, xs, rfl, _⟩ := h
    exact absurd (of_decide_eq_true e) (fun z => nomatch z)
theorem IsD.put {d : D3} {H : Hp} {x : Addr} {mk : Option Str} {us ys : List Str} {y C dy : Addr} {fs : List (Str × V)} {o : HO} (hy : H y = some (.ins C dy fs)) (hf : ∀ v r, fs ≠ (Str.ofString "uses", v) :: r) (h : IsD d H x mk us ys) : IsD d (upd H y o) x mk us ys := by
  obtain ⟨⟨dx, p, q, a, b, c⟩, h1, h2, h3, h4⟩ := h
  refine ⟨⟨dx, p, q, ?_, ?_, ?_⟩, h1, h2, h3, h4⟩
  · rw [upd_ne (fun e => by rw [e, hy] at a; injection a with a; injection a with a1 a2 a3; exact hf _ _ a3)]; exact a
  · rw [upd_ne (fun e => by rw [e, hy] at b; cases b)]; exact b
  · rw [upd_ne (fun e => by rw [e, hy] at c; cases c)]; exact c
theorem Deeds.put {K : PySem.W.Frag} {d : D3} {H : Hp} {p : Addr} {as : List Act} {y C dy : Addr} {fs : List (Str × V)} {o : HO} (hy : H y = some (.ins C dy fs)) (hf : ∀ v r, fs ≠ (Str.ofString "uses", v) :: r) (h : Deeds K d H p as) : Deeds K d (upd H y o) p as := by
  obtain ⟨xs, e, l, k⟩ := h
  exact ⟨xs, NI.sqT_put hy e, l, fun i x a e1 e2 => (k i x a e1 e2).imp fun _ q => q.put hy hf⟩
theorem PartA.put {K : PySem.W.Frag} {d : D3} {H : Hp} {v : V} {y C dy : Addr} {fs : List (Str × V)} {o : HO} (hy : H y = some (.ins C dy fs)) (hf : ∀ v r, fs ≠ (Str.ofString "uses", v) :: r) : ∀ {q : Option (List Act)}, PartA K d H v q → PartA K d (upd H y o) v q
  | none, h => h
  | some _, ⟨p, e, h⟩ => ⟨p, e, h.put hy hf⟩
theorem PartsD.put {K : PySem.W.Frag} {d : D3} {H : Hp} {P : Addr} {g : Prg} {y C dy : Addr} {fs : List (Str × V)} {o : HO} (hy : H y = some (.ins C dy fs)) (hf : ∀ v r, fs ≠ (Str.ofString "uses", v) :: r) (h : PartsD K d H P g) : PartsD K d (upd H y o) P g := by
  obtain ⟨v0, v1, v2, v3, v4, e, h0, h1, h2, h3, h4⟩ := h
  exact ⟨v0, v1, v2, v3, v4, (upd_ne (fun z => by rw [z, hy] at e; cases e)).trans e, h0.put hy hf, h1.put hy hf, h2.put hy hf, h3.put hy hf, h4.put hy hf⟩
/-- all but dicts stays as it was -/
def KD (H H' : Hp) : Prop := ∀ b o, H b = some o → (∀ ys, o ≠ .dK ys) → H' b = some o
theorem IsD.kd {d : D3} {H H' : Hp} {x : Addr} {mk : Option Str} {us ys : List Str} (s : KD H H') (h : IsD d H x mk us ys) : IsD d H' x mk us ys := by
  obtain ⟨⟨dx, p, q, a, b, c⟩, h1, h2, h3, h4⟩ := h
  exact ⟨⟨dx, p, q, s _ _ a (fun _ e => nomatch e), s _ _ b (fun _ e => nomatch e), s _ _ c (fun _ e => nomatch e)⟩, h1, h2, h3, h4⟩
theorem sqT_kd {K : PySem.W.Frag} {H H' : Hp} {a : Addr} {xs : List V} (s : KD H H') (h : SqT K H a xs) : SqT K H' a xs := by
  rcases h with (h | ⟨o, h⟩) | h
  · exact .inl (.inl (s _ _ h (fun _ e => nomatch e)))
  · exact .inl (.inr ⟨o, s _ _ h (fun _ e => nomatch e)⟩)
  · exact .inr h
theorem Deeds.kd {K : PySem.W.Frag} {d : D3} {H H' : Hp} {p : Addr} {as : List Act} (s : KD H H') (h : Deeds K d H p as) : Deeds K d H' p as := by
  obtain ⟨xs, e, l, k⟩ := h
  exact ⟨xs, sqT_kd s e, l, fun i x a e1 e2 => (k i x a e1 e2).imp fun _ q => q.kd s⟩
theorem PartA.kd {K : PySem.W.Frag} {d : D3} {H H' : Hp} {v : V} (s : KD H H') : ∀ {o : Option (List Act)}, PartA K d H v o → PartA K d H' v o
  | none, h => h
  | some _, ⟨p, e, h⟩ => ⟨p, e, h.kd s⟩
/-- None, or a copy of the dict -/
theorem agR {H : Hp} {v : V} {l : List (Str × Int)} {i : Nat} {σ : L2.St} {Q : VK} (hσ : σ[i]? = some (some v)) (h : (v = .non ∧ l = []) ∨ ∃ p, v = .ref p ∧ AgD H p l) (q : ∀ a, H a = none → Q (.ref a) (upd H a (.dK (agK l)))) :
    tIf (tTest (tOp (fun x y H Q => y = V.non ∧ Q (V.bl (decide (x = V.non))) H) (tVar i) (tC V.non))) tDNewK (tCB (fun xs H Q => ∃ a kvs, xs = [V.ref a] ∧ Rd H a (.dK kvs) ∧ ∀ p, H p = none → Q (.ref p) (upd H p (.dK kvs))) (tCons (tVar i) tNil)) σ H Q := by
  refine ⟨v, hσ, rfl, _, rfl, ?_⟩
  rcases h with ⟨rfl, rfl⟩ | ⟨p, rfl, h⟩
  · exact iteT q
  · exact ite2 (fun e => absurd (of_decide_eq_true e) (fun z => nomatch z)) (fun _ => ⟨_, hσ, p, _, rfl, .inl h, q⟩)
theorem AgD.put {H : Hp} {a y C dy : Addr} {fs : List (Str × V)} {o : HO} {l : List (Str × Int)} (hy : H y = some (.ins C dy fs)) (h : AgD H a l) : AgD (upd H y o) a l := (upd_ne (fun z => by unfold AgD at h; rw [z, hy] at h; cases h)).trans h
/-- what a program is made of -/
structure Tol where
  g : Prg
  us : List Str
  ag : List (Str × Int)
  rs : List Str
def Tol.words (t : Tol) : List Str := t.us ++ t.ag.map (·.1) ++ t.rs ++ actsN t.g.acts
structure Tol.Ok (t : Tol) : Prop where
  shape : t.g.Shape
  sizes : t.g.Sizes
  us : Tld t.us
  ag : AgOk t.ag
  rs : Tld t.rs
  six : ∃ pool : List Str, (∀ z ∈ t.words, z ∈ pool) ∧ pool.length ≤ 6
  size : t.us.length + t.ag.length + t.rs.length + 4 * t.g.acts.length ≤ 1000
  v : t.g.VOk (t.us ++ t.ag.map (·.1)) (t.ag.map (·.1)) t.rs
/-- a program at x -/
structure IsP (K : PySem.W.Frag) (d : D3) (H : Hp) (x C : Addr) (t : Tol) : Prop where
  ex : ∃ (dx nt P gt ag rt : Addr) (ns gs rs : List Str), H x = some (.ins C dx [("_names", .ref nt), ("_parts", .ref P), ("_given", .ref gt), ("_again", .ref ag), ("_results", .ref rt)]) ∧ H nt = some (.tup (ns.map V.str)) ∧ PartsD K d H P t.g ∧ H gt = some (.tup (gs.map V.str)) ∧ AgD H ag t.ag ∧ H rt = some (.tup (rs.map V.str)) ∧
    Asc ns t.words ∧ Asc gs t.us ∧ Asc rs t.rs
theorem IsP.same {K : PySem.W.Frag} {d : D3} {H H' : Hp} {x C : Addr} {t : Tol} (s : Same H H') (h : IsP K d H x C t) : IsP K d H' x C t := by
  obtain ⟨dx, nt, P, gt, ag, rt, ns, gs, rs, a, b, c, e, f, g, h1, h2, h3⟩ := h.ex
  exact ⟨dx, nt, P, gt, ag, rt, ns, gs, rs, s _ _ a, s _ _ b, c.same s, s _ _ e, s _ _ f, s _ _ g, h1, h2, h3⟩
structure PCls (K : PySem.W.Frag) (C : Addr) : Prop where
  cl : Cls K C
  n1 : NoAttr K C "_names"
  n2 : NoAttr K C "_parts"
  n3 : NoAttr K C "_given"
  n4 : NoAttr K C "_again"
  n5 : NoAttr K C "_results"
/-- what Program(..) is told -/
structure PArg (K : PySem.W.Frag) (d : D3) (H : Hp) (v1 v2 v3 v4 v5 vg va vr : V) (t : Tol) : Prop where
  a : InA K d H v1 t.g.a
  l : InO K d H v2 t.g.l
  b : InA K d H v3 t.g.b
  s : InO K d H v4 t.g.s
  h : InA K d H v5 t.g.h
  gv : ∃ p, vg = .ref p ∧ NI.Sq K H p (t.us.map V.str)
  ag : (va = .non ∧ t.ag = []) ∨ ∃ p, va = .ref p ∧ AgD H p t.ag
  rs : ∃ p, vr = .ref p ∧ NI.Sq K H p (t.rs.map V.str)
def spPi (K : PySem.W.Frag) (d : D3) : Sp := fun vs H Q _ => ∃ (x C dx : Addr) (v1 v2 v3 v4 v5 vg va vr : V) (t : Tol), vs = [.ref x, v1, v2, v3, v4, v5, vg, va, vr] ∧ H x = some (.ins C dx []) ∧ PCls K C ∧ PArg K d H v1 v2 v3 v4 v5 vg va vr t ∧ t.Ok ∧
  ∀ H', (∀ b o, b ≠ x → H b = some o → H' b = some o) → IsP K d H' x C t → Q .non H'
theorem asc_of {ys us : List Str} (p : ys.Perm us) (s : sortedS ys = true) (n : us.Nodup) : Asc ys us := ⟨s, p.nodup_iff.mpr n, fun y => p.mem_iff⟩
/-- while a program is made -/
structure PSt (K : PySem.W.Frag) (d : D3) (t : Tol) (x C dx Pd a gv rs : Addr) (H0 H : Hp) (fs : List (Str × V)) : Prop where
  hx : H x = some (.ins C dx fs)
  par : PartsD K d H Pd t.g
  ag : AgD H a t.ag
  gv : NI.Sq K H gv (t.us.map V.str)
  rs : NI.Sq K H rs (t.rs.map V.str)
  bt : ∀ b o, b ≠ x → H0 b = some o → H b = some o
theorem PSt.same {K : PySem.W.Frag} {d : D3} {t : Tol} {x C dx Pd a gv rs : Addr} {H0 H H' : Hp} {fs : List (Str × V)} (s : Same H H') (h : PSt K d t x C dx Pd a gv rs H0 H fs) : PSt K d t x C dx Pd a gv rs H0 H' fs :=
  ⟨s _ _ h.hx, h.par.same s, s _ _ h.ag, h.gv.same s, h.rs.same s, fun b o n e => s _ _ (h.bt b o n e)⟩
theorem PSt.put {K : PySem.W.Frag} {d : D3} {t : Tol} {x C dx Pd a gv rs : Addr} {H0 H : Hp} {fs fs2 : List (Str × V)} (hf : ∀ v r, fs ≠ (Str.ofString "uses", v) :: r) (h : PSt K d t x C dx Pd a gv rs H0 H fs) : PSt K d t x C dx Pd a gv rs H0 (upd H x (.ins C dx fs2)) fs2 :=
  ⟨upd_same, h.par.put h.hx hf, h.ag.put h.hx, h.gv.imp (NI.sqL_put h.hx) (NI.sqT_put h.hx), h.rs.imp (NI.sqL_put h.hx) (NI.sqT_put h.hx), fun b o n e => (upd_ne n).trans (h.bt b o n e)⟩
theorem noUses {n : Str} {u : V} {fs : List (Str × V)} (h : n ≠ Str.ofString "uses") : ∀ v r, (n, u) :: fs ≠ (Str.ofString "uses", v) :: r := fun v r e => by
  injection e with e1 e2
  injection e1 with e1 _
  exact h e1
theorem tupUpd {H : Hp} {p x C dx : Addr} {xs : List V} {fs : List (Str × V)} {o : HO} (h : H p = some (.tup xs)) (hx : H x = some (.ins C dx fs)) : (upd H x o) p = some (.tup xs) := (upd_ne (fun e => by rw [e, hx] at h; cases h)).trans h
section
variable {P : Program} {w : World} {K : PySem.W.Frag} {mg : Str → Option Value} {base : Heap}
theorem ok_pi {d : D3} {dvs : List V} {kws : List (Str × V)} {f : Addr} {fd : FuncData} (F : L2.FunD K "__init__" "Program.__init__" (defArgs sPi) (defBody sPi) (defScope sPi) dvs kws f fd) (T : TxtB mg) (N : TxtP mg) (TA : TxtA mg) (cCp : C8.Cal P w K mg base 1 "check_parts" (spCp K d) []) (cCz : C8.Cal P w K mg base 1 "check_sizes" (spCz K d) [])
    (cCt : C8.Cal P w K mg base 4 "check_told_names" (spCt K) []) (cAn : C8.Cal P w K mg base 3 "all_names" (spAn K d) []) (cCv : C8.Cal P w K mg base 2 "check_values" (spCv K d) []) : FnOk P w K mg base CX0 5 f fd pPi (spPi K d) := by
  refine F.ok scPi (fun vs H Q E h => ?_) (fun cdv A outer s H vs Q E hr h => ?_)
  · obtain ⟨x, C, dx, v1, v2, v3, v4, v5, vg, va, vr, t, rfl, _⟩ := h
    rfl
  · obtain ⟨x, C, dx, v1, v2, v3, v4, v5, vg, va, vr, t, rfl, hx, pc, ar, ok, q⟩ := h
    have hu := hu_of hr
    refine ⟨_, (pss_cons (ps_set (i := 9) scPi.nd rfl (Or.inl rfl) (pe_disp (pps_cons pe_str (pe_callTy call_tuple_of (by rfl) T.btuple (by decide +kernel) (pa_cons (pv 1) pa_nil))
        (pps_cons pe_str (pe_ifExp (pt_cmpR op_isN (pv 2) pe_non (nomark _)) pe_non (pe_callTy call_tuple_of (by rfl) T.btuple (by decide +kernel) (pa_cons (pv 2) pa_nil)))
        (pps_cons pe_str (pe_callTy call_tuple_of (by rfl) T.btuple (by decide +kernel) (pa_cons (pv 3) pa_nil))
        (pps_cons pe_str (pe_ifExp (pt_cmpR op_isN (pv 4) pe_non (nomark _)) pe_non (pe_callTy call_tuple_of (by rfl) T.btuple (by decide +kernel) (pa_cons (pv 4) pa_nil)))
        (pps_cons pe_str (pe_callTy call_tuple_of (by rfl) T.btuple (by decide +kernel) (pa_cons (pv 5) pa_nil)) pps_nil))))) rfl rfl (by intro h; cases h) (by decide)))
      (pss_cons (ps_set (i := 10) scPi.nd rfl (Or.inl rfl) (pe_ifExp (pt_cmpR op_isN (pv 7) pe_non (nomark _)) pe_dnewK (pe_callTy call_dictD (by rfl) N.bdict (by decide +kernel) (pa_cons (pv 7) pa_nil))))
      (pss_cons (ps_expr (C8.pe_c cCp hr (by decide) rfl (pa_cons (pv 9) pa_nil)))
      (pss_cons (ps_expr (C8.pe_c cCz hr (by decide) rfl (pa_cons (pv 9) pa_nil)))
      (pss_cons (ps_expr (C8.pe_c cCt hr (by decide) rfl (pa_cons (pv 6) (pa_cons (pv 10) (pa_cons (pv 8) pa_nil)))))
      (pss_cons (ps_fld (pv 0) (C8.pe_c cAn hr (by decide) rfl (pa_cons (pv 9) (pa_cons (pv 6) (pa_cons (pv 10) (pa_cons (pv 8) pa_nil))))) rfl)
      (pss_cons (ps_expr (C8.pe_c cCv hr (by decide) rfl (pa_cons (pv 9) (pa_cons (pv 6) (pa_cons (pv 10) (pa_cons (pv 8) pa_nil))))))
      (pss_cons (ps_fld (pv 0) (pv 9) rfl)
      (pss_cons (ps_fld (pv 0) (pe_callTy call_tuple_of (by rfl) T.btuple (by decide +kernel) (pa_cons (pe_callBK (NSK.cr_sortedKS rfl) (by rfl) TA.bsorted (by decide +kernel) (pa_cons (pv 6) pa_nil) (pk_cons (pe_bltn (v := .ty "str") (by rfl) T.bstr (by decide +kernel) rfl) pk_nil)) pa_nil)) rfl)
      (pss_cons (ps_fld (pv 0) (pv 10) rfl)
      (pss_one (ps_fld (pv 0) (pe_callTy call_tuple_of (by rfl) T.btuple (by decide +kernel) (pa_cons (pe_callBK (NSK.cr_sortedKS rfl) (by rfl) TA.bsorted (by decide +kernel) (pa_cons (pv 8) pa_nil) (pk_cons (pe_bltn (v := .ty "str") (by rfl) T.bstr (by decide +kernel) rfl) pk_nil)) pa_nil)) rfl)))))))))))), ?_⟩
    intro Pd hPd
    have s0 : Same H (upd H Pd (.dK [])) := Same.new hPd
    dsimp only [tPairs, tC]
    refine tupR (i := 1) rfl (ar.a.same s0) fun p1 H1 s1 a1 => ?_
    have g1 := s1
    have s1 := s0.trans s1
    refine optR (i := 2) rfl (ar.l.same s1) fun w2 H2 s2 a2 => ?_
    have t2 := s1.trans s2
    refine tupR (i := 3) rfl (ar.b.same t2) fun p3 H3 s3 a3 => ?_
    have t3 := t2.trans s3
    refine optR (i := 4) rfl (ar.s.same t3) fun w4 H4 s4 a4 => ?_
    have t4 := t3.trans s4
    refine tupR (i := 5) rfl (ar.h.same t4) fun p5 H5 s5 a5 => ?_
    have t5 := t4.trans s5
    have a4 := a4.same s5
    have a3 := (a3.same s4).same s5
    have a2 := ((a2.same s3).same s4).same s5
    have a1 := (((a1.same s2).same s3).same s4).same s5
    have gP5 : H5 Pd = some (.dK []) := s5 _ _ (s4 _ _ (s3 _ _ (s2 _ _ (g1 _ _ upd_same))))
    refine ⟨gP5, kvsP (.ref p1) w2 (.ref p3) w4 (.ref p5), rfl, by show 5 ≤ 15; decide, ?_⟩
    have hm : mergeK [] (kvsP (.ref p1) w2 (.ref p3) w4 (.ref p5)) = kvsP (.ref p1) w2 (.ref p3) w4 (.ref p5) := rfl
    rw [hm]
    have kd : KD H5 (upd H5 Pd (.dK (kvsP (.ref p1) w2 (.ref p3) w4 (.ref p5)))) := fun b o e n => by
      have ne : b ≠ Pd := fun z => by
        rw [z, gP5] at e
        exact n _ (Option.some.inj e).symm
      rw [upd_ne ne]
      exact e
    have par : PartsD K d (upd H5 Pd (.dK (kvsP (.ref p1) w2 (.ref p3) w4 (.ref p5)))) Pd t.g :=
      ⟨_, _, _, _, _, upd_same, ⟨p1, rfl, a1.kd kd⟩, a2.kd kd, ⟨p3, rfl, a3.kd kd⟩, a4.kd kd, ⟨p5, rfl, a5.kd kd⟩⟩
    have t6 : Same H (upd H5 Pd (.dK (kvsP (.ref p1) w2 (.ref p3) w4 (.ref p5)))) := sameUpd t5 hPd
    clear kd gP5 a1 a2 a3 a4 a5 t5 t4 t3 t2 s1 g1 s0 hm s2 s3 s4 s5 hPd
    generalize (upd H5 Pd (.dK (kvsP (.ref p1) w2 (.ref p3) w4 (.ref p5)))) = H6 at *
    obtain ⟨gv, rfl, hgv⟩ := ar.gv
    obtain ⟨rs, rfl, hrs⟩ := ar.rs
    refine agR (i := 7) (l := t.ag) rfl (ar.ag.imp id fun ⟨p, e, h⟩ => ⟨p, e, t6 _ _ h⟩) fun a ha => ?_
    have t7 := t6.trans (Same.new (o := .dK (agK t.ag)) ha)
    have B7 : PSt K d t x C dx Pd a gv rs H (upd H6 a (.dK (agK t.ag))) [] := ⟨t7 _ _ hx, par.same (Same.new ha), upd_same, hgv.same t7, hrs.same t7, fun b o _ e => t7 _ _ e⟩
    clear t7 par t6 ha
    generalize (upd H6 a (.dK (agK t.ag))) = H7 at *
    refine ⟨_, rfl, Pd, t.g, rfl, B7.par, ok.shape, ?_⟩
    refine ⟨_, rfl, Pd, t.g, rfl, B7.par, ok.sizes, fun H8 s8 => ?_⟩
    have B8 := B7.same s8
    refine ⟨_, rfl, _, rfl, _, rfl, gv, a, rs, t.us, t.rs, t.ag, rfl, B8.gv, B8.ag, B8.rs, ok.us, ok.ag, ok.rs, fun H9 s9 => ?_⟩
    have B9 := B8.same s9
    obtain ⟨pool, hp1, hp2⟩ := ok.six
    refine ⟨_, rfl, _, rfl, _, rfl, _, rfl, Pd, gv, a, rs, t.g, t.us, t.rs, pool, t.ag, rfl, B9.par, B9.gv, B9.ag, B9.rs, hp1, hp2, ok.size, fun ns nt H10 nasc s10 hnt gnt => ?_⟩
    have B10 := B9.same s10
    refine ⟨_, rfl, x, C, dx, _, rfl, B10.hx, pc.cl, pc.n1, by decide, ?_⟩
    have B11 := B10.put (fs2 := [("_names", .ref nt)]) (fun v r e => by cases e)
    have gnt := tupUpd (o := .ins C dx [("_names", .ref nt)]) gnt B10.hx
    clear B7 B8 B9 s8 s9 s10 hnt
    rw [show putF (Str.ofString "_names") (V.ref nt) ([] : List (Str × V)) = ([("_names", .ref nt)] : List (Str × V)) from rfl]
    generalize (upd H10 x (.ins C dx [("_names", .ref nt)])) = H11 at *
    clear B10
    refine ⟨_, rfl, _, rfl, _, rfl, _, rfl, Pd, gv, a, rs, t.g, t.us, t.rs, t.ag, rfl, B11.par, B11.gv, B11.ag, B11.rs, ok.rs.few, by have := ok.size; omega, ok.v, fun H12 s12 => ?_⟩
    have B12 := B11.same s12
    have gnt := s12 _ _ gnt
    refine ⟨_, rfl, _, rfl, x, C, dx, _, rfl, B12.hx, pc.cl, pc.n2, by show 1 < 1000; decide, ?_⟩
    have B13 := B12.put (fs2 := [("_names", .ref nt), ("_parts", .ref Pd)]) (noUses (by decide +kernel))
    have gnt := tupUpd (o := .ins C dx [("_names", .ref nt), ("_parts", .ref Pd)]) gnt B12.hx
    rw [show putF (Str.ofString "_parts") (V.ref Pd) ([("_names", .ref nt)] : List (Str × V)) = ([("_names", .ref nt), ("_parts", .ref Pd)] : List (Str × V)) from rfl]
    generalize (upd H12 x (.ins C dx [("_names", .ref nt), ("_parts", .ref Pd)])) = H13 at *
    clear B12 B11 s12
    refine ⟨_, rfl, gv, t.us, rfl, rfl, B13.gv.imp id .inl, by have := ok.us.few; omega, fun gs p pm srt hp => ?_⟩
    have s14 : Same H13 (upd H13 p (.lst (gs.map V.str))) := Same.new hp
    refine ⟨p, _, rfl, .inl ⟨SqL.of upd_same, fun gt hgt => ?_⟩⟩
    have s15 := s14.trans (Same.new (o := .tup (gs.map V.str)) hgt)
    have B15 := B13.same s15
    have gnt := s15 _ _ gnt
    have ggt : (upd (upd H13 p (.lst (gs.map V.str))) gt (.tup (gs.map V.str))) gt = some (.tup (gs.map V.str)) := upd_same
    clear s14 s15 hgt hp
    generalize (upd (upd H13 p (.lst (gs.map V.str))) gt (.tup (gs.map V.str))) = H15 at *
    refine ⟨_, rfl, x, C, dx, _, rfl, B15.hx, pc.cl, pc.n3, by show 2 < 1000; decide, ?_⟩
    have B16 := B15.put (fs2 := [("_names", .ref nt), ("_parts", .ref Pd), ("_given", .ref gt)]) (noUses (by decide +kernel))
    have gnt := tupUpd (o := .ins C dx [("_names", .ref nt), ("_parts", .ref Pd), ("_given", .ref gt)]) gnt B15.hx
    have ggt := tupUpd (o := .ins C dx [("_names", .ref nt), ("_parts", .ref Pd), ("_given", .ref gt)]) ggt B15.hx
    rw [show putF (Str.ofString "_given") (V.ref gt) ([("_names", .ref nt), ("_parts", .ref Pd)] : List (Str × V)) = ([("_names", .ref nt), ("_parts", .ref Pd), ("_given", .ref gt)] : List (Str × V)) from rfl]
    generalize (upd H15 x (.ins C dx [("_names", .ref nt), ("_parts", .ref Pd), ("_given", .ref gt)])) = H16 at *
    refine ⟨_, rfl, _, rfl, x, C, dx, _, rfl, B16.hx, pc.cl, pc.n4, by show 3 < 1000; decide, ?_⟩
    have B17 := B16.put (fs2 := [("_names", .ref nt), ("_parts", .ref Pd), ("_given", .ref gt), ("_again", .ref a)]) (noUses (by decide +kernel))
    have gnt := tupUpd (o := .ins C dx [("_names", .ref nt), ("_parts", .ref Pd), ("_given", .ref gt), ("_again", .ref a)]) gnt B16.hx
    have ggt := tupUpd (o := .ins C dx [("_names", .ref nt), ("_parts", .ref Pd), ("_given", .ref gt), ("_again", .ref a)]) ggt B16.hx
    rw [show putF (Str.ofString "_again") (V.ref a) ([("_names", .ref nt), ("_parts", .ref Pd), ("_given", .ref gt)] : List (Str × V)) = ([("_names", .ref nt), ("_parts", .ref Pd), ("_given", .ref gt), ("_again", .ref a)] : List (Str × V)) from rfl]
    generalize (upd H16 x (.ins C dx [("_names", .ref nt), ("_parts", .ref Pd), ("_given", .ref gt), ("_again", .ref a)])) = H17 at *
    clear B13 B15 B16
    refine ⟨_, rfl, rs, t.rs, rfl, rfl, B17.rs.imp id .inl, by have := ok.rs.few; omega, fun ws p2 pm2 srt2 hp2 => ?_⟩
    have s18 : Same H17 (upd H17 p2 (.lst (ws.map V.str))) := Same.new hp2
    refine ⟨p2, _, rfl, .inl ⟨SqL.of upd_same, fun rt hrt => ?_⟩⟩
    have s19 := s18.trans (Same.new (o := .tup (ws.map V.str)) hrt)
    have B19 := B17.same s19
    have gnt := s19 _ _ gnt
    have ggt := s19 _ _ ggt
    have grt : (upd (upd H17 p2 (.lst (ws.map V.str))) rt (.tup (ws.map V.str))) rt = some (.tup (ws.map V.str)) := upd_same
    clear s18 s19 hrt hp2
    generalize (upd (upd H17 p2 (.lst (ws.map V.str))) rt (.tup (ws.map V.str))) = H19 at *
    refine ⟨_, rfl, x, C, dx, _, rfl, B19.hx, pc.cl, pc.n5, by show 4 < 1000; decide, ?_⟩
    have B20 := B19.put (fs2 := [("_names", .ref nt), ("_parts", .ref Pd), ("_given", .ref gt), ("_again", .ref a), ("_results", .ref rt)]) (noUses (by decide +kernel))
    have gnt := tupUpd (o := .ins C dx [("_names", .ref nt), ("_parts", .ref Pd), ("_given", .ref gt), ("_again", .ref a), ("_results", .ref rt)]) gnt B19.hx
    have ggt := tupUpd (o := .ins C dx [("_names", .ref nt), ("_parts", .ref Pd), ("_given", .ref gt), ("_again", .ref a), ("_results", .ref rt)]) ggt B19.hx
    have grt := tupUpd (o := .ins C dx [("_names", .ref nt), ("_parts", .ref Pd), ("_given", .ref gt), ("_again", .ref a), ("_results", .ref rt)]) grt B19.hx
    exact q _ B20.bt ⟨dx, nt, Pd, gt, a, rt, ns, gs, ws, B20.hx, gnt, B20.par, ggt, B20.ag, grt, nasc, asc_of pm srt ok.us.nr, asc_of pm2 srt2 ok.rs.nr⟩
end
end K06

set_option Elab.async false
set_option linter.all false
set_option maxRecDepth 100000
set_option maxHeartbeats 4000000
/-! The law's deeds. -/
namespace K06
open PySem L2 NX NU
open PyProof.Rows (sortedS)
abbrev sOr : Stmt := top 76
abbrev sDs : Stmt := top 77
abbrev NDs : List Str := ["_law_pen_here", "_law_known", "_law_free", "_law_most", "_law_found", "_law_here", "_law_lap", "_law_way", "_law_used", "_law_made"]
theorem scOr : FnScope [] [] (defScope sOr) := ⟨rfl, rfl, rfl, by decide +kernel, rfl, by decide +kernel, by decide +kernel⟩
theorem scDs : FnScope NDs ["_law_pen_here", "_law_known", "_law_free", "_law_most"] (defScope sDs) := ⟨rfl, rfl, rfl, by decide +kernel, rfl, by decide +kernel, by decide +kernel⟩
/-- lots (made, used) at the addresses ts -/
def LotsT (H : Hp) (ts : List Addr) (as : List Act) : Prop := ts.length = as.length ∧ ∀ (i : Nat) t a, ts[i]? = some t → as[i]? = some a → ∃ u, H t = some (.tup [mkV a.1, .ref u]) ∧ H u = some (.lst (a.2.map V.str))
def LotsAt (H : Hp) (L : Addr) (as : List Act) : Prop := ∃ ts : List Addr, H L = some (.lst (ts.map V.ref)) ∧ LotsT H ts as
theorem LotsT.same {H H' : Hp} {ts : List Addr} {as : List Act} (s : Same H H') (h : LotsT H ts as) : LotsT H' ts as := ⟨h.1, fun i t a e1 e2 => (h.2 i t a e1 e2).imp fun _ q => ⟨s _ _ q.1, s _ _ q.2⟩⟩
theorem LotsAt.same {H H' : Hp} {L : Addr} {as : List Act} (s : Same H H') (h : LotsAt H L as) : LotsAt H' L as := h.imp fun _ q => ⟨s _ _ q.1, q.2.same s⟩
theorem pen_ne {H : Hp} {p c : Addr} {ns : List Int} {x y : Int} {u : Addr} {zs : List Str} (P : Pen H p c ns x y) (h : H u = some (.lst (zs.map V.str))) : u ≠ p := fun e => by
  rw [e, P.hp] at h
  injection h with h
  injection h with h
  cases zs with
  | nil => cases h
  | cons z r => injection h with h; cases h
theorem pen_ne2 {H : Hp} {p c : Addr} {ns : List Int} {x y : Int} {u : Addr} {ts : List Addr} (P : Pen H p c ns x y) (h : H u = some (.lst (ts.map V.ref))) : u ≠ p := fun e => by
  rw [e, P.hp] at h
  injection h with h
  injection h with h
  match ts, h with
  | [], h => cases h
  | [_], h => cases h
  | _ :: _ :: _, h => injection h with _ h; injection h with h; cases h
theorem LotsT.but {H H' : Hp} {p c : Addr} {ns : List Int} {x y : Int} {ts : List Addr} {as : List Act} (P : Pen H p c ns x y) (b : But p H H') (h : LotsT H ts as) : LotsT H' ts as :=
  ⟨h.1, fun i t a e1 e2 => (h.2 i t a e1 e2).imp fun _ q => ⟨b _ _ q.1 (fun e => by have z := q.1; rw [e, P.hp] at z; cases z), b _ _ q.2 (pen_ne P q.2)⟩⟩
theorem LotsAt.but {H H' : Hp} {p c : Addr} {ns : List Int} {x y : Int} {L : Addr} {as : List Act} (P : Pen H p c ns x y) (b : But p H H') (h : LotsAt H L as) : LotsAt H' L as := h.imp fun _ q => ⟨b _ _ q.1 (pen_ne2 P q.1), q.2.but P b⟩
theorem UsesOk.congr {ag : List Str} : ∀ {as : List Act} {kn kn2 : List Str}, (∀ z, z ∈ kn ↔ z ∈ kn2) → UsesOk ag kn as → UsesOk ag kn2 as
  | [], _, _, _, _ => trivial
  | a :: r, kn, kn2, e, h => ⟨fun z hz => (e z).mp (h.1 z hz), h.2.1, UsesOk.congr (fun z => by rw [List.mem_append, List.mem_append, e z]) h.2.2⟩
theorem UsesOk.snoc {ag : List Str} {a : Act} : ∀ {as : List Act} {kn : List Str}, UsesOk ag kn as → (∀ z ∈ a.2, z ∈ aft kn as) → (∀ m, a.1 = some m → m ∉ ag) → UsesOk ag kn (as ++ [a])
  | [], kn, _, h1, h2 => ⟨fun z hz => by have := h1 z hz; rw [aft_nil] at this; exact this, h2, trivial⟩
  | b :: r, kn, h, h1, h2 => ⟨h.1, h.2.1, UsesOk.snoc h.2.2 (by rw [aft_cons] at h1; exact h1) h2⟩
/-- deeds drawn: uses known, what is made free -/
structure Drw (kn fs : List Str) (as : List Act) (hs : List Str) : Prop where
  lot : ∀ a ∈ as, LotOk a.1 a.2
  uses : ∀ ag : List Str, (∀ z ∈ fs, z ∉ ag) → UsesOk ag kn as
  here : Uni hs
  eq : ∀ z, z ∈ hs ↔ z ∈ aft kn as
  hin : ∀ z ∈ hs, z ∈ kn ∨ z ∈ fs
  inn : ∀ z ∈ actsN as, z ∈ kn ∨ z ∈ fs
def spDs (K : PySem.W.Frag) : Sp := fun vs H Q _ => ∃ (p c : Addr) (ns : List Int) (at_ rest : Int) (kn fr : Addr) (ws fs : List Str) (most : Nat), vs = [.ref p, .ref kn, .ref fr, .int (most : Int)] ∧ Pen H p c ns at_ rest ∧ at_ ≤ 700000 ∧ H kn = some (.lst (ws.map V.str)) ∧ H fr = some (.lst (fs.map V.str)) ∧
  Uni ws ∧ 0 < ws.length ∧ Uni fs ∧ (∃ pool : List Str, (∀ z ∈ ws, z ∈ pool) ∧ (∀ z ∈ fs, z ∈ pool) ∧ pool.length ≤ 6) ∧ most ≤ 8 ∧
  ∀ T L Hn as hs H', H' T = some (.tup [.ref L, .ref Hn]) → LotsAt H' L as → H' Hn = some (.lst (hs.map V.str)) → as.length ≤ most → Drw ws fs as hs → Drawn H p c ns (at_ + 100) H' → Q (.ref T) H'
theorem uniLen {ws pool : List Str} (h : Uni ws) (k : ∀ z ∈ ws, z ∈ pool) : ws.length ≤ pool.length := by
  rw [← many_of ws h.1]
  exact many_in ws pool k
theorem mem_ns {a : Act} {z : Str} : z ∈ a.ns ↔ z ∈ a.2 ∨ a.1 = some z := by
  obtain ⟨m, u⟩ := a
  unfold Act.ns
  cases m with
  | none => simp
  | some m => simp only [Option.toList_some, List.singleton_append, List.mem_cons, Option.some.injEq]; exact ⟨fun h => h.elim (fun e => Or.inr e.symm) Or.inl, fun h => h.elim Or.inr (fun e => Or.inl e.symm)⟩
theorem actsN_snoc {as : List Act} {a : Act} {z : Str} : z ∈ actsN (as ++ [a]) ↔ z ∈ actsN as ∨ z ∈ a.ns := by
  rw [actsN_app, List.mem_append]
  unfold actsN
  simp
theorem Drw.start {kn fs : List Str} (u : Uni kn) : Drw kn fs [] kn := ⟨nofun, fun _ _ => trivial, u, fun z => by rw [aft_nil], fun z h => .inl h, nofun⟩
theorem Drw.snoc {kn fs : List Str} {as : List Act} {hs hs2 : List Str} {mk : Option Str} {us : List Str} (h : Drw kn fs as hs) (lo : LotOk mk us) (hu : ∀ z ∈ us, z ∈ hs) (hm : ∀ m, mk = some m → m ∈ fs) (u2 : Uni hs2) (e2 : ∀ z, z ∈ hs2 ↔ z ∈ hs ∨ mk = some z) : Drw kn fs (as ++ [(mk, us)]) hs2 where
  lot := fun a ha => (List.mem_append.mp ha).elim (h.lot a) fun e => by rw [List.mem_singleton.mp e]; exact lo
  uses := fun ag hag => (h.uses ag hag).snoc (fun z hz => (h.eq z).mp (hu z hz)) (fun m e => hag m (hm m e))
  here := u2
  eq := fun z => by
    rw [e2 z, aft_snoc, List.mem_append, h.eq z]
    cases mk with
    | none => simp
    | some m => simp [eq_comm]
  hin := fun z hz => ((e2 z).mp hz).elim (h.hin z) fun e => .inr (hm z e)
  inn := fun z hz => (actsN_snoc.mp hz).elim (h.inn z) fun e => (mem_ns.mp e).elim (fun e => h.hin z (hu z e)) fun e => .inr (hm z e)
theorem uni_sub {ws xs : List Str} (h : Uni ws) (p : Part ws xs) : Uni xs := ⟨p.nodup h.1, fun z hz => h.2 z (p.mem z hz)⟩
theorem uni_snoc {hs : List Str} {m : Str} (h : Uni hs) (n : m ∉ hs) (k : nm m = true) : Uni (hs ++ [m]) := ⟨List.nodup_append.mpr ⟨h.1, by simp, fun a ha b hb e => n (by rw [← List.mem_singleton.mp hb, ← e]; exact ha)⟩, fun z hz => (List.mem_append.mp hz).elim (h.2 z) fun e => by rw [List.mem_singleton.mp e]; exact k⟩
/-- lots that stand apart from L and N -/
def LotsX (L N : Addr) (H : Hp) (ts : List Addr) (as : List Act) : Prop := ts.length = as.length ∧ ∀ (i : Nat) t a, ts[i]? = some t → as[i]? = some a → ∃ u, u ≠ L ∧ u ≠ N ∧ H t = some (.tup [mkV a.1, .ref u]) ∧ H u = some (.lst (a.2.map V.str))
theorem LotsX.toT {L N : Addr} {H : Hp} {ts : List Addr} {as : List Act} (h : LotsX L N H ts as) : LotsT H ts as := ⟨h.1, fun i t a e1 e2 => (h.2 i t a e1 e2).imp fun _ q => q.2.2⟩
theorem LotsX.but {L N : Addr} {H H' : Hp} {p c : Addr} {ns : List Int} {x y : Int} {ts : List Addr} {as : List Act} (P : Pen H p c ns x y) (b : But p H H') (h : LotsX L N H ts as) : LotsX L N H' ts as :=
  ⟨h.1, fun i t a e1 e2 => (h.2 i t a e1 e2).imp fun _ q => ⟨q.1, q.2.1, b _ _ q.2.2.1 (fun e => by have z := q.2.2.1; rw [e, P.hp] at z; cases z), b _ _ q.2.2.2 (pen_ne P q.2.2.2)⟩⟩
theorem LotsX.put {L N : Addr} {H : Hp} {y : Addr} {xs : List V} {o : HO} {ts : List Addr} {as : List Act} (hy : y = L ∨ y = N) (g : H y = some (.lst xs)) (h : LotsX L N H ts as) : LotsX L N (upd H y o) ts as :=
  ⟨h.1, fun i t a e1 e2 => (h.2 i t a e1 e2).imp fun u q => ⟨q.1, q.2.1, (upd_ne (fun e => by have z := q.2.2.1; rw [e, g] at z; cases z)).trans q.2.2.1, (upd_ne (hy.elim (fun e => by rw [e]; exact q.1) (fun e => by rw [e]; exact q.2.1))).trans q.2.2.2⟩⟩
theorem LotsX.snoc {L N : Addr} {H : Hp} {ts : List Addr} {as : List Act} {t u : Addr} {mk : Option Str} {us : List Str} (h : LotsX L N H ts as) (n1 : u ≠ L) (n2 : u ≠ N) (g1 : H t = some (.tup [mkV mk, .ref u])) (g2 : H u = some (.lst (us.map V.str))) : LotsX L N H (ts ++ [t]) (as ++ [(mk, us)]) := by
  refine ⟨by rw [List.length_append, List.length_append, h.1]; rfl, fun i t2 a e1 e2 => ?_⟩
  by_cases hi : i < ts.length
  · rw [List.getElem?_append_left hi] at e1
    rw [List.getElem?_append_left (by rw [← h.1]; exact hi)] at e2
    exact h.2 i t2 a e1 e2
  · obtain ⟨j, rfl⟩ : ∃ j, i = ts.length + j := ⟨i - ts.length, by omega⟩
    have hl := h.1
    rw [List.getElem?_append_right (by omega)] at e1
    rw [List.getElem?_append_right (by omega)] at e2
    rw [Nat.add_sub_cancel_left] at e1
    cases j with
    | zero =>
      rw [← h.1, Nat.add_zero, Nat.sub_self] at e2
      cases e1
      cases e2
      exact ⟨u, n1, n2, g1, g2⟩
    | succ j => cases e1
theorem butPut {p : Addr} {H H' : Hp} {y : Addr} {o : HO} (b : But p H H') (h : H y = none) : But p H (upd H' y o) := fun z u e n => by
  rw [upd_ne (fun q => by rw [q, h] at e; cases e)]
  exact b z u e n
theorem Pen.put {H : Hp} {p c : Addr} {ns : List Int} {a r : Int} {y : Addr} {o : HO} (P : Pen H p c ns a r) (h1 : y ≠ p) (h2 : y ≠ c) : Pen (upd H y o) p c ns a r := ⟨(upd_ne (Ne.symm h1)).trans P.hp, (upd_ne (Ne.symm h2)).trans P.hc, P.la, P.lr⟩
/-- the made name -/
theorem madeR {K : PySem.W.Frag} {H : Hp} {σ : L2.St} {Q : VK} {p c fr : Addr} {ns : List Int} {a r d : Int} {fs : List Str} (h0 : σ[0]? = some (some (.ref p))) (h2 : σ[2]? = some (some (.ref fr))) (h7 : σ[7]? = some (some (.int d))) (Pn : Pen H p c ns a r) (ha : a ≤ 1000000) (gf : H fr = some (.lst (fs.map V.str))) (uf : Uni fs) (f6 : fs.length ≤ 6)
    (k : ∀ mk H', (∀ m, mk = some m → m ∈ fs) → Drawn H p c ns (a + 1) H' → Q (mkV mk) H') :
    tIf (tAnd (tTest (tOp (rI0 fun i j => V.bl (decide (j < i))) (tVar 7) (tC (V.int 1)))) (tTest (tOp (rNeD K) (tVar 2) (tLst tNil)))) (tCall (spPick K) [] C8.E0 (tCons (tVar 0) (tCons (tVar 2) tNil))) (tC V.non) σ H Q := by
  refine ⟨_, h7, d, 1, rfl, rfl, _, rfl, ite2 (fun _ => ?_) (fun _ => iteF (k none H nofun ⟨a, r, Pn, by omega, But.refl⟩))⟩
  refine ⟨_, h2, by show 0 ≤ sizeLine; decide, fun e he => ?_⟩
  have s1 : Same H (upd H e (.lst [])) := Same.new he
  have gf1 := s1 _ _ gf
  have P1 := Pn.same s1
  refine ⟨_, _, .lst (SqL.of gf1) (dpTup fs), .lst (SqL.of upd_same) .nil, shapedTup uf.2, by decide +kernel, _, rfl, ?_⟩
  generalize (upd H e (.lst [])) = H1 at *
  cases fs with
  | nil => exact iteF (k none H1 nofun ⟨a, r, P1, by omega, But.same s1⟩)
  | cons x q =>
    refine iteT ⟨_, h0, _, h2, p, c, ns, a, r, _, rfl, P1, ha, .inl ⟨fr, _, rfl, SqL.of gf1, pen_ne P1 gf1, by rw [List.length_map]; exact Nat.succ_pos _, by rw [List.length_map]; omega, fun v H2 hv hd => ?_⟩⟩
    obtain ⟨m, hm, rfl⟩ := List.mem_map.mp hv
    obtain ⟨a2, r2, P2, l2, B2⟩ := hd
    exact k (some m) H2 (fun _ e => by cases e; exact hm) ⟨a2, r2, P2, l2, (But.same s1).trans B2⟩
/-- the used names -/
theorem usedR {H : Hp} {σ : L2.St} {Q : VK} {l L N : Addr} {d : Int} {mk : Option Str} {xs : List Str} {oL oN : HO} (h7 : σ[7]? = some (some (.int d))) (h9 : σ[9]? = some (some (mkV mk))) (h8 : σ[8]? = some (some (.ref l))) (gl : H l = some (.lst (xs.map V.str))) (gL : H L = some oL) (gN : H N = some oN) (n1 : l ≠ L) (n2 : l ≠ N)
    (k : ∀ u us H', Same H H' → H' u = some (.lst (us.map V.str)) → u ≠ L → u ≠ N → (us = xs ∨ us = [] ∧ mk ≠ none) → Q (.ref u) H') :
    tIf (tAnd (tTest (tOp rEq (tVar 7) (tC (V.int 2)))) (tTest (tOp (fun x y H Q => y = V.non ∧ Q (V.bl !decide (x = V.non)) H) (tVar 9) (tC V.non)))) (tLst tNil) (tVar 8) σ H Q := by
  have old : tVar 8 σ H Q := ⟨_, h8, k l xs H (Same.refl H) gl n1 n2 (.inl rfl)⟩
  refine ⟨_, h7, rfl, _, rfl, ite2 (fun _ => ?_) (fun _ => iteF old)⟩
  refine ⟨_, h9, rfl, _, rfl, ?_⟩
  cases mk with
  | none => exact iteF old
  | some m =>
    refine iteT ⟨by show 0 ≤ sizeLine; decide, fun u hu => ?_⟩
    exact k u [] _ (Same.new hu) upd_same (fun e => by rw [e, gL] at hu; cases hu) (fun e => by rw [e, gN] at hu; cases hu) (.inr ⟨rfl, nofun⟩)
section
variable {P : Program} {w : World} {K : PySem.W.Frag} {mg : Str → Option Value} {base : Heap}
theorem ok_ds {f : Addr} {fd : FuncData} (F : Fun K "_law_deeds" "_law_deeds" sDs f fd) (T : TxtB mg) (cDraw : C8.Cal P w K mg base 1 "_law_draw" spDraw []) (cPick : C8.Cal P w K mg base 2 "_law_pick" (spPick K) []) (cSome : C8.Cal P w K mg base 2 "_law_some" (spSome K) []) :
    FnOk P w K mg base CX0 3 f fd ["_law_pen_here", "_law_known", "_law_free", "_law_most"] (spDs K) := by
  refine F.ok scDs (fun vs H Q E h => ?_) (fun cdv A outer s H vs Q E hr h => ?_)
  · obtain ⟨p, c, ns, a, r, kn, fr, ws, fs, most, rfl, _⟩ := h
    rfl
  · obtain ⟨p, c, ns, at_, rest, kn, fr, ws, fs, most, rfl, Pn, hat, gk, gf, uw, w0, uf, ⟨pool, pw, pf, p6⟩, m8, k⟩ := h
    refine ⟨_, (pss_cons (ps_par (i := 4) (j := 5) (by rfl) scDs.nd rfl rfl (by decide) rfl rfl (pa_cons (pe_lst pa_nil) (pa_cons (pe_callTy call_list_of (by rfl) T.blist (by decide +kernel) (pa_cons (pv 1) pa_nil)) pa_nil)) (by rfl))
      (pss_cons (ps_for PassesOwn.never rfl (pi_range1 (by rfl) T.brange (pa_cons (C8.pe_c cDraw hr (by decide) rfl (pa_cons (pv 0) (pa_cons (pe_op op_add (pv 3) pe_int) pa_nil))) pa_nil)) (pg_name (i := 6) scDs.nd rfl (Or.inl rfl))
        (pss_cons (ps_par (i := 7) (j := 8) (by rfl) scDs.nd rfl rfl (by decide) rfl rfl (pa_cons (C8.pe_c cDraw hr (by decide) rfl (pa_cons (pv 0) (pa_cons pe_int pa_nil))) (pa_cons (C8.pe_c cSome hr (by decide) rfl (pa_cons (pv 0) (pa_cons (pv 5) (pa_cons pe_int (pa_cons pe_int pa_nil))))) pa_nil)) (by rfl))
        (pss_cons (ps_set (i := 9) scDs.nd rfl (Or.inl rfl) (pe_ifExp (PW.pt (pw_and (pt_cmpR op_gt (pv 7) pe_int (nomark _)) (pw_and1 (pt_cmpR (op_neD hr.units) (pv 2) (pe_lst pa_nil) (nomark _))))) (C8.pe_c cPick hr (by decide) rfl (pa_cons (pv 0) (pa_cons (pv 2) pa_nil))) pe_non))
        (pss_cons (ps_expr (pe_bm PySem.F.plainAttrs_list PySem.F.slot_list_append PySem.F.type_list_append mt_append (pv 4) (pa_cons (pe_tup (pa_cons (pv 9) (pa_cons (pe_ifExp (PW.pt (pw_and (pt_cmpR op_eq (pv 7) pe_int (nomark _)) (pw_and1 (pt_cmpR op_notN (pv 9) pe_non (nomark _))))) (pe_lst pa_nil) (pv 8)) pa_nil))) pa_nil)))
        (pss_one (ps_if (PW.pt (pw_and (pt_cmpR op_notN (pv 9) pe_non (nomark _)) (pw_and1 (pt_cmpR op_notIn_seq (pv 9) (pv 5) rfl)))) (pss_one (ps_expr (pe_bm PySem.F.plainAttrs_list PySem.F.slot_list_append PySem.F.type_list_append mt_append (pv 5) (pa_cons (pv 9) pa_nil)))) pss_nil))))))
      (pss_one (ps_ret (pe_tup (pa_cons (pv 4) (pa_cons (pv 5) pa_nil))))))), ?_⟩
    have z8 : (100 : Nat) < sizeLine := by decide
    refine ⟨by show 0 ≤ sizeLine; decide, fun L hL => ?_⟩
    have s1 := Same.new (o := .lst []) hL
    have gL : (upd H L (.lst [])) L = some (.lst []) := upd_same
    refine ⟨_, rfl, kn, _, rfl, .inl (SqL.of (s1 _ _ gk)), fun N hN => ?_⟩
    have hN0 := sameNone s1 hN
    have nLN : L ≠ N := ne_of_none gL hN
    have s2 := s1.trans (Same.new (o := .lst (ws.map V.str)) hN)
    have gL := (Same.new (o := .lst (ws.map V.str)) hN) _ _ gL
    have gN : (upd (upd H L (.lst [])) N (.lst (ws.map V.str))) N = some (.lst (ws.map V.str)) := upd_same
    clear s1 hN
    generalize (upd (upd H L (.lst [])) N (.lst (ws.map V.str))) = H1 at *
    have Lp : L ≠ p := fun e => by rw [e, Pn.hp] at hL; cases hL
    have Lc : L ≠ c := fun e => by rw [e, Pn.hc] at hL; cases hL
    have Np : N ≠ p := fun e => by rw [e, Pn.hp] at hN0; cases hN0
    have Nc : N ≠ c := fun e => by rw [e, Pn.hc] at hN0; cases hN0
    have f6 : fs.length ≤ 6 := Nat.le_trans (uniLen uf pf) p6
    have P1 := Pn.same s2
    refine ⟨_, _, rfl, _, rfl, _, rfl, _, _, rfl, rfl, p, c, ns, at_, rest, _, rfl, P1, by omega, by omega, by omega, fun dn H2 d0 d1 hd => ?_⟩
    obtain ⟨a2, r2, P2, l2, B2⟩ := hd
    obtain ⟨n, rfl⟩ := Int.eq_ofNat_of_zero_le d0
    have gL2 := B2 _ _ gL Lp
    have gN2 := B2 _ _ gN Np
    have B02 : But p H H2 := (But.same s2).trans B2
    refine ⟨(n : Int), rfl, by omega, by omega, ?_⟩
    rw [Int.toNat_natCast]
    refine for_range (n := n) (fun i σ H' => (∃ a r, Pen H' p c ns a r ∧ a ≤ at_ + 1 + 9 * i) ∧ But p H H' ∧ (∃ (ts : List Addr) (as : List Act) (hs : List Str), as.length = i ∧ H' L = some (.lst (ts.map V.ref)) ∧ H' N = some (.lst (hs.map V.str)) ∧ LotsX L N H' ts as ∧ Drw ws fs as hs) ∧ ∃ x6 x7 x8 x9, σ = [some (.ref p), some (.ref kn), some (.ref fr), some (.int (most : Int)), some (.ref L), some (.ref N), x6, x7, x8, x9])
      ⟨⟨a2, r2, P2, by omega⟩, B02, ⟨[], [], ws, rfl, gL2, gN2, ⟨rfl, nofun⟩, Drw.start uw⟩, _, _, _, _, rfl⟩ (fun i σ H3 hi ⟨⟨a3, r3, P3, l3⟩, B3, ⟨ts, as, hs, la, gL3, gN3, X3, D3⟩, x6, x7, x8, x9, eσ⟩ => ?_) (fun σ H3 ⟨⟨a3, r3, P3, l3⟩, B3, ⟨ts, as, hs, la, gL3, gN3, X3, D3⟩, x6, x7, x8, x9, eσ⟩ => ?_)
    · subst eσ
      have h6 : hs.length ≤ 6 := Nat.le_trans (uniLen D3.here fun z hz => (D3.hin z hz).elim (pw z) (pf z)) p6
      have h1 : 0 < hs.length := by
        obtain ⟨z, zr, e⟩ : ∃ z zr, ws = z :: zr := by cases ws with
          | nil => cases w0
          | cons z zr => exact ⟨z, zr, rfl⟩
        exact List.length_pos_of_mem ((D3.eq z).mpr (by unfold aft; rw [e]; simp))
      refine ⟨_, rfl, p, c, ns, a3, r3, 5, rfl, P3, by omega, by decide, by decide, fun d H4 d0 d5 hd => ?_⟩
      obtain ⟨a4, r4, P4, l4, B4⟩ := hd
      have gL4 := B4 _ _ gL3 Lp
      have gN4 := B4 _ _ gN3 Np
      have X4 := X3.but P3 B4
      have B4 := B3.trans B4
      refine ⟨_, rfl, _, rfl, p, c, ns, a4, r4, N, hs, 1, 3, rfl, P4, by omega, SqL.of gN4, by omega, by decide, h1, fun l xs H5 hl0 gl pt x1 x3 hd => ?_⟩
      obtain ⟨a5, r5, P5, l5, B5⟩ := hd
      have gL5 := B5 _ _ gL4 Lp
      have gN5 := B5 _ _ gN4 Np
      have X5 := X4.but P4 B5
      have B5 := B4.trans B5
      have nl1 : l ≠ L := fun e => by rw [e, gL4] at hl0; cases hl0
      have nl2 : l ≠ N := fun e => by rw [e, gN4] at hl0; cases hl0
      refine ⟨_, _, rfl, ?_⟩
      refine madeR rfl rfl rfl P5 (by omega) (B5 _ _ gf (pen_ne Pn gf)) uf f6 fun mk H6 hm hd => ?_
      obtain ⟨a6, r6, P6, l6, B6⟩ := hd
      have gL6 := B6 _ _ gL5 Lp
      have gN6 := B6 _ _ gN5 Np
      have X6 := X5.but P5 B6
      have gl6 := B6 _ _ gl (pen_ne P5 gl)
      have B6 := B5.trans B6
      refine ⟨_, rfl, .inl ⟨rfl, _, SqL.of gL6⟩, _, rfl, usedR (L := L) (N := N) rfl rfl rfl gl6 gL6 gN6 nl1 nl2 fun u us H7 s7 gu nu1 nu2 hus => ?_⟩
      have gL7 := s7 _ _ gL6
      have gN7 := s7 _ _ gN6
      have X7 := X6.but P6 (But.same s7)
      have P7 := P6.same s7
      have B7 := B6.trans (But.same s7)
      refine ⟨by show 2 ≤ sizeLine; decide, fun t ht => ?_⟩
      have s8 := Same.new (o := .tup [mkV mk, .ref u]) ht
      have gt : (upd H7 t (.tup [mkV mk, .ref u])) t = some (.tup [mkV mk, .ref u]) := upd_same
      have gu := s8 _ _ gu
      have gL8 := s8 _ _ gL7
      have gN8 := s8 _ _ gN7
      have X8 := X7.but P7 (But.same s8)
      have P8 := P7.same s8
      have B8 := B7.trans (But.same s8)
      clear s8 ht
      generalize (upd H7 t (.tup [mkV mk, .ref u])) = H8 at *
      have lts := X8.1
      refine ⟨L, _, _, rfl, rfl, gL8, by rw [List.length_map]; omega, ?_⟩
      have X9 := (X8.put (o := .lst (ts.map V.ref ++ [V.ref t])) (.inl rfl) gL8).snoc (mk := mk) (us := us) nu1 nu2 ((upd_ne (fun e => by rw [e, gL8] at gt; cases gt)).trans gt) ((upd_ne nu1).trans gu)
      have gL9 : (upd H8 L (.lst (ts.map V.ref ++ [V.ref t]))) L = some (.lst ((ts ++ [t]).map V.ref)) := by rw [upd_same, List.map_append]; rfl
      have gN9 := (upd_ne (o := .lst (ts.map V.ref ++ [V.ref t])) (Ne.symm nLN)).trans gN8
      have P9 := P8.put (o := .lst (ts.map V.ref ++ [V.ref t])) Lp Lc
      have B9 := butPut (o := .lst (ts.map V.ref ++ [V.ref t])) B8 hL
      generalize (upd H8 L (.lst (ts.map V.ref ++ [V.ref t]))) = H9 at *
      have xh : ∀ z ∈ us, z ∈ hs := fun z hz => by
        rcases hus with e | e
        · rw [e] at hz; exact pt.mem z hz
        · rw [e.1] at hz; cases hz
      have lo : LotOk mk us := by
        rcases hus with e | ⟨e, n⟩
        · rw [e]
          exact ⟨uni_sub D3.here pt, x3, fun z e => uf.2 z (hm z e), fun _ => x1⟩
        · rw [e]
          exact ⟨⟨List.nodup_nil, nofun⟩, by show 0 ≤ 3; decide, fun z e => uf.2 z (hm z e), fun e => absurd e n⟩
      have la9 : (as ++ [(mk, us)]).length = i + 1 := by rw [List.length_append, la]; rfl
      refine ⟨_, rfl, rfl, _, rfl, ?_⟩
      cases mk with
      | none =>
        exact iteF (iteF ⟨⟨_, _, P9, by omega⟩, B9, ⟨_, _, hs, la9, gL9, gN9, X9, D3.snoc lo xh hm D3.here (fun z => by simp)⟩, _, _, _, _, rfl⟩)
      | some m =>
        refine iteT ⟨_, rfl, _, rfl, N, _, rfl, .inl (SqL.of gN9), rfl, flat_strs _, _, rfl, ?_⟩
        have ei : inV (mkV (some m)) (hs.map V.str) = decide (m ∈ hs) := inV_str m hs
        rw [if_pos rfl, ei]
        by_cases hmh : m ∈ hs
        · rw [decide_eq_true hmh]
          exact iteF ⟨⟨_, _, P9, by omega⟩, B9, ⟨_, _, hs, la9, gL9, gN9, X9, D3.snoc lo xh hm D3.here (fun z => by simp; intro e; rw [← e]; exact hmh)⟩, _, _, _, _, rfl⟩
        · rw [decide_eq_false hmh]
          refine iteT ⟨_, rfl, .inl ⟨rfl, _, SqL.of gN9⟩, _, rfl, N, _, _, rfl, rfl, gN9, by rw [List.length_map]; omega, ?_⟩
          refine ⟨⟨_, _, P9.put Np Nc, by omega⟩, butPut B9 hN0, ⟨_, _, hs ++ [m], la9, (upd_ne nLN).trans gL9, by rw [upd_same, List.map_append]; rfl, X9.put (.inr rfl) gN9, D3.snoc lo xh hm (uni_snoc D3.here hmh (uf.2 m (hm m rfl))) (fun z => by simp [eq_comm])⟩, _, _, _, _, rfl⟩
    · subst eσ
      refine ⟨_, rfl, _, rfl, by show 2 ≤ sizeLine; decide, fun t ht => ?_⟩
      have s4 := Same.new (o := .tup [.ref L, .ref N]) ht
      exact k t L N as hs _ upd_same ⟨ts, s4 _ _ gL3, X3.toT.same s4⟩ (s4 _ _ gN3) (by omega) D3 ⟨a3, r3, P3.same s4, by omega, B3.trans (But.same s4)⟩
end
end K06

set_option Elab.async false
set_option linter.all false
set_option maxRecDepth 100000
set_option maxHeartbeats 4000000
/-! The law's programs. -/
namespace K06
open PySem L2 NX NU
open PyProof.Rows (sortedS)
abbrev sSi : Stmt := top 78
abbrev NSi : List Str := ["_law_pen_here", "_law_loops", "_law_most", "_law_words", "_law_prices", "_law_first", "_law_free", "_law_known", "_law_site_here", "_law_word"]
theorem scSi : FnScope NSi ["_law_pen_here", "_law_loops", "_law_most"] (defScope sSi) := ⟨rfl, rfl, rfl, by decide +kernel, rfl, by decide +kernel, by decide +kernel⟩
def spOr : Sp := fun vs H Q _ => vs = [] ∧ ∀ a H', Same H H' → H a = none → H' a = some (.lst (partN.map V.str)) → Q (.ref a) H'
theorem scOr0 : FnScope [] [] (defScope sOr) := scOr
theorem takeSnoc {α : Type} {l : List α} {i : Nat} {a : α} (h : l[i]? = some a) : l.take (i + 1) = l.take i ++ [a] := by rw [List.take_add_one, h]; rfl
theorem gNm {i : Nat} {x : V} {σ : L2.St} {H : Hp} {N : L2.St → Hp → Prop} (h : N (σ.set i (some x)) H) : gName i x σ H N := h
theorem sqA {te : TE} {g : TG} {tr : TS} {D : L2.Ends} {σ : L2.St} {H : Hp} (h : te σ H fun x H1 => g x σ H1 (tr D)) : tSeq (tAsg te g) tr D σ H := h
theorem cb1 {r : List V → Hp → VK → Prop} {t : TE} {σ : L2.St} {H : Hp} {Q : VK} (h : t σ H fun x H1 => r [x] H1 Q) : tCB r (tCons t tNil) σ H Q := h
theorem lcOf {wi : TI} {g : TG} {tt : TT} {te : TE} {vs : List Nat} {σ : L2.St} {H : Hp} {Q : VK} (h : wi σ H fun J H1 => tLc (fun _ H R => R J H) g tt te vs σ H1 Q) : tLc wi g tt te vs σ H Q := h
theorem takeSub {xs : List Str} {i : Nat} {z : Str} {ys : List Str} (hz : xs[i]? = some z) (h : ys.Sublist (xs.take i)) : ys.Sublist (xs.take (i + 1)) ∧ (ys ++ [z]).Sublist (xs.take (i + 1)) := by
  rw [takeSnoc hz]
  exact ⟨h.trans (List.sublist_append_left _ _), h.append (List.Sublist.refl _)⟩
theorem Drawn.trans {H H1 H2 : Hp} {p c : Addr} {ns : List Int} {m n : Int} (h : But p H H1) (k : Drawn H1 p c ns m H2) (l : m ≤ n) : Drawn H p c ns n H2 := by
  obtain ⟨a, r, P, e, B⟩ := k
  exact ⟨a, r, P, by omega, h.trans B⟩
/-- [w for w in l if a draw] -/
theorem lcD {K : PySem.W.Frag} {H : Hp} {l p c : Addr} {ns : List Int} {a r : Int} {s1 s2 s3 s4 s5 s6 s7 s8 s9 : Option V} {xs : List Str} {tt : TT} {Q : VK} (gl : H l = some (.lst (xs.map V.str))) (Pn : Pen H p c ns a r) (ha : a + xs.length ≤ 900000) (h100 : xs.length ≤ 100)
    (htt : ∀ z H2 a2 r2 (R : Bool → Hp → Prop), Pen H2 p c ns a2 r2 → a2 ≤ 900000 → (∀ b H3, Drawn H2 p c ns (a2 + 1) H3 → R b H3) → tt [some (.ref p), s1, s2, s3, s4, s5, s6, s7, s8, some (.str z)] H2 R)
    (k : ∀ (D : Addr) (ys : List Str) H', H D = none → H' D = some (.lst (ys.map V.str)) → ys.Sublist xs → Drawn H p c ns (a + xs.length) H' → Q (.ref D) H') :
    tLc (fun _ H R => R (Itl K l) H) (gName 9) tt (tVar 9) [9] [some (.ref p), s1, s2, s3, s4, s5, s6, s7, s8, s9] H Q := by
  intro D hD
  have Dp : D ≠ p := fun z => by rw [z, Pn.hp] at hD; cases hD
  have Dc : D ≠ c := fun z => by rw [z, Pn.hc] at hD; cases hD
  have lp := pen_ne Pn gl
  have z100 : (200 : Nat) ≤ sizeLine := by decide
  refine lc_list (xs := xs.map V.str) (fun j H' => Drawn H p c ns (a + j) H' ∧ ∃ ys : List Str, H' D = some (.lst (ys.map V.str)) ∧ ys.Sublist (xs.take j)) ⟨⟨a, r, Pn.put Dp Dc, by omega, butPut But.refl hD⟩, [], upd_same, List.nil_sublist _⟩ (fun j H' _ z => SqL.of (by obtain ⟨⟨a2, r2, P2, l2, B2⟩, _⟩ := z; exact B2 _ _ gl lp)) ?_ ?_
  · rintro j y H2 hy ⟨⟨a2, r2, P2, l2, B2⟩, ys, gD, sb⟩
    rw [List.getElem?_map] at hy
    obtain ⟨z, hz, rfl⟩ := Option.map_eq_some_iff.mp hy
    have hj : j < xs.length := (List.getElem?_eq_some_iff.mp hz).1
    refine ⟨rfl, htt z H2 a2 r2 _ P2 (by omega) fun b H3 hd => ?_⟩
    obtain ⟨a3, r3, P3, l3, B3⟩ := hd
    have gD3 := B3 _ _ gD Dp
    have B3 := B2.trans B3
    obtain ⟨sb1, sb2⟩ := takeSub hz sb
    have ly := sb.length_le
    rw [List.length_take] at ly
    cases b with
    | false => exact iteF ⟨⟨a3, r3, P3, by omega, B3⟩, ys, gD3, sb1⟩
    | true => exact iteT ⟨_, rfl, _, gD3, by rw [List.length_map]; omega, ⟨a3, r3, P3.put Dp Dc, by omega, butPut B3 hD⟩, ys ++ [z], by rw [upd_same, List.map_append]; rfl, sb2⟩
  · rintro H2 ⟨hd, ys, gD, sb⟩
    rw [List.length_map] at hd sb
    rw [List.take_length] at sb
    exact k D ys H2 hD gD sb hd
/-- [w for w in l if ..], nothing drawn -/
theorem lcP {K : PySem.W.Frag} {H : Hp} {l : Addr} {s0 s1 s2 s3 s4 s5 s6 s7 s8 s9 : Option V} {xs : List Str} (fl : Str → Bool) {tt : TT} {Q : VK} (gl : H l = some (.lst (xs.map V.str))) (h100 : xs.length ≤ 100)
    (htt : ∀ z H2 (R : Bool → Hp → Prop), Same H H2 → R (fl z) H2 → tt [s0, s1, s2, s3, s4, s5, s6, s7, s8, some (.str z)] H2 R)
    (k : ∀ D H', H D = none → H' D = some (.lst ((xs.filter fl).map V.str)) → Same H H' → Q (.ref D) H') :
    tLc (fun _ H R => R (Itl K l) H) (gName 9) tt (tVar 9) [9] [s0, s1, s2, s3, s4, s5, s6, s7, s8, s9] H Q := by
  intro D hD
  have z100 : (200 : Nat) ≤ sizeLine := by decide
  refine lc_list (xs := xs.map V.str) (fun j H' => Same H H' ∧ H' D = some (.lst (((xs.take j).filter fl).map V.str))) ⟨Same.new hD, upd_same⟩ (fun j H' _ z => SqL.of (z.1 _ _ gl)) ?_ ?_
  · rintro j y H4 hy ⟨sj, gD⟩
    rw [List.getElem?_map] at hy
    obtain ⟨z, hz, rfl⟩ := Option.map_eq_some_iff.mp hy
    refine ⟨rfl, htt z H4 _ sj ?_⟩
    cases hb : fl z with
    | false =>
      refine iteF ⟨sj, ?_⟩
      rw [takeSnoc hz, List.filter_append, List.filter_cons_of_neg (by rw [hb]; exact Bool.false_ne_true), List.filter_nil, List.append_nil]
      exact gD
    | true =>
      refine iteT ⟨_, rfl, _, gD, ?_, sameUpd sj hD, ?_⟩
      · rw [List.length_map]
        have := List.length_filter_le fl (xs.take j)
        rw [List.length_take] at this
        omega
      · rw [takeSnoc hz, List.filter_append, List.filter_cons_of_pos hb, List.filter_nil, List.map_append]
        exact upd_same
  · rintro H4 ⟨sj, gD⟩
    rw [List.length_map, List.take_length] at gD
    exact k D H4 hD gD sj
/-- pairs (name, price) at the addresses ps -/
def PrT (H : Hp) : List Addr → List (Str × Int) → Prop
  | [], [] => True
  | p :: ps, q :: l => H p = some (.tup [.str q.1, .int q.2]) ∧ PrT H ps l
  | _, _ => False
theorem PrT.keep {H H' : Hp} (s : ∀ t xs, H t = some (.tup xs) → H' t = some (.tup xs)) : ∀ {ps : List Addr} {l : List (Str × Int)}, PrT H ps l → PrT H' ps l
  | [], [], _ => trivial
  | [], _ :: _, h => h
  | _ :: _, [], h => h
  | _ :: _, _ :: _, h => ⟨s _ _ h.1, h.2.keep s⟩
theorem PrT.snoc {H : Hp} {t : Addr} {z : Str} {n : Int} (g : H t = some (.tup [.str z, .int n])) : ∀ {ps : List Addr} {l : List (Str × Int)}, PrT H ps l → PrT H (ps ++ [t]) (l ++ [(z, n)])
  | [], [], _ => ⟨g, trivial⟩
  | [], _ :: _, h => h.elim
  | _ :: _, [], h => h.elim
  | _ :: _, _ :: _, h => ⟨h.1, h.2.snoc g⟩
theorem PrT.paired {K : PySem.W.Frag} {H : Hp} : ∀ {ps : List Addr} {l : List (Str × Int)}, PrT H ps l → Paired (fun p (kv : Key × V) => SqT K H p [kV kv.1, kv.2]) ps (agK l)
  | [], [], _ => .nil
  | [], _ :: _, h => h.elim
  | _ :: _, [], h => h.elim
  | _ :: _, _ :: _, h => .cons (SqT.of h.1) h.2.paired
theorem merge_ag : ∀ {l l0 : List (Str × Int)}, ((l0 ++ l).map (·.1)).Nodup → mergeK (agK l0) (agK l) = agK (l0 ++ l)
  | [], l0, _ => by rw [List.append_nil]; rfl
  | q :: r, l0, h => by
    have e : putK (agK l0) (Sum.inr q.1) (V.int q.2) = agK (l0 ++ [q]) := by
      rw [putK_new _ (agOut (fun hm => ?_))]
      · unfold agK
        rw [List.map_append]
        rfl
      · rw [List.map_append, List.nodup_append] at h
        exact h.2.2 _ hm q.1 (by simp) rfl
    show mergeK (putK (agK l0) (Sum.inr q.1) (V.int q.2)) (agK r) = _
    rw [e, merge_ag (by rw [List.append_assoc]; exact h), List.append_assoc]
    rfl
/-- [(w, price) for w in l if a draw] -/
theorem lcPr {K : PySem.W.Frag} {H : Hp} {l p c : Addr} {ns : List Int} {a r : Int} {s1 s2 s3 s4 s5 s6 s7 s8 s9 : Option V} {xs : List Str} {Q : VK} (gl : H l = some (.lst (xs.map V.str))) (Pn : Pen H p c ns a r) (ha : a + 2 * xs.length ≤ 900000) (h100 : xs.length ≤ 100)
    (k : ∀ (D : Addr) (ps : List Addr) (l : List (Str × Int)) H', H' D = some (.lst (ps.map V.ref)) → PrT H' ps l → (l.map (·.1)).Sublist xs → (∀ q ∈ l, 0 ≤ q.2 ∧ q.2 ≤ 9) → Drawn H p c ns (a + 2 * xs.length) H' → Q (.ref D) H') :
    tLc (fun _ H R => R (Itl K l) H) (gName 9) (tTest (tOp rEq (tCall spDraw [] C8.E0 (tCons (tVar 0) (tCons (tC (V.int 5)) tNil))) (tC (V.int 0)))) (tTup (tCons (tVar 9) (tCons (tCall spDraw [] C8.E0 (tCons (tVar 0) (tCons (tC (V.int 10)) tNil))) tNil))) [9] [some (.ref p), s1, s2, s3, s4, s5, s6, s7, s8, s9] H Q := by
  intro D hD
  have P1 := Pn
  have Dp : D ≠ p := fun z => by rw [z, P1.hp] at hD; cases hD
  have Dc : D ≠ c := fun z => by rw [z, P1.hc] at hD; cases hD
  have lp := pen_ne P1 gl
  have z100 : (200 : Nat) ≤ sizeLine := by decide
  refine lc_list (xs := xs.map V.str) (fun j H' => Drawn H p c ns (a + 2 * j) H' ∧ ∃ (ps : List Addr) (l : List (Str × Int)), H' D = some (.lst (ps.map V.ref)) ∧ PrT H' ps l ∧ ps.length ≤ j ∧ (l.map (·.1)).Sublist (xs.take j) ∧ ∀ q ∈ l, 0 ≤ q.2 ∧ q.2 ≤ 9)
    ⟨⟨a, r, P1.put Dp Dc, by omega, butPut But.refl hD⟩, [], [], upd_same, trivial, Nat.le_refl _, List.nil_sublist _, nofun⟩ (fun j H' _ z => SqL.of (by obtain ⟨⟨a2, r2, P2, l2, B2⟩, _⟩ := z; exact B2 _ _ gl lp)) ?_ ?_
  · rintro j y H2 hy ⟨⟨a2, r2, P2, l2, B2⟩, ps, l, gD, pr, lps, sb, hq⟩
    rw [List.getElem?_map] at hy
    obtain ⟨z, hz, rfl⟩ := Option.map_eq_some_iff.mp hy
    have hj : j < xs.length := (List.getElem?_eq_some_iff.mp hz).1
    have kp : ∀ {H3 : Hp} {x y : Int}, Pen H2 p c ns x y → But p H2 H3 → PrT H3 ps l := fun P B => pr.keep fun t q e => B _ _ e (fun n => by rw [n, P.hp] at e; cases e)
    refine ⟨rfl, _, rfl, p, c, ns, a2, r2, _, rfl, P2, by omega, by decide, by decide, fun d H3 d0 d5 hd => ?_⟩
    obtain ⟨a3, r3, P3, l3, B3⟩ := hd
    have gD3 := B3 _ _ gD Dp
    have pr3 := kp P2 B3
    have B3 := B2.trans B3
    obtain ⟨sb1, sb2⟩ := takeSub hz sb
    refine ⟨rfl, _, rfl, ite2 (fun _ => ?_) (fun _ => ⟨⟨a3, r3, P3, by omega, B3⟩, ps, l, gD3, pr3, by omega, sb1, hq⟩)⟩
    refine ⟨_, rfl, _, rfl, p, c, ns, a3, r3, _, rfl, P3, by omega, by decide, by decide, fun n H4 n0 n9 hd => ?_⟩
    obtain ⟨a4, r4, P4, l4, B4⟩ := hd
    have gD4 := B4 _ _ gD3 Dp
    have pr4 : PrT H4 ps l := pr3.keep fun t q e => B4 _ _ e (fun n => by rw [n, P3.hp] at e; cases e)
    have B4 := B3.trans B4
    refine ⟨by show 2 ≤ sizeLine; decide, fun t ht => ?_⟩
    have s5 : Same H4 (upd H4 t (.tup [.str z, .int n])) := Same.new ht
    have gt : (upd H4 t (.tup [.str z, .int n])) t = some (.tup [.str z, .int n]) := upd_same
    have gD5 := s5 _ _ gD4
    have pr5 := (pr4.keep fun t q e => s5 _ _ e).snoc gt
    have P5 := P4.same s5
    have B5 := B4.trans (But.same s5)
    generalize (upd H4 t (.tup [.str z, .int n])) = H5 at *
    refine ⟨_, gD5, by rw [List.length_map]; omega, ⟨a4, r4, P5.put Dp Dc, by omega, butPut B5 hD⟩, ps ++ [t], l ++ [(z, n)], by rw [upd_same, List.map_append]; rfl, pr5.keep (fun t q e => (upd_ne (fun n => by rw [n, gD5] at e; cases e)).trans e), by rw [List.length_append]; show ps.length + 1 ≤ j + 1; omega, by rw [List.map_append]; exact sb2, fun q hm => (List.mem_append.mp hm).elim (hq q) fun e => by rw [List.mem_singleton.mp e]; exact ⟨n0, by omega⟩⟩
  · rintro H2 ⟨hd, ps, l, gD, pr, lps, sb, hq⟩
    rw [List.length_map] at hd sb
    rw [List.take_length] at sb
    exact k D ps l H2 gD pr sb hq hd
theorem cut1 (xs : List Str) (h : 1 ≤ xs.length) : cutV (xs.map V.str) (some 1) none = (xs.drop 1).map V.str := by
  have e1 : ∀ n : Nat, 1 ≤ n → HT.sIx n 0 (some 1) = 1 := fun n h => by
    show HT.sIx n 0 (some ((1 : Nat) : Int)) = 1
    rw [HT.sIx_nat]
    omega
  unfold cutV
  rw [List.length_map, e1 _ h, HT.sIx_none, ← List.map_drop, List.take_of_length_le]
  rw [List.length_map, List.length_drop]
  exact Nat.le_refl _
theorem cutT (xs : List Str) (h : 1 ≤ xs.length) : cutV (xs.map V.str) none (some 1) = (xs.take 1).map V.str := by
  have e1 : ∀ n : Nat, 1 ≤ n → HT.sIx n n (some 1) = 1 := fun n h => by
    show HT.sIx n n (some ((1 : Nat) : Int)) = 1
    rw [HT.sIx_nat]
    omega
  unfold cutV
  rw [List.length_map, e1 _ h, HT.sIx_none, ← List.map_drop, ← List.map_take]
  rfl
theorem opv {r : R2} {i : Nat} {x : V} {tb : TE} {σ : L2.St} {H : Hp} {Q : VK} (e : σ[i]? = some (some x)) (h : tb σ H fun y H2 => r x y H2 Q) : tOp r (tVar i) tb σ H Q := ⟨x, e, h⟩
theorem nxT {D : L2.Ends} {σ : L2.St} {H : Hp} (h : D.nx σ H) : tNext D σ H := h
theorem sdp {i : Nat} {k : V} {tv : TE} {tr : TS} {D : L2.Ends} {σ : L2.St} {H : Hp} (h : tv σ H fun v H1 => tVar i σ H1 fun x H2 => ∃ a H4, x = .ref a ∧ DPut H2 a k v H4 ∧ tr D σ H4) : tSeq (sDPut (tVar i) (tC k) tv) tr D σ H := h
theorem agSome {l : List (Str × Int)} {z : Str} : (valV (agK l) (.inr z)).isSome = decide (z ∈ l.map (·.1)) := by
  by_cases h : z ∈ l.map (·.1)
  · obtain ⟨n, e, _⟩ := agIn h
    rw [e, decide_eq_true h]
    rfl
  · rw [agOut h, decide_eq_false h]
    rfl
theorem fresh0 {p S : Addr} {H H' : Hp} (b : But p H H') (h : H' S = none) (n : S ≠ p) : H S = none := by
  cases e : H S with
  | none => rfl
  | some o => rw [b _ _ e n] at h; cases h
theorem LotsAt.putD {H : Hp} {S L : Addr} {kvs : List (Key × V)} {o : HO} {as : List Act} (g : H S = some (.dK kvs)) (h : LotsAt H L as) : LotsAt (upd H S o) L as := by
  obtain ⟨ts, e, l, q⟩ := h
  have ne : ∀ {a : Addr} {u : HO}, H a = some u → (∀ k, u ≠ .dK k) → (upd H S o) a = some u := fun {a u} e n => (upd_ne (fun z => by rw [z, g] at e; exact n _ (Option.some.inj e).symm)).trans e
  exact ⟨ts, ne e (fun _ z => nomatch z), l, fun i t a e1 e2 => (q i t a e1 e2).imp fun u r => ⟨ne r.1 (fun _ z => nomatch z), ne r.2 (fun _ z => nomatch z)⟩⟩

section
variable {P : Program} {w : World} {K : PySem.W.Frag} {mg : Str → Option Value} {base : Heap}
theorem ok_or {f : Addr} {fd : FuncData} (F : Fun K "_law_order" "_law_order" sOr f fd) : FnOk P w K mg base CX0 1 f fd [] spOr := by
  refine F.ok scOr (fun vs H Q E h => ?_) (fun cdv A outer s H vs Q E hr h => ?_)
  · obtain ⟨rfl, _⟩ := h
    rfl
  · obtain ⟨rfl, k⟩ := h
    refine ⟨_, (pss_one (ps_ret (pe_lst (pa_cons pe_str (pa_cons pe_str (pa_cons pe_str (pa_cons pe_str (pa_cons pe_str pa_nil)))))))), ?_⟩
    refine ⟨by show 5 ≤ sizeLine; decide, fun a ha => ?_⟩
    exact k a _ (Same.new ha) ha upd_same
end
end K06

set_option Elab.async false
set_option linter.all false
set_option maxRecDepth 100000
set_option maxHeartbeats 4000000
/-! The law's program made. -/
namespace K06
open PySem L2 NX NU
open PyProof.Rows (sortedS)
abbrev sRp : Stmt := top 79
abbrev sRl : Stmt := top 80
abbrev NRp : List Str := ["_law_deeds_here", "_law_made", "_law_used"]
abbrev NRl : List Str := ["_law_site_here", "_law_parts", "_law_some_here", "_law_part"]
theorem scRp : FnScope NRp ["_law_deeds_here"] (defScope sRp) := ⟨rfl, rfl, rfl, by decide +kernel, rfl, by decide +kernel, by decide +kernel⟩
theorem scRl : FnScope NRl ["_law_site_here"] (defScope sRl) := ⟨rfl, rfl, rfl, by decide +kernel, rfl, by decide +kernel, by decide +kernel⟩
abbrev dvsP (t0 t1 t2 : Addr) : List V := [.ref t0, .non, .ref t1, .non, .ref t2]
abbrev kwsP (t3 t4 : Addr) : List (Str × V) := [("given", .ref t3), ("again", .non), ("results", .ref t4)]
section
variable {K : PySem.W.Frag} {f : Addr} {fd : FuncData} {t0 t1 t2 t3 t4 : Addr}
theorem kb6 (F : L2.FunD K "__init__" "Program.__init__" (defArgs sPi) (defBody sPi) (defScope sPi) (dvsP t0 t1 t2) (kwsP t3 t4) f fd) : KBn K fd pPi 6 ["given", "again", "results"] (fun us ws => us ++ ws) (fun vs zs => vs ++ zs) := by
  obtain ⟨its, mv, h⟩ := F.kbinds (ps := pPi) 6 ["given", "again", "results"] [] (fun us its mv ws => us ++ ws) (by intro h; cases h) (by intro h; cases h) nofun (fun r1 _ _ r2 => r1.append r2) (fun T D doc pm an cdv ct us its mv ws l1 l2 l3 l4 => by
    match us, its, mv, ws, l1, l2, l3, l4 with
    | [_, _, _, _, _, _], [_, _, _, _, _], [], [_, _, _], _, _, _, _ => exact ⟨_, rfl, rfl⟩)
  exact h
theorem kb2 (F : L2.FunD K "__init__" "Program.__init__" (defArgs sPi) (defBody sPi) (defScope sPi) (dvsP t0 t1 t2) (kwsP t3 t4) f fd) : ∃ its mv : List Value, KBn K fd pPi 2 ["given", "results"] (fun us ws => us ++ its.drop 1 ++ ws.take 1 ++ mv ++ ws.drop 1) (fun vs zs => vs ++ (dvsP t0 t1 t2).drop 1 ++ zs.take 1 ++ [.non] ++ zs.drop 1) :=
  F.kbinds (ps := pPi) 2 ["given", "results"] [("again", .non)] (fun us its mv ws => us ++ its.drop 1 ++ ws.take 1 ++ mv ++ ws.drop 1) (by intro h; cases h) (by intro h; cases h) (fun q h => by rw [List.mem_singleton.mp h]; simp) (fun r1 r2 r3 r4 => (((r1.append (r2.drop 1)).append (r4.take 1)).append r3).append (r4.drop 1)) (fun T D doc pm an cdv ct us its mv ws l1 l2 l3 l4 => by
    match us, its, mv, ws, l1, l2, l3, l4 with
    | [_, _], [_, _, _, _, _], [_], [_, _], _, _, _, _ => exact ⟨_, rfl, _, _, _, _, _, _, rfl, rfl, rfl⟩)
end
/-- a part as it is drawn -/
def PtI (H : Hp) (v : V) : Option (List Act) → Prop
  | none => v = .non
  | some as => ∃ L, v = .ref L ∧ LotsAt H L as ∧ as.length ≤ 200 ∧ ∀ a ∈ as, LotOk a.1 a.2
/-- a part of the package's deeds, in a new list -/
def PtR (d : D3) (H H' : Hp) (v : V) : Option (List Act) → Prop
  | none => v = .non
  | some as => ∃ (p : Addr) (xs : List Addr), v = .ref p ∧ H p = none ∧ H' p = some (.lst (xs.map V.ref)) ∧ AllAt d H' xs as
def spRp (K : PySem.W.Frag) (d : D3) : Sp := fun vs H Q _ => ∃ (v : V) (o : Option (List Act)), vs = [v] ∧ PtI H v o ∧ ∀ v' H', Same H H' → PtR d H H' v' o → Q v' H'
section
variable {P : Program} {w : World} {K : PySem.W.Frag} {mg : Str → Option Value} {base : Heap}
theorem ok_rp {d : D3} {f : Addr} {fd : FuncData} (F : Fun K "_law_real_part" "_law_real_part" sRp f fd) (cReal : C8.Cal P w K mg base 7 "_law_real_deed" (spReal K d) []) : FnOk P w K mg base CX0 8 f fd ["_law_deeds_here"] (spRp K d) := by
  refine F.ok scRp (fun vs H Q E h => ?_) (fun cdv A outer s H vs Q E hr h => ?_)
  · obtain ⟨v, o, rfl, _⟩ := h
    rfl
  · obtain ⟨v, o, rfl, h, k⟩ := h
    refine ⟨_, (pss_cons (ps_if (pt_cmpR op_isN (pv 0) pe_non (nomark _)) (pss_one (ps_ret pe_non)) pss_nil)
      (pss_one (ps_ret (pe_lc (own := [("_law_made", 1), ("_law_used", 2)]) (g := gTup K 2 (gCons (gName 1) (gCons (gName 2) gNil))) rfl scRp.nd (pi_list (pv 0)) (blkOk_by (own := [("_law_made", 1), ("_law_used", 2)]) (N := NRp) (sc := defScope sRp) (by decide +kernel)) (fun _ _ _ _ _ => (pg_tup (n := 2) rfl (pgs_cons (pg_name (i := 1) scRp.nd rfl (Or.inl rfl)) (pgs_cons (pg_name (i := 2) scRp.nd rfl (Or.inl rfl)) pgs_nil)))) (fun _ _ _ _ _ => pts_nil) (fun _ _ _ _ _ => (C8.pe_c cReal hr (by decide) rfl (pa_cons (pv 1) (pa_cons (pv 2) pa_nil)))))))), ?_⟩
    cases o with
    | none =>
      obtain rfl : v = .non := h
      exact ⟨_, rfl, rfl, _, rfl, iteT (k _ H (Same.refl H) rfl)⟩
    | some as =>
      obtain ⟨L, rfl, ⟨ts, gL, lt⟩, h200, lo⟩ := h
      refine ⟨_, rfl, rfl, _, rfl, iteF ?_⟩
      refine ⟨_, rfl, L, rfl, ⟨_, SqL.of gL⟩, fun D hD => ?_⟩
      have z200 : (300 : Nat) ≤ sizeLine := by decide
      refine lc_list (xs := ts.map V.ref) (fun j H' => Same H H' ∧ ∃ xs : List Addr, H' D = some (.lst (xs.map V.ref)) ∧ AllAt d H' xs (as.take j)) ⟨Same.new hD, [], upd_same, rfl, nofun⟩ (fun j H' _ z => SqL.of (z.1 _ _ gL)) ?_ ?_
      · rintro j y H2 hy ⟨s2, xs, gD, al⟩
        rw [List.getElem?_map] at hy
        obtain ⟨t, ht, rfl⟩ := Option.map_eq_some_iff.mp hy
        have hj : j < as.length := by rw [← lt.1]; exact (List.getElem?_eq_some_iff.mp ht).1
        obtain ⟨a, ha⟩ : ∃ a, as[j]? = some a := ⟨_, List.getElem?_eq_getElem hj⟩
        obtain ⟨u, g1, g2⟩ := lt.2 j t a ht ha
        refine ⟨t, _, rfl, SqT.of (s2 _ _ g1), rfl, _, _, rfl, _, _, rfl, rfl, ?_⟩
        refine ⟨rfl, ?_⟩
        unfold tYes
        dsimp only
        rw [if_pos rfl]
        refine ⟨_, rfl, _, rfl, u, a.1, a.2, rfl, SqL.of (s2 _ _ g2), lo a (List.mem_of_getElem? ha), fun x H3 hn => ?_⟩
        obtain ⟨s3, hx, ys, isd⟩ := hn
        have gD3 := s3 _ _ gD
        have lx := al.1
        rw [List.length_take] at lx
        have put : ∀ {x' mk us ys}, IsD d H3 x' mk us ys → IsD d (upd H3 D (.lst (xs.map V.ref ++ [V.ref x]))) x' mk us ys := fun {x' mk us ys} h => h.kl (fun b o e n => (upd_ne (fun z => by rw [z, gD3] at e; exact n _ (Option.some.inj e).symm)).trans e)
        refine ⟨_, gD3, by rw [List.length_map]; omega, sameUpd (s2.trans s3) hD, xs ++ [x], by rw [upd_same, List.map_append]; rfl, ?_⟩
        rw [takeSnoc ha]
        refine ⟨by rw [List.length_append, List.length_append, al.1]; rfl, fun i x2 a2 e1 e2 => ?_⟩
        by_cases hi : i < xs.length
        · rw [List.getElem?_append_left hi] at e1
          rw [List.getElem?_append_left (by rw [← al.1]; exact hi)] at e2
          exact (al.2 i x2 a2 e1 e2).imp fun ys h => put (h.same s3)
        · obtain ⟨q, rfl⟩ : ∃ q, i = xs.length + q := ⟨i - xs.length, by omega⟩
          have hl := al.1
          rw [List.getElem?_append_right (by omega)] at e1
          rw [List.getElem?_append_right (by omega)] at e2
          rw [Nat.add_sub_cancel_left] at e1
          cases q with
          | zero =>
            rw [← hl, Nat.add_zero, Nat.sub_self] at e2
            cases e1
            cases e2
            exact ⟨ys, put isd⟩
          | succ q => cases e1
      · rintro H2 ⟨s2, xs, gD, al⟩
        rw [List.length_map, lt.1, List.take_length] at al
        exact k _ H2 s2 ⟨D, xs, rfl, hD, gD, al⟩
end
end K06

set_option Elab.async false
set_option linter.all false
set_option maxRecDepth 100000
set_option maxHeartbeats 4000000
/-! The law's program made, 2. -/
namespace K06
open PySem L2 NX NU
open PyProof.Rows (sortedS)
/-- a part in the list of parts at D -/
def PL (d : D3) (H : Hp) (D : Addr) (v : V) : Option (List Act) → Prop
  | none => v = .non
  | some as => ∃ (p : Addr) (xs : List Addr), v = .ref p ∧ p ≠ D ∧ H p = some (.lst (xs.map V.ref)) ∧ AllAt d H xs as
theorem AllAt.kl {d : D3} {H H' : Hp} {xs : List Addr} {as : List Act} (s : KL H H') (h : AllAt d H xs as) : AllAt d H' xs as := ⟨h.1, fun i x a e1 e2 => (h.2 i x a e1 e2).imp fun _ q => q.kl s⟩
theorem PL.but {d : D3} {H H' : Hp} {D : Addr} {v : V} {ys : List V} (g : H D = some (.lst ys)) (B : But D H H') : ∀ {o : Option (List Act)}, PL d H D v o → PL d H' D v o
  | none, h => h
  | some _, ⟨p, xs, e, n, a, b⟩ => ⟨p, xs, e, n, B _ _ a n, b.kl fun c u h k => B c u h fun z => by rw [z, g] at h; exact k _ (Option.some.inj h).symm⟩
theorem PL.inO {K : PySem.W.Frag} {d : D3} {H : Hp} {D : Addr} {v : V} : ∀ {o : Option (List Act)}, PL d H D v o → InO K d H v o
  | none, h => h
  | some _, ⟨p, xs, e, _, a, b⟩ => ⟨p, xs, e, .inl (SqL.of a), b⟩
theorem PtR.pl {d : D3} {H H' : Hp} {D : Addr} {v : V} {o' : HO} (g : H D = some o') : ∀ {o : Option (List Act)}, PtR d H H' v o → PL d H' D v o
  | none, h => h
  | some _, ⟨p, xs, e, n, a, b⟩ => ⟨p, xs, e, (fun z => by rw [z, g] at n; cases n), a, b⟩
theorem lots0 {H : Hp} {b : Addr} (h : H b = some (.lst [])) : LotsAt H b [] := ⟨[], h, rfl, nofun⟩
/-- Program(..) is made -/
structure PM (P : Program) (w : World) (K : PySem.W.Frag) (mg : Str → Option Value) (base : Heap) (d : D3) (C f : Addr) (fd : FuncData) (t0 t1 t2 t3 t4 : Addr) : Prop where
  mak : Mk K C f
  fn : FnOk P w K mg base CX0 5 f fd pPi (spPi K d)
  g : mg "Program" = some (.ref C)
  fd_ : L2.FunD K "__init__" "Program.__init__" (defArgs sPi) (defBody sPi) (defScope sPi) (dvsP t0 t1 t2) (kwsP t3 t4) f fd
  cls : PCls K C
  e1 : ∀ H, SqT K H t1 []
  e2 : ∀ H, SqT K H t2 []
section
variable {P : Program} {w : World} {K : PySem.W.Frag} {mg : Str → Option Value} {base : Heap}
theorem pe_c0 {X : Cx} {k j : Nat} {x : Str} {sp : Sp} {dvs : List V} {p pos : Pos} (c : C8.Cal X.prog X.w X.K X.mg X.base k x sp dvs) (hr : Room j X.A) (hk : k ≤ j) (hg : Gl X x)
    (hdb : (x == ("__debug__" : Str)) = false := by decide) : PE X (.Call (.Name x p) [] [] pos) (tCall sp dvs C8.E0 tNil) := by
  obtain ⟨f, fd, ps, ds, F, hm, kp, b, d⟩ := c.ex
  exact pe_call0 F (hr.mono hk) hg hm kp b d C8.pass0 hdb
end
end K06

set_option Elab.async false
set_option linter.all false
set_option maxRecDepth 100000
set_option maxHeartbeats 4000000
/-! The law's programs, with loops. -/
namespace K06
open PySem L2 NX NU
open PyProof.Rows (sortedS)
def sk7 (gv ag vl vb vx vh vL : V) : List (Key × V) := [(.inr "given", gv), (.inr "again", ag), (.inr "loop", vl), (.inr "between", vb), (.inr "second", vx), (.inr "behind", vh), (.inr "ahead", vL)]
def sk8 (gv ag vl vb vx vh vL r : V) : List (Key × V) := [(.inr "given", gv), (.inr "again", ag), (.inr "loop", vl), (.inr "between", vb), (.inr "second", vx), (.inr "behind", vh), (.inr "ahead", vL), (.inr "results", r)]
/-- a drawn program at S -/
structure SiteG (H : Hp) (S : Addr) (t : Tol) : Prop where
  ex : ∃ (gv ag r : Addr) (vl vb vx vh vL : V), H S = some (.dK (sk8 (.ref gv) (.ref ag) vl vb vx vh vL (.ref r))) ∧ H gv = some (.lst (t.us.map V.str)) ∧ AgD H ag t.ag ∧ H r = some (.lst (t.rs.map V.str)) ∧
    PtI H vL (some t.g.a) ∧ PtI H vl t.g.l ∧ PtI H vb (some t.g.b) ∧ PtI H vx t.g.s ∧ PtI H vh (some t.g.h)
/-- what is there of a program with so many loops -/
def Loops (nl : Nat) (g : Prg) : Prop := (g.l.isSome = decide (0 < nl)) ∧ (g.s.isSome = decide (1 < nl)) ∧ (nl ≤ 1 → g.b = []) ∧ (nl = 0 → g.h = [])
theorem PtI.but {H H' : Hp} {p c : Addr} {ns : List Int} {x y : Int} {v : V} (P : Pen H p c ns x y) (B : But p H H') : ∀ {o : Option (List Act)}, PtI H v o → PtI H' v o
  | none, h => h
  | some _, ⟨L, e, l, a, b⟩ => ⟨L, e, l.but P B, a, b⟩
theorem PtI.putD {H : Hp} {S : Addr} {kvs : List (Key × V)} {o' : HO} {v : V} (g : H S = some (.dK kvs)) : ∀ {o : Option (List Act)}, PtI H v o → PtI (upd H S o') v o
  | none, h => h
  | some _, ⟨L, e, l, a, b⟩ => ⟨L, e, l.putD g, a, b⟩
/-- what stands while the parts are drawn -/
structure SiS (H0 H : Hp) (p c : Addr) (ns : List Int) (m : Int) (most : Nat) (gv ag : Addr) (vl vb vx vh vL : V) (S kn fr : Addr) (us : List Str) (l : List (Str × Int)) (ws fs hs : List Str) (g : Prg) : Prop where
  pen : ∃ a r, Pen H p c ns a r ∧ a ≤ m
  but : But p H0 H
  s0 : H0 S = none
  site : H S = some (.dK (sk7 (.ref gv) (.ref ag) vl vb vx vh vL))
  gv_ : H gv = some (.lst (us.map V.str))
  ag_ : AgD H ag l
  kn_ : H kn = some (.lst (hs.map V.str))
  fr_ : H fr = some (.lst (fs.map V.str))
  pa : PtI H vL (some g.a)
  pl : PtI H vl g.l
  pb : PtI H vb (some g.b)
  px : PtI H vx g.s
  ph : PtI H vh (some g.h)
  uses : ∀ i, i < 5 → UsesOk (l.map (·.1)) (g.lastAt (us ++ l.map (·.1)) i) ((g.at i).getD [])
  eq : ∀ z, z ∈ hs ↔ z ∈ g.lastAt (us ++ l.map (·.1)) 5
  uni : Uni hs
  pos : 0 < hs.length
  hin : ∀ z ∈ hs, z ∈ ws
  inn : ∀ z ∈ actsN g.acts, z ∈ ws
  len : ∀ i, i < 5 → ((g.at i).getD []).length ≤ most
theorem agD_ne {H : Hp} {p c ag : Addr} {ns : List Int} {x y : Int} {l : List (Str × Int)} (P : Pen H p c ns x y) (h : AgD H ag l) : ag ≠ p := fun e => by unfold AgD at h; rw [e, P.hp] at h; cases h
section
variable {H0 H H' : Hp} {p c : Addr} {ns : List Int} {m m' : Int} {most : Nat} {gv ag : Addr} {vl vb vx vh vL : V} {S kn fr : Addr} {us : List Str} {l : List (Str × Int)} {ws fs hs : List Str} {g : Prg}
theorem SiS.sp (h : SiS H0 H p c ns m most gv ag vl vb vx vh vL S kn fr us l ws fs hs g) : S ≠ p := fun e => by
  obtain ⟨a, r, P, _⟩ := h.pen
  have z := h.site
  rw [e, P.hp] at z
  cases z
/-- behind some draws, and new things -/
theorem SiS.step (h : SiS H0 H p c ns m most gv ag vl vb vx vh vL S kn fr us l ws fs hs g) (hd : ∃ a r, Pen H' p c ns a r ∧ a ≤ m') (B : But p H H') : SiS H0 H' p c ns m' most gv ag vl vb vx vh vL S kn fr us l ws fs hs g := by
  obtain ⟨a, r, P, _⟩ := h.pen
  exact { h with pen := hd, but := h.but.trans B, site := B _ _ h.site h.sp, gv_ := B _ _ h.gv_ (pen_ne P h.gv_), ag_ := B _ _ h.ag_ (agD_ne P h.ag_), kn_ := B _ _ h.kn_ (pen_ne P h.kn_), fr_ := B _ _ h.fr_ (pen_ne P h.fr_), pa := h.pa.but P B, pl := h.pl.but P B, pb := h.pb.but P B, px := h.px.but P B, ph := h.ph.but P B }
theorem lst_ne {a : Addr} {xs : List V} {kvs : List (Key × V)} (e : H a = some (.lst xs)) (g : H S = some (.dK kvs)) : a ≠ S := fun z => by rw [z, g] at e; cases e
/-- a part is put to the dict -/
theorem SiS.put {vl' vb' vx' vh' : V} {kn' : Addr} {hs' : List Str} {g' : Prg} (h : SiS H0 H p c ns m most gv ag vl vb vx vh vL S kn fr us l ws fs hs g) (hag : ag ≠ S) (gk : H kn' = some (.lst (hs'.map V.str))) (pa : PtI H vL (some g'.a)) (pl : PtI H vl' g'.l) (pb : PtI H vb' (some g'.b)) (px : PtI H vx' g'.s) (ph : PtI H vh' (some g'.h))
    (uses : ∀ i, i < 5 → UsesOk (l.map (·.1)) (g'.lastAt (us ++ l.map (·.1)) i) ((g'.at i).getD [])) (eq : ∀ z, z ∈ hs' ↔ z ∈ g'.lastAt (us ++ l.map (·.1)) 5) (uni : Uni hs') (pos : 0 < hs'.length) (hin : ∀ z ∈ hs', z ∈ ws) (inn : ∀ z ∈ actsN g'.acts, z ∈ ws) (len : ∀ i, i < 5 → ((g'.at i).getD []).length ≤ most) :
    SiS H0 (upd H S (.dK (sk7 (.ref gv) (.ref ag) vl' vb' vx' vh' vL))) p c ns m most gv ag vl' vb' vx' vh' vL S kn' fr us l ws fs hs' g' := by
  obtain ⟨a, r, P, e⟩ := h.pen
  have Sp := h.sp
  have Sc : S ≠ c := fun z => by have q := h.site; rw [z, P.hc] at q; cases q
  exact ⟨⟨a, r, P.put Sp Sc, e⟩, butPut h.but h.s0, h.s0, upd_same, (upd_ne (lst_ne h.gv_ h.site)).trans h.gv_, (upd_ne hag).trans h.ag_, (upd_ne (lst_ne gk h.site)).trans gk, (upd_ne (lst_ne h.fr_ h.site)).trans h.fr_,
    pa.putD h.site, pl.putD h.site, pb.putD h.site, px.putD h.site, ph.putD h.site, uses, eq, uni, pos, hin, inn, len⟩
theorem aft_congr {A B : List Str} {as : List Act} (h : ∀ z, z ∈ A ↔ z ∈ B) : ∀ z, z ∈ aft A as ↔ z ∈ aft B as := fun z => by
  unfold aft
  rw [List.mem_append, List.mem_append, h z]
theorem last5 (g : Prg) (bs : List Str) : g.lastAt bs 5 = aft (aft (aft bs g.a) g.b) g.h := rfl
theorem acts5 (g : Prg) (z : Str) : z ∈ actsN g.acts ↔ z ∈ actsN g.a ∨ z ∈ actsN (g.l.getD []) ∨ z ∈ actsN g.b ∨ z ∈ actsN (g.s.getD []) ∨ z ∈ actsN g.h := by
  have e : actsN g.acts = actsN g.a ++ actsN (g.l.getD []) ++ actsN g.b ++ actsN (g.s.getD []) ++ actsN g.h := by
    show actsN (((((([] ++ g.a) ++ g.l.getD []) ++ g.b) ++ g.s.getD []) ++ g.h)) = _
    rw [List.nil_append, actsN_app, actsN_app, actsN_app, actsN_app]
  rw [e]
  simp only [List.mem_append, or_assoc]
/-- what a further lot of deeds keeps -/
theorem drw_in {as : List Act} {hs hs2 : List Str} (dr : Drw hs fs as hs2) (hin : ∀ z ∈ hs, z ∈ ws) (hf : ∀ z ∈ fs, z ∈ ws) : (∀ z ∈ hs2, z ∈ ws) ∧ ∀ z ∈ actsN as, z ∈ ws := ⟨fun z hz => (dr.hin z hz).elim (hin z) (hf z), fun z hz => (dr.inn z hz).elim (hin z) (hf z)⟩
theorem pos_of {A B : List Str} (h : 0 < A.length) (k : ∀ z ∈ A, z ∈ B) : 0 < B.length := by
  cases A with
  | nil => cases h
  | cons z r => exact List.length_pos_of_mem (k z List.mem_cons_self)
theorem five {i : Nat} (h : i < 5) : i = 0 ∨ i = 1 ∨ i = 2 ∨ i = 3 ∨ i = 4 := by omega
/-- the first loop -/
theorem SiS.loop {as : List Act} {hs2 : List Str} {L : Addr} (h : SiS H0 H p c ns m most gv ag vl vb vx vh vL S kn fr us l ws fs hs g) (hag : ag ≠ S) (gb : g.b = []) (gh : g.h = []) (lots : LotsAt H L as) (dr : Drw hs fs as hs2) (hf : ∀ z ∈ fs, z ∈ ws ∧ z ∉ l.map (·.1)) (la : as.length ≤ most) (m8 : most ≤ 8) :
    SiS H0 (upd H S (.dK (sk7 (.ref gv) (.ref ag) (.ref L) vb vx vh vL))) p c ns m most gv ag (.ref L) vb vx vh vL S kn fr us l ws fs hs { g with l := some as } := by
  have di := drw_in dr h.hin (fun z hz => (hf z hz).1)
  refine h.put hag h.kn_ h.pa ⟨L, rfl, lots, (show as.length ≤ 200 by omega), dr.lot⟩ h.pb h.px h.ph (fun i i5 => ?_) h.eq h.uni h.pos h.hin (fun z hz => ?_) (fun i i5 => ?_)
  · rcases five i5 with rfl | rfl | rfl | rfl | rfl
    · exact h.uses 0 (by decide)
    · refine (dr.uses _ fun z hz => (hf z hz).2).congr fun z => ?_
      rw [h.eq z, last5, gb, gh, aft_nil, aft_nil]
      exact Iff.rfl
    · exact h.uses 2 (by decide)
    · exact h.uses 3 (by decide)
    · exact h.uses 4 (by decide)
  · rw [acts5] at hz
    have q := fun k => h.inn z ((acts5 g z).mpr k)
    rcases hz with k | k | k | k | k
    · exact q (.inl k)
    · exact di.2 z k
    · exact q (.inr (.inr (.inl k)))
    · exact q (.inr (.inr (.inr (.inl k))))
    · exact q (.inr (.inr (.inr (.inr k))))
  · rcases five i5 with rfl | rfl | rfl | rfl | rfl
    · exact h.len 0 (by decide)
    · exact la
    · exact h.len 2 (by decide)
    · exact h.len 3 (by decide)
    · exact h.len 4 (by decide)
/-- the deeds between -/
theorem SiS.between {as : List Act} {hs2 : List Str} {L N : Addr} (h : SiS H0 H p c ns m most gv ag vl vb vx vh vL S kn fr us l ws fs hs g) (hag : ag ≠ S) (gb : g.b = []) (gs : g.s = none) (gh : g.h = []) (lots : LotsAt H L as) (gN : H N = some (.lst (hs2.map V.str))) (dr : Drw hs fs as hs2) (hf : ∀ z ∈ fs, z ∈ ws ∧ z ∉ l.map (·.1)) (la : as.length ≤ most) (m8 : most ≤ 8) :
    SiS H0 (upd H S (.dK (sk7 (.ref gv) (.ref ag) vl (.ref L) vx vh vL))) p c ns m most gv ag vl (.ref L) vx vh vL S N fr us l ws fs hs2 { g with b := as } := by
  have di := drw_in dr h.hin (fun z hz => (hf z hz).1)
  have e1 : ∀ z, z ∈ hs ↔ z ∈ aft (us ++ l.map (·.1)) g.a := fun z => by
    rw [h.eq z, last5, gb, gh, aft_nil, aft_nil]
  refine h.put hag gN h.pa h.pl ⟨L, rfl, lots, (show as.length ≤ 200 by omega), dr.lot⟩ h.px h.ph (fun i i5 => ?_) (fun z => ?_) dr.here (pos_of h.pos fun z hz => (dr.eq z).mpr (by unfold aft; exact List.mem_append_left _ hz)) di.1 (fun z hz => ?_) (fun i i5 => ?_)
  · rcases five i5 with rfl | rfl | rfl | rfl | rfl
    · exact h.uses 0 (by decide)
    · exact h.uses 1 (by decide)
    · exact (dr.uses _ fun z hz => (hf z hz).2).congr e1
    · show UsesOk _ _ (g.s.getD [])
      rw [gs]
      exact trivial
    · show UsesOk _ _ g.h
      rw [gh]
      exact trivial
  · rw [dr.eq z, last5]
    show _ ↔ z ∈ aft (aft (aft _ g.a) as) g.h
    rw [gh, aft_nil]
    exact aft_congr e1 z
  · rw [acts5] at hz
    have q := fun k => h.inn z ((acts5 g z).mpr k)
    rcases hz with k | k | k | k | k
    · exact q (.inl k)
    · exact q (.inr (.inl k))
    · exact di.2 z k
    · exact q (.inr (.inr (.inr (.inl k))))
    · exact q (.inr (.inr (.inr (.inr k))))
  · rcases five i5 with rfl | rfl | rfl | rfl | rfl
    · exact h.len 0 (by decide)
    · exact h.len 1 (by decide)
    · exact la
    · exact h.len 3 (by decide)
    · exact h.len 4 (by decide)
/-- the second loop -/
theorem SiS.second {as : List Act} {hs2 : List Str} {L : Addr} (h : SiS H0 H p c ns m most gv ag vl vb vx vh vL S kn fr us l ws fs hs g) (hag : ag ≠ S) (gh : g.h = []) (lots : LotsAt H L as) (dr : Drw hs fs as hs2) (hf : ∀ z ∈ fs, z ∈ ws ∧ z ∉ l.map (·.1)) (la : as.length ≤ most) (m8 : most ≤ 8) :
    SiS H0 (upd H S (.dK (sk7 (.ref gv) (.ref ag) vl vb (.ref L) vh vL))) p c ns m most gv ag vl vb (.ref L) vh vL S kn fr us l ws fs hs { g with s := some as } := by
  have di := drw_in dr h.hin (fun z hz => (hf z hz).1)
  refine h.put hag h.kn_ h.pa h.pl h.pb ⟨L, rfl, lots, (show as.length ≤ 200 by omega), dr.lot⟩ h.ph (fun i i5 => ?_) h.eq h.uni h.pos h.hin (fun z hz => ?_) (fun i i5 => ?_)
  · rcases five i5 with rfl | rfl | rfl | rfl | rfl
    · exact h.uses 0 (by decide)
    · exact h.uses 1 (by decide)
    · exact h.uses 2 (by decide)
    · refine (dr.uses _ fun z hz => (hf z hz).2).congr fun z => ?_
      rw [h.eq z, last5, gh, aft_nil]
      exact Iff.rfl
    · exact h.uses 4 (by decide)
  · rw [acts5] at hz
    have q := fun k => h.inn z ((acts5 g z).mpr k)
    rcases hz with k | k | k | k | k
    · exact q (.inl k)
    · exact q (.inr (.inl k))
    · exact q (.inr (.inr (.inl k)))
    · exact di.2 z k
    · exact q (.inr (.inr (.inr (.inr k))))
  · rcases five i5 with rfl | rfl | rfl | rfl | rfl
    · exact h.len 0 (by decide)
    · exact h.len 1 (by decide)
    · exact h.len 2 (by decide)
    · exact la
    · exact h.len 4 (by decide)
/-- the deeds behind -/
theorem SiS.behind {as : List Act} {hs2 : List Str} {L N : Addr} (h : SiS H0 H p c ns m most gv ag vl vb vx vh vL S kn fr us l ws fs hs g) (hag : ag ≠ S) (gh : g.h = []) (lots : LotsAt H L as) (gN : H N = some (.lst (hs2.map V.str))) (dr : Drw hs fs as hs2) (hf : ∀ z ∈ fs, z ∈ ws ∧ z ∉ l.map (·.1)) (la : as.length ≤ most) (m8 : most ≤ 8) :
    SiS H0 (upd H S (.dK (sk7 (.ref gv) (.ref ag) vl vb vx (.ref L) vL))) p c ns m most gv ag vl vb vx (.ref L) vL S N fr us l ws fs hs2 { g with h := as } := by
  have di := drw_in dr h.hin (fun z hz => (hf z hz).1)
  have e1 : ∀ z, z ∈ hs ↔ z ∈ aft (aft (us ++ l.map (·.1)) g.a) g.b := fun z => by
    rw [h.eq z, last5, gh, aft_nil]
  refine h.put hag gN h.pa h.pl h.pb h.px ⟨L, rfl, lots, (show as.length ≤ 200 by omega), dr.lot⟩ (fun i i5 => ?_) (fun z => ?_) dr.here (pos_of h.pos fun z hz => (dr.eq z).mpr (by unfold aft; exact List.mem_append_left _ hz)) di.1 (fun z hz => ?_) (fun i i5 => ?_)
  · rcases five i5 with rfl | rfl | rfl | rfl | rfl
    · exact h.uses 0 (by decide)
    · exact h.uses 1 (by decide)
    · exact h.uses 2 (by decide)
    · exact h.uses 3 (by decide)
    · exact (dr.uses _ fun z hz => (hf z hz).2).congr e1
  · rw [dr.eq z, last5]
    exact aft_congr e1 z
  · rw [acts5] at hz
    have q := fun k => h.inn z ((acts5 g z).mpr k)
    rcases hz with k | k | k | k | k
    · exact q (.inl k)
    · exact q (.inr (.inl k))
    · exact q (.inr (.inr (.inl k)))
    · exact q (.inr (.inr (.inr (.inl k))))
    · exact di.2 z k
  · rcases five i5 with rfl | rfl | rfl | rfl | rfl
    · exact h.len 0 (by decide)
    · exact h.len 1 (by decide)
    · exact h.len 2 (by decide)
    · exact h.len 3 (by decide)
    · exact la
end
end K06

set_option Elab.async false
set_option linter.all false
set_option maxRecDepth 100000
set_option maxHeartbeats 4000000
/-! The law's programs, with loops, 2. -/
namespace K06
open PySem L2 NX NU
open PyProof.Rows (sortedS)
def spSg : Sp := fun vs H Q _ => ∃ (p c : Addr) (ns : List Int) (at_ rest : Int) (nl most : Nat), vs = [.ref p, .int (nl : Int), .int (most : Int)] ∧ Pen H p c ns at_ rest ∧ at_ ≤ 600000 ∧ nl ≤ 2 ∧ most ≤ 8 ∧
  ∀ S t H', SiteG H' S t → t.Ok → 0 < t.us.length + t.ag.length → Loops nl t.g → (∀ i, i < 5 → ((t.g.at i).getD []).length ≤ most) → Drawn H p c ns (at_ + 1000) H' → Q (.ref S) H'
theorem tolOkG {H0 H : Hp} {p c : Addr} {ns : List Int} {m : Int} {most : Nat} {gv ag : Addr} {vl vb vx vh vL : V} {S kn fr : Addr} {us : List Str} {l : List (Str × Int)} {ws fs hs rs : List Str} {g : Prg} {nl : Nat} (h : SiS H0 H p c ns m most gv ag vl vb vx vh vL S kn fr us l ws fs hs g) (lp : Loops nl g) (uw : Uni ws) (w6 : ws.length ≤ 6) (sbu : us.Sublist ws) (sbl : (l.map (·.1)).Sublist ws) (hq : ∀ q ∈ l, 0 ≤ q.2 ∧ q.2 ≤ 9) (m8 : most ≤ 8) (sbr : rs.Sublist hs) : Tol.Ok ⟨g, us, l, rs⟩ := by
  have lu := sbu.length_le
  have ll := sbl.length_le
  rw [List.length_map] at ll
  have lr := sbr.length_le
  have lh : hs.length ≤ 6 := Nat.le_trans (uniLen h.uni h.hin) w6
  obtain ⟨l1, l2, l3, l4⟩ := lp
  have n0 := h.len 0 (by decide)
  have n1 := h.len 1 (by decide)
  have n2 := h.len 2 (by decide)
  have n3 := h.len 3 (by decide)
  have n4 := h.len 4 (by decide)
  have n0 : g.a.length ≤ most := n0
  have n1 : (g.l.getD []).length ≤ most := n1
  have n2 : g.b.length ≤ most := n2
  have n3 : (g.s.getD []).length ≤ most := n3
  have n4 : g.h.length ≤ most := n4
  have al : g.acts.length = g.a.length + (g.l.getD []).length + g.b.length + (g.s.getD []).length + g.h.length := by
    show (((((([] ++ g.a) ++ g.l.getD []) ++ g.b) ++ g.s.getD []) ++ g.h)).length = _
    simp only [List.nil_append, List.length_append]
  refine ⟨⟨fun e => ?_, fun e => ?_⟩, ⟨(show g.a.length ≤ 200 by omega), (show (g.l.getD []).length ≤ 24 by omega), (show g.b.length ≤ 24 by omega), (show (g.s.getD []).length ≤ 24 by omega), (show g.h.length ≤ 24 by omega), (show g.a.length + g.b.length + g.h.length ≤ 200 by omega)⟩, ⟨fun z h => uw.2 z (sbu.subset h), uw.1.sublist sbu, (show us.length < 60 by omega)⟩, ⟨fun q h => uw.2 q.1 (sbl.subset (List.mem_map_of_mem h)), fun q h => (hq q h).1, fun q h => (hq q h).2, (show l.length < 60 by omega), uw.1.sublist sbl⟩, ⟨fun z hz => h.uni.2 z (sbr.subset hz), h.uni.1.sublist sbr, (show rs.length < 60 by omega)⟩, ⟨ws, fun z hz => ?_, w6⟩, ?_, ⟨h.uses, fun z hz => (h.eq z).mp (sbr.subset hz)⟩⟩
  · rw [show g.l = none from e] at l1
    have n : ¬ 0 < nl := of_decide_eq_false l1.symm
    have z : nl = 0 := by omega
    refine ⟨l3 (by omega), ?_, l4 z⟩
    rw [decide_eq_false (by omega)] at l2
    cases hs : g.s with
    | none => rfl
    | some q => rw [hs] at l2; cases l2
  · rw [show g.s = none from e] at l2
    have n : ¬ 1 < nl := of_decide_eq_false l2.symm
    exact l3 (by omega)
  · unfold Tol.words at hz
    dsimp only at hz
    rw [List.mem_append, List.mem_append, List.mem_append] at hz
    rcases hz with ((k | k) | k) | k
    · exact sbu.subset k
    · exact sbl.subset k
    · exact h.hin z (sbr.subset k)
    · exact h.inn z k
  · show us.length + l.length + rs.length + 4 * g.acts.length ≤ 1000
    omega
section
variable {P : Program} {w : World} {K : PySem.W.Frag} {mg : Str → Option Value} {base : Heap}
theorem ok_sg {f : Addr} {fd : FuncData} (F : Fun K "_law_site" "_law_site" sSi f fd) (T : TxtB mg) (N : TxtP mg) (cDraw : C8.Cal P w K mg base 1 "_law_draw" spDraw []) (cNames : C8.Cal P w K mg base 3 "_law_names" spLNames []) (cDs : C8.Cal P w K mg base 3 "_law_deeds" (spDs K) []) :
    FnOk P w K mg base CX0 4 f fd ["_law_pen_here", "_law_loops", "_law_most"] spSg := by
  refine F.ok scSi (fun vs H Q E h => ?_) (fun cdv A outer s H vs Q E hr h => ?_)
  · obtain ⟨p, c, ns, a, r, nl, most, rfl, _⟩ := h
    rfl
  · obtain ⟨p, c, ns, at_, rest, nl, most, rfl, Pn, hat, n2, m8, k⟩ := h
    have hu := hu_of hr
    refine ⟨_, (pss_cons (ps_set (i := 3) scSi.nd rfl (Or.inl rfl) (C8.pe_c cNames hr (by decide) rfl (pa_cons (pv 0) (pa_cons (pe_op op_add pe_int (C8.pe_c cDraw hr (by decide) rfl (pa_cons (pv 0) (pa_cons pe_int pa_nil)))) pa_nil))))
      (pss_cons (ps_set (i := 4) scSi.nd rfl (Or.inr rfl) (pe_callTy (call_dictP rfl) (by rfl) N.bdict (by decide +kernel) (pa_cons
          (pe_lc (own := [("_law_word", 9)]) (g := gName 9) rfl scSi.nd (pi_list (pe_slice sl_list (pv 3) (po_some pe_int) po_none)) (blkOk_by (own := [("_law_word", 9)]) (N := NSi) (sc := defScope sSi) (by decide +kernel)) (fun _ _ _ _ _ => (pg_name (i := 9) scSi.nd rfl (Or.inl rfl))) (fun _ _ _ _ _ => (pts_one (pt_cmpR op_eq (C8.pe_c cDraw hr (by decide) rfl (pa_cons (pv 0) (pa_cons pe_int pa_nil))) pe_int (nomark _)))) (fun _ _ _ _ _ => (pe_tup (pa_cons (pv 9) (pa_cons (C8.pe_c cDraw hr (by decide) rfl (pa_cons (pv 0) (pa_cons pe_int pa_nil))) pa_nil))))) pa_nil)))
      (pss_cons (ps_set (i := 5) scSi.nd rfl (Or.inr rfl) (pe_lc (own := [("_law_word", 9)]) (g := gName 9) rfl scSi.nd (pi_list (pv 3)) (blkOk_by (own := [("_law_word", 9)]) (N := NSi) (sc := defScope sSi) (by decide +kernel)) (fun _ _ _ _ _ => (pg_name (i := 9) scSi.nd rfl (Or.inl rfl))) (fun _ _ _ _ _ => (pts_one (pt_cmpR op_gt (C8.pe_c cDraw hr (by decide) rfl (pa_cons (pv 0) (pa_cons pe_int pa_nil))) pe_int (nomark _)))) (fun _ _ _ _ _ => (pv 9))))
      (C8.pss_cut (ps_if (PW.pt (pw_and (pt_cmpR (op_eqD hr.units) (pv 5) (pe_lst pa_nil) (nomark _)) (pw_and1 (pt_cmpR op_eq (pe_callB call_lenD (by rfl) T.blen (by decide +kernel) (pa_cons (pv 4) pa_nil)) pe_int (nomark _))))) (pss_one (ps_set (i := 5) scSi.nd rfl (Or.inr rfl) (pe_slice sl_list (pv 3) po_none (po_some pe_int)))) pss_nil)
      (pss_cons (ps_setLc (i := 6) (own := [("_law_word", 9)]) (g := gName 9) rfl scSi.nd rfl rfl (sw_true rfl rfl rfl (by decide +kernel)) (pi_list (pv 3)) (blkOk_by (own := [("_law_word", 9)]) (N := NSi) (sc := defScope sSi) (by decide +kernel)) (fun _ _ _ _ _ => (pg_name (i := 9) scSi.nd rfl (Or.inl rfl))) (fun _ _ _ _ _ => (pts_one (pt_cmp (pc_dnotin hu (pv 9) (pv 4))))) (fun _ _ _ _ _ => (pv 9)))
      (pss_cons (ps_set (i := 7) scSi.nd rfl (Or.inl rfl) (pe_op op_cat (pv 5) (pe_lc (own := [("_law_word", 9)]) (g := gName 9) rfl scSi.nd (pi_list (pv 3)) (blkOk_by (own := [("_law_word", 9)]) (N := NSi) (sc := defScope sSi) (by decide +kernel)) (fun _ _ _ _ _ => (pg_name (i := 9) scSi.nd rfl (Or.inl rfl))) (fun _ _ _ _ _ => (pts_one (PW.pt (pw_and (pt_cmp (pc_din hu (pv 9) (pv 4))) (pw_and1 (show PT _ _ (tTest (tOp (rIn K true) (tVar 9) (tVar 5))) from pt_cmpR op_notIn_seq (pv 9) (pv 5) rfl)))))) (fun _ _ _ _ _ => (pv 9)))))
      (pss_cons (ps_set (i := 8) scSi.nd rfl (Or.inl rfl) (pe_disp (pps_cons pe_str (pv 5) (pps_cons pe_str (pv 4) (pps_cons pe_str pe_non (pps_cons pe_str (pe_lst pa_nil) (pps_cons pe_str pe_non pps_nil))))) rfl rfl (by intro h; cases h) (by decide)))
      (pss_cons (ps_dput hu (pv 8) pe_str (pe_lst pa_nil) rfl)
      (pss_cons (ps_asg (C8.pe_c cDs hr (by decide) rfl (pa_cons (pv 0) (pa_cons (pv 7) (pa_cons (pv 6) (pa_cons (pv 2) pa_nil))))) (pg_tup rfl (pgs_cons (pg_sub (pv 8) pe_str (set_dict hu)) (pgs_cons (pg_name (i := 7) scSi.nd rfl (Or.inl rfl)) pgs_nil))))
      (C8.pss_cut (ps_if (pt_cmpR op_gt (pv 1) pe_int (nomark _)) (pss_one (ps_dput hu (pv 8) pe_str (pe_ix ix_tup (C8.pe_c cDs hr (by decide) rfl (pa_cons (pv 0) (pa_cons (pv 7) (pa_cons (pv 6) (pa_cons (pv 2) pa_nil))))) pe_int (fun _ _ => rfl)) rfl)) pss_nil)
      (C8.pss_cut (ps_if (pt_cmpR op_gt (pv 1) pe_int (nomark _)) (pss_cons (ps_asg (C8.pe_c cDs hr (by decide) rfl (pa_cons (pv 0) (pa_cons (pv 7) (pa_cons (pv 6) (pa_cons (pv 2) pa_nil))))) (pg_tup rfl (pgs_cons (pg_sub (pv 8) pe_str (set_dict hu)) (pgs_cons (pg_name (i := 7) scSi.nd rfl (Or.inl rfl)) pgs_nil)))) (pss_one (ps_dput hu (pv 8) pe_str (pe_ix ix_tup (C8.pe_c cDs hr (by decide) rfl (pa_cons (pv 0) (pa_cons (pv 7) (pa_cons (pv 6) (pa_cons (pv 2) pa_nil))))) pe_int (fun _ _ => rfl)) rfl))) pss_nil)
      (C8.pss_cut (ps_if (pt_cmpR op_gt (pv 1) pe_int (nomark _)) (pss_one (ps_asg (C8.pe_c cDs hr (by decide) rfl (pa_cons (pv 0) (pa_cons (pv 7) (pa_cons (pv 6) (pa_cons (pv 2) pa_nil))))) (pg_tup rfl (pgs_cons (pg_sub (pv 8) pe_str (set_dict hu)) (pgs_cons (pg_name (i := 7) scSi.nd rfl (Or.inl rfl)) pgs_nil))))) pss_nil)
      (pss_cons (ps_dput hu (pv 8) pe_str (pe_lc (own := [("_law_word", 9)]) (g := gName 9) rfl scSi.nd (pi_list (pv 7)) (blkOk_by (own := [("_law_word", 9)]) (N := NSi) (sc := defScope sSi) (by decide +kernel)) (fun _ _ _ _ _ => (pg_name (i := 9) scSi.nd rfl (Or.inl rfl))) (fun _ _ _ _ _ => (pts_one (pt_cmpR op_eq (C8.pe_c cDraw hr (by decide) rfl (pa_cons (pv 0) (pa_cons pe_int pa_nil))) pe_int (nomark _)))) (fun _ _ _ _ _ => (pv 9))) rfl)
      (pss_one (ps_ret (pv 8)))))))))))))))), ?_⟩
    have z100 : (200 : Nat) ≤ sizeLine := by decide
    refine ⟨_, rfl, _, rfl, p, c, ns, at_, rest, 6, rfl, Pn, by omega, by decide, by decide, fun d H1 d0 d6 hd => ?_⟩
    obtain ⟨dn, rfl⟩ := Int.eq_ofNat_of_zero_le d0
    obtain ⟨a1, r1, P1, l1, B1⟩ := hd
    refine ⟨_, _, rfl, rfl, p, c, ns, a1, r1, 1 + dn, rfl, by omega, by omega, P1, by omega, fun lw ws H2 hlw gw uw lws hd => ?_⟩
    obtain ⟨a2, r2, P2, l2, B2⟩ := hd
    have B2 := B1.trans B2
    have w6 : ws.length ≤ 6 := by omega
    have w1 : 1 ≤ ws.length := by omega
    clear d0 d6 P1 B1 hlw
    refine gNm ?_
    dsimp only
    refine sqA (cb1 (lcOf ?_))
    refine ⟨_, rfl, 1, rfl, lw, _, rfl, SqL.of gw, fun q hq => ?_⟩
    rw [cut1 ws w1]
    have s3 := Same.new (o := .lst ((ws.drop 1).map V.str)) hq
    have gq : (upd H2 q (.lst ((ws.drop 1).map V.str))) q = some (.lst ((ws.drop 1).map V.str)) := upd_same
    have gw := s3 _ _ gw
    have P2 := P2.same s3
    have B2 := B2.trans (But.same s3)
    clear s3 hq
    generalize (upd H2 q (.lst ((ws.drop 1).map V.str))) = H2 at *
    refine ⟨q, rfl, ⟨_, SqL.of gq⟩, ?_⟩
    refine lcPr (xs := ws.drop 1) gq P2 (by rw [List.length_drop]; omega) (by rw [List.length_drop]; omega) fun D ps l H3 gD pr sb hq hd => ?_
    obtain ⟨a3, r3, P3, l3, B3⟩ := hd
    rw [List.length_drop] at l3
    have gw3 := B3 _ _ gw (pen_ne P2 gw)
    have B3 := B2.trans B3
    have sb : (l.map (·.1)).Sublist ws := sb.trans (List.drop_sublist 1 ws)
    have nk : (l.map (·.1)).Nodup := uw.1.sublist sb
    have ll : l.length ≤ 6 := by have := sb.length_le; rw [List.length_map] at this; omega
    refine ⟨D, ps, agK l, rfl, SqL.of gD, pr.paired, fun pd hpd => ?_⟩
    have em : mergeK [] (agK l) = agK l := merge_ag (l0 := []) nk
    rw [em]
    have s4 : Same H3 (upd H3 pd (.dK (agK l))) := Same.new hpd
    have gd4 : AgD (upd H3 pd (.dK (agK l))) pd l := upd_same
    have gw4 := s4 _ _ gw3
    have P4 := P3.same s4
    have B4 := B3.trans (But.same s4)
    clear s4 pr gD gw3 P3 B3 hpd P2 B2
    generalize (upd H3 pd (.dK (agK l))) = H4 at *
    refine gNm ?_
    refine sqA (lcOf ⟨_, rfl, lw, rfl, ⟨_, SqL.of gw4⟩, ?_⟩)
    refine lcD (xs := ws) gw4 P4 (by omega) (by omega) (fun z G a5 r5 R P5 l5 hR => ⟨_, rfl, p, c, ns, a5, r5, _, rfl, P5, by omega, by decide, by decide, fun e G2 _ _ hd => ⟨_, _, rfl, rfl, _, rfl, hR _ G2 hd⟩⟩) fun kn0 us0 H5 hk gk sbk hd => ?_
    obtain ⟨a5, r5, P5, l5, B5⟩ := hd
    have gw5 := B5 _ _ gw4 (pen_ne P4 gw4)
    have pdp : pd ≠ p := fun e => by unfold AgD at gd4; rw [e, P4.hp] at gd4; cases gd4
    have gd5 : AgD H5 pd l := B5 _ _ gd4 pdp
    have B5 := B4.trans B5
    refine ⟨fun σ H' => ∃ kn us, σ = [some (.ref p), some (.int (nl : Int)), some (.int (most : Int)), some (.ref lw), some (.ref pd), some (.ref kn), none, none, none, none] ∧ Pen H' p c ns a5 r5 ∧ But p H H' ∧ H' lw = some (.lst (ws.map V.str)) ∧ AgD H' pd l ∧ H' kn = some (.lst (us.map V.str)) ∧ us.Sublist ws ∧ (us = [] → l ≠ []), ?_, ?_⟩
    · refine ⟨_, rfl, by show 0 ≤ sizeLine; decide, fun e he => ?_⟩
      have s6 : Same H5 (upd H5 e (.lst [])) := Same.new he
      have ge : (upd H5 e (.lst [])) e = some (.lst []) := upd_same
      have gw6 := s6 _ _ gw5
      have gd6 : AgD (upd H5 e (.lst [])) pd l := s6 _ _ gd5
      have gk6 := s6 _ _ gk
      have P6 := P5.same s6
      have B6 := B5.trans (But.same s6)
      generalize (upd H5 e (.lst [])) = H6 at *
      refine ⟨_, _, .lst (SqL.of gk6) (dpTup us0), .lst (SqL.of ge) .nil, shapedTup (fun z hz => uw.2 z (sbk.subset hz)), by decide +kernel, _, rfl, ?_⟩
      cases us0 with
      | cons z zs => exact iteF (iteF ⟨kn0, z :: zs, rfl, P6, B6, gw6, gd6, gk6, sbk, nofun⟩)
      | nil =>
        refine iteT ⟨_, rfl, pd, _, rfl, gd6, rfl, _, rfl, ?_⟩
        cases l with
        | cons q r => exact iteF ⟨kn0, [], rfl, P6, B6, gw6, gd6, gk6, sbk, fun _ => nofun⟩
        | nil =>
          refine iteT ⟨_, rfl, 1, rfl, lw, _, rfl, SqL.of gw6, fun q hq => ?_⟩
          have s7 := Same.new (o := .lst (cutV (ws.map V.str) none (some 1))) hq
          refine ⟨q, ws.take 1, rfl, P6.same s7, B6.trans (But.same s7), s7 _ _ gw6, s7 _ _ gd6, by rw [upd_same, cutT ws w1], List.take_sublist 1 ws, fun e => ?_⟩
          have := congrArg List.length e
          rw [List.length_take] at this
          rw [List.length_nil] at this
          omega
    · clear gd5 gw5 gk B5 P5 sbk hk
      rintro σ H6 ⟨kn, us, rfl, P6, B6, gw6, gd6, gk6, sbu, hne⟩
      obtain ⟨ks, hks⟩ : ∃ ks, ks = l.map (·.1) := ⟨_, rfl⟩
      refine sqA (lcOf ⟨_, rfl, lw, rfl, ⟨_, SqL.of gw6⟩, ?_⟩)
      refine lcP (fun z => !decide (z ∈ ks)) gw6 (by omega) (fun z G R sG hR => ⟨_, rfl, _, rfl, pd, _, rfl, DGet.k (k := .inr z) (sG _ _ gd6), _, rfl, (by rw [agSome, ← hks]; exact hR)⟩) fun fr H7 hfr gfr s7 => ?_
      have P7 := P6.same s7
      have B7 := B6.trans (But.same s7)
      have gw7 := s7 _ _ gw6
      have gd7 : AgD H7 pd l := s7 _ _ gd6
      have gk7 := s7 _ _ gk6
      clear s7 P6 B6 gw6 gd6 gk6 hfr
      refine sqA (opv rfl (lcOf ⟨_, rfl, lw, rfl, ⟨_, SqL.of gw7⟩, ?_⟩))
      refine lcP (fun z => decide (z ∈ ks) && !decide (z ∈ us)) gw7 (by omega) (fun z G R sG hR => ⟨_, rfl, _, rfl, pd, _, rfl, DGet.k (k := .inr z) (sG _ _ gd7), _, rfl, ?_⟩) fun ex H13 hex gex s13 => ?_
      · rw [agSome, ← hks]
        by_cases hz : z ∈ ks
        · rw [decide_eq_true hz] at hR ⊢
          refine iteT ⟨_, rfl, _, rfl, kn, _, rfl, .inl (SqL.of (sG _ _ gk7)), rfl, flat_strs _, _, rfl, ?_⟩
          rw [if_pos rfl, inV_str]
          exact hR
        · rw [decide_eq_false hz] at hR ⊢
          exact iteF hR
      obtain ⟨xs, hxs⟩ : ∃ xs, xs = ws.filter (fun z => decide (z ∈ ks) && !decide (z ∈ us)) := ⟨_, rfl⟩
      rw [← hxs] at gex
      have lxs : xs.length ≤ 6 := by rw [hxs]; exact Nat.le_trans (List.length_filter_le _ _) w6
      have lus := sbu.length_le
      refine ⟨kn, ex, _, _, rfl, rfl, s13 _ _ gk7, gex, by rw [List.length_map, List.length_map]; omega, fun kn2 hkn2 => ?_⟩
      rw [← List.map_append]
      have s14 := s13.trans (Same.new (o := .lst ((us ++ xs).map V.str)) hkn2)
      have gn : (upd H13 kn2 (.lst ((us ++ xs).map V.str))) kn2 = some (.lst ((us ++ xs).map V.str)) := upd_same
      have gd7 : AgD _ pd l := s14 _ _ gd7
      have gk7 := s14 _ _ gk7
      have gfr := s14 _ _ gfr
      have gw7 := s14 _ _ gw7
      have P7 := P7.same s14
      have B7 := B7.trans (But.same s14)
      clear s14 s13 hkn2 gex hex
      generalize (upd H13 kn2 (.lst ((us ++ xs).map V.str))) = H7 at *
      intro S hS
      have nk := ne_of_none gk7 hS
      have nd := ne_of_none gd7 hS
      have nw := ne_of_none gw7 hS
      have nf := ne_of_none gfr hS
      have nn := ne_of_none gn hS
      have np := ne_of_none P7.hp hS
      have nc := ne_of_none P7.hc hS
      have hS0 := fresh0 B7 hS (Ne.symm np)
      have s8 : Same H7 (upd H7 S (.dK [])) := Same.new hS
      have gS : (upd H7 S (.dK [])) S = some (.dK []) := upd_same
      dsimp only [tPairs, tC]
      refine ⟨_, rfl, _, rfl, by show 0 ≤ sizeLine; decide, fun b hb => ?_⟩
      have nb : b ≠ S := fun e => by rw [e, gS] at hb; cases hb
      have s9 := s8.trans (Same.new (o := .lst []) hb)
      have gS := (upd_ne (o := .lst []) (Ne.symm nb)).trans gS
      have gb : (upd (upd H7 S (.dK [])) b (.lst [])) b = some (.lst []) := upd_same
      have P9 := P7.same s9
      have B9 := B7.trans (But.same s9)
      have gw9 := s9 _ _ gw7
      have gd9 : AgD _ pd l := s9 _ _ gd7
      have gk9 := s9 _ _ gk7
      have gn9 := s9 _ _ gn
      have gf9 := s9 _ _ gfr
      clear s9 s8 hb P7 B7 gw7 gd7 gk7 gfr hS
      generalize (upd (upd H7 S (.dK [])) b (.lst [])) = H9 at *
      refine ⟨gS, [(.inr "given", .ref kn), (.inr "again", .ref pd), (.inr "loop", .non), (.inr "between", .ref b), (.inr "second", .non)], rfl, by show 5 ≤ 15; decide, ?_⟩
      have e5 : mergeK [] [((.inr "given" : Key), V.ref kn), (.inr "again", .ref pd), (.inr "loop", .non), (.inr "between", .ref b), (.inr "second", .non)] = [((.inr "given" : Key), V.ref kn), (.inr "again", .ref pd), (.inr "loop", .non), (.inr "between", .ref b), (.inr "second", .non)] := rfl
      rw [e5]
      clear e5
      have gb := (upd_ne (o := .dK [((.inr "given" : Key), V.ref kn), (.inr "again", .ref pd), (.inr "loop", .non), (.inr "between", .ref b), (.inr "second", .non)]) nb).trans gb
      have gw10 := (upd_ne (o := .dK [((.inr "given" : Key), V.ref kn), (.inr "again", .ref pd), (.inr "loop", .non), (.inr "between", .ref b), (.inr "second", .non)]) nw).trans gw9
      have gd10 : AgD _ pd l := (upd_ne (o := .dK [((.inr "given" : Key), V.ref kn), (.inr "again", .ref pd), (.inr "loop", .non), (.inr "between", .ref b), (.inr "second", .non)]) nd).trans gd9
      have gk10 := (upd_ne (o := .dK [((.inr "given" : Key), V.ref kn), (.inr "again", .ref pd), (.inr "loop", .non), (.inr "between", .ref b), (.inr "second", .non)]) nk).trans gk9
      have gn10 := (upd_ne (o := .dK [((.inr "given" : Key), V.ref kn), (.inr "again", .ref pd), (.inr "loop", .non), (.inr "between", .ref b), (.inr "second", .non)]) nn).trans gn9
      have gf10 := (upd_ne (o := .dK [((.inr "given" : Key), V.ref kn), (.inr "again", .ref pd), (.inr "loop", .non), (.inr "between", .ref b), (.inr "second", .non)]) nf).trans gf9
      have P10 := P9.put (o := .dK [((.inr "given" : Key), V.ref kn), (.inr "again", .ref pd), (.inr "loop", .non), (.inr "between", .ref b), (.inr "second", .non)]) (Ne.symm np) (Ne.symm nc)
      have B10 := butPut (o := .dK [((.inr "given" : Key), V.ref kn), (.inr "again", .ref pd), (.inr "loop", .non), (.inr "between", .ref b), (.inr "second", .non)]) B9 hS0
      have gS : (upd H9 S (.dK [((.inr "given" : Key), V.ref kn), (.inr "again", .ref pd), (.inr "loop", .non), (.inr "between", .ref b), (.inr "second", .non)])) S = _ := upd_same
      clear P9 B9 gw9 gd9 gk9 gf9
      generalize (upd H9 S (.dK [((.inr "given" : Key), V.ref kn), (.inr "again", .ref pd), (.inr "loop", .non), (.inr "between", .ref b), (.inr "second", .non)])) = H10 at *
      refine ⟨by show 0 ≤ sizeLine; decide, fun h hh => ?_⟩
      have nh : h ≠ S := fun e => by rw [e, gS] at hh; cases hh
      have s11 := Same.new (o := .lst []) hh
      have gh : (upd H10 h (.lst [])) h = some (.lst []) := upd_same
      refine ⟨_, rfl, S, _, rfl, DPut.k (k := .inr "behind") (s11 _ _ gS) (by show 5 < sizeLine; decide), ?_⟩
      have e6 : putK [((.inr "given" : Key), V.ref kn), (.inr "again", .ref pd), (.inr "loop", .non), (.inr "between", .ref b), (.inr "second", .non)] (.inr "behind") (.ref h) = [((.inr "given" : Key), V.ref kn), (.inr "again", .ref pd), (.inr "loop", .non), (.inr "between", .ref b), (.inr "second", .non), (.inr "behind", .ref h)] := rfl
      rw [e6]
      clear e6
      obtain ⟨k6, hk6⟩ : ∃ k6, k6 = [((.inr "given" : Key), V.ref kn), (.inr "again", .ref pd), (.inr "loop", .non), (.inr "between", .ref b), (.inr "second", .non), (.inr "behind", .ref h)] := ⟨_, rfl⟩
      rw [← hk6]
      have gb := (upd_ne (o := .dK k6) nb).trans (s11 _ _ gb)
      have gh := (upd_ne (o := .dK k6) nh).trans gh
      have gw12 := (upd_ne (o := .dK k6) nw).trans (s11 _ _ gw10)
      have gd12 : AgD _ pd l := (upd_ne (o := .dK k6) nd).trans (s11 _ _ gd10)
      have gk12 := (upd_ne (o := .dK k6) nk).trans (s11 _ _ gk10)
      have gn12 := (upd_ne (o := .dK k6) nn).trans (s11 _ _ gn10)
      have gf12 := (upd_ne (o := .dK k6) nf).trans (s11 _ _ gf10)
      have P12 := (P10.same s11).put (o := .dK k6) (Ne.symm np) (Ne.symm nc)
      have B12 := butPut (o := .dK k6) (B10.trans (But.same s11)) hS0
      have gS : (upd (upd H10 h (.lst [])) S (.dK k6)) S = some (.dK k6) := upd_same
      clear P10 B10 gw10 gd10 gk10 gf10 s11 hh
      generalize (upd (upd H10 h (.lst [])) S (.dK k6)) = H14 at *
      have gd14 : AgD H14 pd l := gd12
      have gk14 := gk12
      have gf14 := gf12
      have P14 := P12
      have B14 := B12
      have gn := gn12
      clear gd12 gk12 gf12 P12 B12 gn12 gw12
      have mx : ∀ z, z ∈ xs ↔ z ∈ ws ∧ z ∈ ks ∧ z ∉ us := fun z => by rw [hxs, List.mem_filter, Bool.and_eq_true, decide_eq_true_eq, Bool.not_eq_true', decide_eq_false_iff_not]
      have hk2 : ∀ z, z ∈ us ++ xs ↔ z ∈ us ∨ z ∈ l.map (·.1) := fun z => by
        rw [List.mem_append, mx z, ← hks]
        exact ⟨fun h => h.imp id fun h => h.2.1, fun h => h.elim .inl fun h => (Classical.em (z ∈ us)).imp id fun n => ⟨sb.subset (by rw [← hks]; exact h), h, n⟩⟩
      have uk : Uni (us ++ xs) := ⟨List.nodup_append.mpr ⟨uw.1.sublist sbu, by rw [hxs]; exact uw.1.sublist List.filter_sublist, fun z hz y hy e => ((mx y).mp hy).2.2 (e ▸ hz)⟩, fun z hz => uw.2 z ((List.mem_append.mp hz).elim (fun h => sbu.subset h) fun h => ((mx z).mp h).1)⟩
      have mf : ∀ z ∈ ws.filter (fun z => !decide (z ∈ ks)), z ∈ ws ∧ z ∉ l.map (·.1) := fun z hz => by
        rw [List.mem_filter, Bool.not_eq_true', decide_eq_false_iff_not, hks] at hz
        exact hz
      have un0 : 0 < us.length + l.length := by
        cases us with
        | cons z r => exact Nat.succ_le_of_lt (Nat.lt_of_lt_of_le (Nat.succ_pos _) (Nat.le_add_right _ _))
        | nil =>
          cases l with
          | nil => exact absurd rfl (hne rfl)
          | cons q r => exact Nat.lt_of_lt_of_le (Nat.succ_pos _) (Nat.le_add_left _ _)
      have u0 : 0 < (us ++ xs).length := by
        cases us with
        | cons z r => exact Nat.succ_pos _
        | nil =>
          cases l with
          | nil => exact absurd rfl (hne rfl)
          | cons q r => exact List.length_pos_of_mem ((hk2 q.1).mpr (.inr (by simp)))
      refine ⟨_, rfl, _, rfl, _, rfl, _, rfl, p, c, ns, a5, r5, kn2, fr, us ++ xs, _, most, rfl, P14, by omega, gn, gf14, uk, u0, ⟨uw.1.sublist List.filter_sublist, fun z h => uw.2 z (mf z h).1⟩, ⟨ws, fun z hz => ((hk2 z).mp hz).elim (fun h => sbu.subset h) (fun h => sb.subset h), fun z h => (mf z h).1, w6⟩, m8, fun T' L Hn as hs H15 gT lots ghs las dr hd => ?_⟩
      obtain ⟨a15, r15, P15, l15, B15⟩ := hd
      have gb := B15 _ _ gb (pen_ne (zs := []) P14 gb)
      have gh := B15 _ _ gh (pen_ne (zs := []) P14 gh)
      have gd15 : AgD H15 pd l := B15 _ _ gd14 pdp
      have gk15 := B15 _ _ gk14 (pen_ne P14 gk14)
      have gf15 := B15 _ _ gf14 (pen_ne P14 gf14)
      have gS := B15 _ _ gS (Ne.symm np)
      have B15 := B14.trans B15
      have hs6 : hs.length ≤ 6 := Nat.le_trans (uniLen dr.here fun z hz => (dr.hin z hz).elim (fun h => ((hk2 z).mp h).elim (fun h => sbu.subset h) (fun h => sb.subset h)) fun h => (mf z h).1) w6
      refine ⟨T', _, rfl, SqT.of gT, rfl, _, _, rfl, _, rfl, S, _, rfl, DPut.k (k := .inr "ahead") gS (by rw [hk6]; show 6 < sizeLine; decide), _, _, rfl, rfl, ?_⟩
      have e7 : putK k6 (.inr "ahead") (.ref L) = [((.inr "given" : Key), V.ref kn), (.inr "again", .ref pd), (.inr "loop", .non), (.inr "between", .ref b), (.inr "second", .non), (.inr "behind", .ref h), (.inr "ahead", .ref L)] := by rw [hk6]; rfl
      obtain ⟨k7, hk7⟩ : ∃ k7, k7 = putK k6 (.inr "ahead") (.ref L) := ⟨_, rfl⟩
      rw [← hk7] at e7 ⊢
      have lots := lots.putD (o := .dK k7) gS
      have nHn : Hn ≠ S := fun e => by rw [e, gS] at ghs; cases ghs
      have ghs := (upd_ne (o := .dK k7) nHn).trans ghs
      have gb := (upd_ne (o := .dK k7) nb).trans gb
      have gh := (upd_ne (o := .dK k7) nh).trans gh
      have gd16 : AgD _ pd l := (upd_ne (o := .dK k7) nd).trans gd15
      have gk16 := (upd_ne (o := .dK k7) nk).trans gk15
      have gf16 := (upd_ne (o := .dK k7) nf).trans gf15
      have P16 := P15.put (o := .dK k7) (Ne.symm np) (Ne.symm nc)
      have B16 := butPut (o := .dK k7) B15 hS0
      have gS : (upd H15 S (.dK k7)) S = some (.dK k7) := upd_same
      clear P14 P15 B14 B15 gd14 gd15 gk14 gk15 gT gn gf14
      generalize (upd H15 S (.dK k7)) = H16 at *
      have uf : Uni (ws.filter (fun z => !decide (z ∈ ks))) := ⟨uw.1.sublist List.filter_sublist, fun z h => uw.2 z (mf z h).1⟩
      have I0 : SiS H H16 p c ns (at_ + 130) most kn pd .non (.ref b) .non (.ref h) (.ref L) S Hn fr us l ws (ws.filter (fun z => !decide (z ∈ ks))) hs ⟨as, none, [], none, []⟩ :=
        { pen := ⟨a15, r15, P16, by omega⟩, but := B16, s0 := hS0, site := by rw [gS, e7]; rfl, gv_ := gk16, ag_ := gd16, kn_ := ghs, fr_ := gf16, pa := ⟨L, rfl, lots, (show as.length ≤ 200 by omega), dr.lot⟩, pl := rfl, pb := ⟨b, rfl, lots0 gb, Nat.zero_le _, nofun⟩, px := rfl, ph := ⟨h, rfl, lots0 gh, Nat.zero_le _, nofun⟩
          uses := fun i i5 => by
            rcases five i5 with rfl | rfl | rfl | rfl | rfl
            · exact (dr.uses _ fun z hz => (mf z hz).2).congr fun z => (hk2 z).trans List.mem_append.symm
            · exact trivial
            · exact trivial
            · exact trivial
            · exact trivial
          eq := fun z => by
            rw [dr.eq z, last5, aft_nil, aft_nil]
            exact aft_congr (fun y => (hk2 y).trans List.mem_append.symm) z
          uni := dr.here
          pos := pos_of u0 fun z hz => (dr.eq z).mpr (by unfold aft; exact List.mem_append_left _ hz)
          hin := fun z hz => (dr.hin z hz).elim (fun h => ((hk2 z).mp h).elim (fun h => sbu.subset h) (fun h => sb.subset h)) fun h => (mf z h).1
          inn := fun z hz => by
            rw [acts5] at hz
            rcases hz with k | k | k | k | k
            · exact (dr.inn z k).elim (fun h => ((hk2 z).mp h).elim (fun h => sbu.subset h) (fun h => sb.subset h)) fun h => (mf z h).1
            · cases k
            · cases k
            · cases k
            · cases k
          len := fun i i5 => by
            rcases five i5 with rfl | rfl | rfl | rfl | rfl
            · exact las
            · exact Nat.zero_le _
            · exact Nat.zero_le _
            · exact Nat.zero_le _
            · exact Nat.zero_le _ }
      clear P16 B16 gb gh gd16 gk16 gf16 ghs lots gS dr hs6
      obtain ⟨fs, hfs⟩ : ∃ fs, fs = ws.filter (fun z => !decide (z ∈ ks)) := ⟨_, rfl⟩
      rw [← hfs] at I0 uf mf
      have sz : ∀ v1 v2 v3 v4 v5 v6 v7, (sk7 v1 v2 v3 v4 v5 v6 v7).length < sizeLine := fun _ _ _ _ _ _ _ => by show 7 < sizeLine; decide
      refine ⟨fun σ H' => ∃ vl kk hs g, σ = [some (.ref p), some (.int (nl : Int)), some (.int (most : Int)), some (.ref lw), some (.ref pd), some (.ref kn), some (.ref fr), some (.ref kk), some (.ref S), none] ∧ SiS H H' p c ns (at_ + 230) most kn pd vl (.ref b) .non (.ref h) (.ref L) S kk fr us l ws fs hs g ∧ g.b = [] ∧ g.s = none ∧ g.h = [] ∧ g.l.isSome = decide (0 < nl), ?_, ?_⟩
      · refine ⟨_, rfl, _, _, rfl, rfl, _, rfl, ite2 (fun hc => ?_) (fun hc => ?_)⟩
        · have hc := of_decide_eq_true hc
          obtain ⟨a6, r6, P6, l6⟩ := I0.pen
          refine ⟨_, rfl, _, rfl, _, rfl, _, rfl, p, c, ns, a6, r6, Hn, fr, hs, fs, most, rfl, P6, by omega, I0.kn_, I0.fr_, I0.uni, I0.pos, uf, ⟨ws, I0.hin, fun z hz => (mf z hz).1, w6⟩, m8, fun T2 L2 N2 as2 hs2 H7 gT2 lots2 gN2 la2 dr2 hd => ?_⟩
          obtain ⟨a7, r7, P7, l7, B7⟩ := hd
          have I1 := I0.step (m' := at_ + 230) ⟨a7, r7, P7, by omega⟩ B7
          exact ⟨T2, _, ((0 : Nat) : Int), .ref L2, rfl, rfl, SqT.of gT2, atI_nat rfl, _, rfl, S, _, rfl, DPut.k (k := .inr "loop") I1.site (sz _ _ _ _ _ _ _), .ref L2, Hn, hs, _, rfl, I1.loop nd rfl rfl lots2 dr2 mf la2 m8, rfl, rfl, rfl, (decide_eq_true (by omega)).symm⟩
        · have hc : ¬ (0 : Int) < (nl : Int) := fun h => hc (decide_eq_true h)
          obtain ⟨a6, r6, P6, l6⟩ := I0.pen
          exact ⟨.non, Hn, hs, _, rfl, I0.step ⟨a6, r6, P6, by omega⟩ But.refl, rfl, rfl, rfl, (decide_eq_false (by omega)).symm⟩
      · rintro σ H17 ⟨vl, kk, hs1, g1, rfl, I1, gb1, gs1, gh1, gl1⟩
        refine ⟨fun σ H' => ∃ vb vx kk hs g, σ = [some (.ref p), some (.int (nl : Int)), some (.int (most : Int)), some (.ref lw), some (.ref pd), some (.ref kn), some (.ref fr), some (.ref kk), some (.ref S), none] ∧ SiS H H' p c ns (at_ + 430) most kn pd vl vb vx (.ref h) (.ref L) S kk fr us l ws fs hs g ∧ g.h = [] ∧ g.l.isSome = decide (0 < nl) ∧ g.s.isSome = decide (1 < nl) ∧ (nl ≤ 1 → g.b = []), ?_, ?_⟩
        · refine ⟨_, rfl, _, _, rfl, rfl, _, rfl, ite2 (fun hc => ?_) (fun hc => ?_)⟩
          · have hc := of_decide_eq_true hc
            obtain ⟨a6, r6, P6, l6⟩ := I1.pen
            refine ⟨_, rfl, _, rfl, _, rfl, _, rfl, p, c, ns, a6, r6, kk, fr, hs1, fs, most, rfl, P6, by omega, I1.kn_, I1.fr_, I1.uni, I1.pos, uf, ⟨ws, I1.hin, fun z hz => (mf z hz).1, w6⟩, m8, fun T2 L2 N2 as2 hs2 H7 gT2 lots2 gN2 la2 dr2 hd => ?_⟩
            obtain ⟨a7, r7, P7, l7, B7⟩ := hd
            have I2 := I1.step (m' := at_ + 330) ⟨a7, r7, P7, by omega⟩ B7
            refine ⟨T2, _, rfl, SqT.of gT2, rfl, _, _, rfl, _, rfl, S, _, rfl, DPut.k (k := .inr "between") I2.site (sz _ _ _ _ _ _ _), _, _, rfl, rfl, ?_⟩
            have I3 := I2.between nd gb1 gs1 gh1 lots2 gN2 dr2 mf la2 m8
            have e : putK (sk7 (.ref kn) (.ref pd) vl (.ref b) .non (.ref h) (.ref L)) (.inr "between") (.ref L2) = sk7 (.ref kn) (.ref pd) vl (.ref L2) .non (.ref h) (.ref L) := rfl
            rw [e]
            generalize (upd H7 S (.dK (sk7 (.ref kn) (.ref pd) vl (.ref L2) .non (.ref h) (.ref L)))) = H8 at *
            obtain ⟨a8, r8, P8, l8⟩ := I3.pen
            refine ⟨_, rfl, _, rfl, _, rfl, _, rfl, p, c, ns, a8, r8, N2, fr, hs2, fs, most, rfl, P8, by omega, I3.kn_, I3.fr_, I3.uni, I3.pos, uf, ⟨ws, I3.hin, fun z hz => (mf z hz).1, w6⟩, m8, fun T3 L3 N3 as3 hs3 H9 gT3 lots3 gN3 la3 dr3 hd => ?_⟩
            obtain ⟨a9, r9, P9, l9, B9⟩ := hd
            have I4 := I3.step (m' := at_ + 430) ⟨a9, r9, P9, by omega⟩ B9
            exact ⟨T3, _, ((0 : Nat) : Int), .ref L3, rfl, rfl, SqT.of gT3, atI_nat rfl, _, rfl, S, _, rfl, DPut.k (k := .inr "second") I4.site (sz _ _ _ _ _ _ _), .ref L2, .ref L3, N2, hs2, _, rfl, I4.second nd gh1 lots3 dr3 mf la3 m8, gh1, gl1, (decide_eq_true (by omega)).symm, fun q => absurd q (by omega)⟩
          · have hc : ¬ (1 : Int) < (nl : Int) := fun h => hc (decide_eq_true h)
            obtain ⟨a6, r6, P6, l6⟩ := I1.pen
            exact ⟨.ref b, .non, kk, hs1, g1, rfl, I1.step ⟨a6, r6, P6, by omega⟩ But.refl, gh1, gl1, (by rw [gs1]; exact (decide_eq_false (by omega)).symm), fun _ => gb1⟩
        · rintro σ H18 ⟨vb, vx, kk, hs1, g1, rfl, I1, gh1, gl1, gs1, gb1⟩
          refine ⟨fun σ H' => ∃ vh kk hs g, σ = [some (.ref p), some (.int (nl : Int)), some (.int (most : Int)), some (.ref lw), some (.ref pd), some (.ref kn), some (.ref fr), some (.ref kk), some (.ref S), none] ∧ SiS H H' p c ns (at_ + 530) most kn pd vl vb vx vh (.ref L) S kk fr us l ws fs hs g ∧ Loops nl g, ?_, ?_⟩
          · refine ⟨_, rfl, _, _, rfl, rfl, _, rfl, ite2 (fun hc => ?_) (fun hc => ?_)⟩
            · have hc := of_decide_eq_true hc
              obtain ⟨a6, r6, P6, l6⟩ := I1.pen
              refine ⟨_, rfl, _, rfl, _, rfl, _, rfl, p, c, ns, a6, r6, kk, fr, hs1, fs, most, rfl, P6, by omega, I1.kn_, I1.fr_, I1.uni, I1.pos, uf, ⟨ws, I1.hin, fun z hz => (mf z hz).1, w6⟩, m8, fun T2 L2 N2 as2 hs2 H7 gT2 lots2 gN2 la2 dr2 hd => ?_⟩
              obtain ⟨a7, r7, P7, l7, B7⟩ := hd
              have I2 := I1.step (m' := at_ + 530) ⟨a7, r7, P7, by omega⟩ B7
              exact ⟨T2, _, rfl, SqT.of gT2, rfl, _, _, rfl, _, rfl, S, _, rfl, DPut.k (k := .inr "behind") I2.site (sz _ _ _ _ _ _ _), _, _, rfl, rfl, .ref L2, N2, hs2, _, rfl, I2.behind nd gh1 lots2 gN2 dr2 mf la2 m8, gl1, gs1, gb1, fun q => absurd q (by omega)⟩
            · have hc : ¬ (0 : Int) < (nl : Int) := fun h => hc (decide_eq_true h)
              obtain ⟨a6, r6, P6, l6⟩ := I1.pen
              exact ⟨.ref h, kk, hs1, g1, rfl, I1.step ⟨a6, r6, P6, by omega⟩ But.refl, gl1, gs1, gb1, fun _ => gh1⟩
          · rintro σ H19 ⟨vh, kk, hs1, g1, rfl, I1, lp⟩
            obtain ⟨a6, r6, P6, l6⟩ := I1.pen
            have hs6 : hs1.length ≤ 6 := Nat.le_trans (uniLen I1.uni I1.hin) w6
            refine sdp (lcOf ?_)
            refine ⟨_, rfl, kk, rfl, ⟨_, SqL.of I1.kn_⟩, ?_⟩
            refine lcD I1.kn_ P6 (by omega) (by omega) (fun z G a7 r7 R P7 l7 hR => ⟨_, rfl, p, c, ns, a7, r7, _, rfl, P7, by omega, by decide, by decide, fun e G2 _ _ hd => ⟨rfl, _, rfl, hR _ G2 hd⟩⟩) fun rl rs H20 hr0 gr sbr hd => ?_
            obtain ⟨a20, r20, P20, l20, B20⟩ := hd
            have nr : rl ≠ S := fun e => by rw [e, I1.site] at hr0; cases hr0
            have I2 := I1.step (m' := at_ + 540) ⟨a20, r20, P20, by omega⟩ B20
            refine ⟨_, rfl, S, _, rfl, DPut.k (k := .inr "results") I2.site (sz _ _ _ _ _ _ _), ?_⟩
            have e8 : putK (sk7 (.ref kn) (.ref pd) vl vb vx vh (.ref L)) (.inr "results") (.ref rl) = sk8 (.ref kn) (.ref pd) vl vb vx vh (.ref L) (.ref rl) := rfl
            rw [e8]
            refine ⟨_, rfl, k S ⟨g1, us, l, rs⟩ _ ⟨kn, pd, rl, vl, vb, vx, vh, .ref L, upd_same, (upd_ne (lst_ne I2.gv_ I2.site)).trans I2.gv_, (upd_ne nd).trans I2.ag_, (upd_ne nr).trans gr, I2.pa.putD I2.site, I2.pl.putD I2.site, I2.pb.putD I2.site, I2.px.putD I2.site, I2.ph.putD I2.site⟩ (tolOkG I1 lp uw w6 sbu sb hq m8 sbr) un0 lp I1.len ⟨a20, r20, P20.put (Ne.symm np) (Ne.symm nc), by omega, butPut I2.but hS0⟩⟩
end
end K06

set_option Elab.async false
set_option linter.all false
set_option maxRecDepth 100000
set_option maxHeartbeats 4000000
/-! What the law wants of programs with loops. -/
namespace K06
open PySem L2 NX NU
open PyProof.Rows (sortedS)
theorem PtI.same {H H' : Hp} {v : V} (s : Same H H') : ∀ {o : Option (List Act)}, PtI H v o → PtI H' v o
  | none, h => h
  | some _, ⟨L, e, l, a, b⟩ => ⟨L, e, l.same s, a, b⟩
theorem SiteG.same {H H' : Hp} {S : Addr} {t : Tol} (s : Same H H') (h : SiteG H S t) : SiteG H' S t := by
  obtain ⟨gv, ag, r, vl, vb, vx, vh, vL, e, e1, e2, e6, p1, p2, p3, p4, p5⟩ := h.ex
  exact ⟨gv, ag, r, vl, vb, vx, vh, vL, s _ _ e, s _ _ e1, s _ _ e2, s _ _ e6, p1.same s, p2.same s, p3.same s, p4.same s, p5.same s⟩
theorem SiteG.part {H : Hp} {S : Addr} {t : Tol} (h : SiteG H S t) (ok : t.Ok) {j : Nat} {z : Str} (hz : partN[j]? = some z) : ∃ v, DGet H S (.str z) (some v) ∧ PtI H v (t.g.at j) := by
  obtain ⟨gv, ag, r, vl, vb, vx, vh, vL, e, e1, e2, e6, p1, p2, p3, p4, p5⟩ := h.ex
  match j, hz with
  | 0, hz => cases hz; exact ⟨vL, DGet.k (k := .inr "ahead") e, p1⟩
  | 1, hz => cases hz; exact ⟨vl, DGet.k (k := .inr "loop") e, p2⟩
  | 2, hz => cases hz; exact ⟨vb, DGet.k (k := .inr "between") e, p3⟩
  | 3, hz => cases hz; exact ⟨vx, DGet.k (k := .inr "second") e, p4⟩
  | 4, hz => cases hz; exact ⟨vh, DGet.k (k := .inr "behind") e, p5⟩
  | n + 5, hz => cases hz
def spRlG (K : PySem.W.Frag) (d : D3) (C : Addr) : Sp := fun vs H Q _ => ∃ (S : Addr) (t : Tol), vs = [.ref S] ∧ SiteG H S t ∧ t.Ok ∧ ∀ x H', Same H H' → IsP K d H' x C t → Q (.ref x) H'
section
variable {P : Program} {w : World} {K : PySem.W.Frag} {mg : Str → Option Value} {base : Heap}
theorem ok_rlG {d : D3} {C fP : Addr} {fdP : FuncData} {t0 t1 t2 t3 t4 : Addr} {f : Addr} {fd : FuncData} (F : Fun K "_law_real" "_law_real" sRl f fd) (M : PM P w K mg base d C fP fdP t0 t1 t2 t3 t4) (cOr : C8.Cal P w K mg base 1 "_law_order" spOr []) (cRp : C8.Cal P w K mg base 8 "_law_real_part" (spRp K d) []) : FnOk P w K mg base CX0 9 f fd ["_law_site_here"] (spRlG K d C) := by
  refine F.ok scRl (fun vs H Q E h => ?_) (fun cdv A outer s H vs Q E hr h => ?_)
  · obtain ⟨S, t, rfl, _⟩ := h
    rfl
  · obtain ⟨S, t, rfl, hS, ok, k⟩ := h
    have hu := hu_of hr
    refine ⟨_, (pss_cons (ps_setLc (i := 1) (own := [("_law_part", 3)]) (g := gName 3) rfl scRl.nd rfl rfl (sw_true rfl rfl rfl (by decide +kernel)) (pi_list (pe_c0 cOr hr (by decide) rfl)) (blkOk_by (own := [("_law_part", 3)]) (N := NRl) (sc := defScope sRl) (by decide +kernel)) (fun _ _ _ _ _ => (pg_name (i := 3) scRl.nd rfl (Or.inl rfl))) (fun _ _ _ _ _ => pts_nil) (fun _ _ _ _ _ => (C8.pe_c cRp hr (by decide) rfl (pa_cons (pe_dget hu (pv 0) (pv 3) (fun _ _ => rfl)) pa_nil))))
      (pss_cons (ps_set (i := 2) scRl.nd rfl (Or.inl rfl) (pe_lst (pa_cons (pe_dget hu (pv 0) pe_str (fun _ _ => rfl)) (pa_cons (pe_dget hu (pv 0) pe_str (fun _ _ => rfl)) (pa_cons (pe_dget hu (pv 0) pe_str (fun _ _ => rfl)) pa_nil)))))
      (pss_one (ps_ret (pe_makeK (E := C8.E0) (ks := ["given", "again", "results"]) M.mak M.fn (hr.mono (by decide)) rfl M.g (kb6 M.fd_) pass0 (pa_cons (pe_ix ix_list (pv 1) pe_int (fun _ _ => rfl)) (pa_cons (pe_ix ix_list (pv 1) pe_int (fun _ _ => rfl)) (pa_cons (pe_ix ix_list (pv 1) pe_int (fun _ _ => rfl)) (pa_cons (pe_ix ix_list (pv 1) pe_int (fun _ _ => rfl)) (pa_cons (pe_ix ix_list (pv 1) pe_int (fun _ _ => rfl)) pa_nil))))) (pk_cons (pe_ix ix_list (pv 2) pe_int (fun _ _ => rfl)) (pk_cons (pe_ix ix_list (pv 2) pe_int (fun _ _ => rfl)) (pk_cons (pe_ix ix_list (pv 2) pe_int (fun _ _ => rfl)) pk_nil)))))))), ?_⟩
    refine ⟨rfl, fun o H1 s1 ho go => ?_⟩
    refine ⟨o, rfl, ⟨_, SqL.of go⟩, fun D hD => ?_⟩
    have hS1 := hS.same s1
    have n1 : o ≠ D := ne_of_none go hD
    refine lc_list (xs := partN.map V.str) (fun j H' => Same H1 H' ∧ ∃ vs : List V, H' D = some (.lst vs) ∧ vs.length = j ∧ ∀ i v, vs[i]? = some v → PL d H' D v (t.g.at i)) ⟨Same.new hD, [], upd_same, rfl, nofun⟩ (fun j H' _ z => SqL.of (z.1 _ _ go)) ?_ ?_
    · rintro j y H2 hy ⟨s2, vs, gD, lv, hv⟩
      rw [List.getElem?_map] at hy
      obtain ⟨z, hz, rfl⟩ := Option.map_eq_some_iff.mp hy
      have j5 := (partF hz).1
      obtain ⟨v, dg, pi⟩ := (hS1.same s2).part ok hz
      refine ⟨rfl, ?_⟩
      unfold tYes
      dsimp only
      rw [if_pos rfl]
      refine ⟨_, rfl, _, rfl, S, v, rfl, dg, v, _, rfl, pi, fun v' H3 s3 pr => ?_⟩
      have gD3 := s3 _ _ gD
      have B : But D H3 (upd H3 D (.lst (vs ++ [v']))) := fun b u e n => (upd_ne n).trans e
      refine ⟨_, gD3, by rw [lv]; exact Nat.lt_trans j5 (by decide), sameUpd (s2.trans s3) hD, vs ++ [v'], upd_same, by rw [List.length_append, lv]; rfl, fun i x e => ?_⟩
      by_cases hi : i < vs.length
      · rw [List.getElem?_append_left hi] at e
        exact ((hv i x e).but gD (But.same s3)).but gD3 B
      · obtain ⟨q, rfl⟩ : ∃ q, i = vs.length + q := ⟨i - vs.length, by omega⟩
        rw [List.getElem?_append_right (by omega), Nat.add_sub_cancel_left] at e
        cases q with
        | zero =>
          cases e
          rw [Nat.add_zero, lv]
          exact (pr.pl gD).but gD3 B
        | succ q => cases e
    · rintro H2 ⟨s2, vs, gD, lv, hv⟩
      have lv : vs.length = 5 := lv
      obtain ⟨v0, v1, v2, v3, v4, rfl⟩ : ∃ v0 v1 v2 v3 v4, vs = [v0, v1, v2, v3, v4] := by
        match vs, lv with
        | [v0, v1, v2, v3, v4], _ => exact ⟨v0, v1, v2, v3, v4, rfl⟩
      have hS2 := hS1.same s2
      have s2 := s1.trans s2
      obtain ⟨gv, ag, r, vl, vb, vx, vh, vL, e, e1, e2, e6, _⟩ := hS2.ex
      refine ⟨_, rfl, S, _, rfl, DGet.k (k := .inr "given") e, _, rfl, S, _, rfl, DGet.k (k := .inr "again") e, _, rfl, S, _, rfl, DGet.k (k := .inr "results") e, by show 3 ≤ sizeLine; decide, fun w hw => ?_⟩
      have s3 := Same.new (o := .lst [.ref gv, .ref ag, .ref r]) hw
      have gw : (upd H2 w (.lst [.ref gv, .ref ag, .ref r])) w = some (.lst [.ref gv, .ref ag, .ref r]) := upd_same
      have hv : ∀ i v, ([v0, v1, v2, v3, v4] : List V)[i]? = some v → InO K d _ v (t.g.at i) := fun i v e => ((hv i v e).but gD (But.same s3)).inO (K := K)
      have gD := s3 _ _ gD
      have e1 := s3 _ _ e1
      have e2 : AgD _ ag t.ag := s3 _ _ e2
      have e6 := s3 _ _ e6
      have s2 := s2.trans s3
      have P0 : InA K d _ v0 t.g.a := hv 0 v0 rfl
      have P1 : InO K d _ v1 t.g.l := hv 1 v1 rfl
      have P2 : InA K d _ v2 t.g.b := hv 2 v2 rfl
      have P3 : InO K d _ v3 t.g.s := hv 3 v3 rfl
      have P4 : InA K d _ v4 t.g.h := hv 4 v4 rfl
      clear hv
      generalize (upd H2 w (.lst [.ref gv, .ref ag, .ref r])) = H3 at *
      refine ⟨_, rfl, D, _, ((0 : Nat) : Int), _, rfl, rfl, SqL.of gD, atI_nat rfl, _, rfl, D, _, ((1 : Nat) : Int), _, rfl, rfl, SqL.of gD, atI_nat rfl, _, rfl, D, _, ((2 : Nat) : Int), _, rfl, rfl, SqL.of gD, atI_nat rfl, _, rfl, D, _, ((3 : Nat) : Int), _, rfl, rfl, SqL.of gD, atI_nat rfl, _, rfl, D, _, ((4 : Nat) : Int), _, rfl, rfl, SqL.of gD, atI_nat rfl, ?_⟩
      refine ⟨_, rfl, w, _, ((0 : Nat) : Int), _, rfl, rfl, SqL.of gw, atI_nat rfl, _, rfl, w, _, ((1 : Nat) : Int), _, rfl, rfl, SqL.of gw, atI_nat rfl, _, rfl, w, _, ((2 : Nat) : Int), _, rfl, rfl, SqL.of gw, atI_nat rfl, ?_⟩
      refine ⟨rfl, rfl, fun x dx h1 h2 h3 => ?_⟩
      have sm := made2 (C := C) h1 h2 h3
      exact ⟨x, C, dx, v0, v1, v2, v3, v4, .ref gv, .ref ag, .ref r, t, rfl, upd_same, M.cls, ⟨P0.same sm, P1.same sm, P2.same sm, P3.same sm, P4.same sm, ⟨gv, rfl, .inl (SqL.of (sm _ _ e1))⟩, .inr ⟨ag, rfl, sm _ _ e2⟩, ⟨r, rfl, .inl (SqL.of (sm _ _ e6))⟩⟩, ok, fun H' bt ip => ⟨rfl, k x H' (s2.trans fun b o e => bt b o (fun z => by rw [z, h1] at e; cases e) (sm _ _ e)) ip⟩⟩
end
end K06

set_option Elab.async false
set_option linter.all false
set_option maxRecDepth 100000
set_option maxHeartbeats 4000000
/-! Rules of my own: two dicts whose values are compared by own equalities; x ** n by an own method. -/
namespace NZ
open PySem PySem.W PyProof.Rows PySem.Spec
section
variable {prog : Program} {w : World} {T : Type} [DecidableEq T] {knd : KeyKind prog w T} {A : Around} {E : Value → Shared → Prop} {s : Shared}
/-- the pairs of two dicts, whatever the == of two values makes on the way -/
theorem pairs_grow {nm : String} {a b : Addr} {ks ls : List (T × Value)} {Q : Bool → Shared → Prop} (J : Nat → Shared → Prop) (na : (a == sysModules) = false) (nb : (b == sysModules) = false)
    (Da : s.heap.DictOf knd a ks) (Db : s.heap.DictOf knd b ls) (len : ks.length = ls.length) (stay : ∀ i s', J i s' → s'.heap.get? a = s.heap.get? a ∧ s'.heap.get? b = s.heap.get? b)
    (turn : ∀ (i : Nat) (s' : Shared) (k : T) (v : Value), J i s' → ks[i]? = some (k, v) → ∃ y, valueAt ls k = some y ∧ wpAny (model prog w) A (eqBool v y) (fun r s2 => r = true ∧ J (i + 1) s2) E s')
    (start : J 0 s) (fin : ∀ s', J ks.length s' → Q true s') : wpAny (model prog w) A (Builtin.Dict.samePairs nm a b) Q E s := by
  obtain ⟨oa, ea, pa, ga, _, ta, ca, qa, _⟩ := Da
  obtain ⟨ob, eb, pb, gb, _, tb, cb, qb, _⟩ := Db
  have za : ks.length = ea.size := by
    have z := qa.length
    rw [Array.length_toList] at z
    exact z.symm
  have zb : ls.length = eb.size := by
    have z := qb.length
    rw [Array.length_toList] at z
    exact z.symm
  have same : ea.size = eb.size := by omega
  have look : ∀ k, findBy knd.is eb k = valueAt ls k := fun k => by
    rw [← qb.find k]
    clear zb same qb cb tb gb
    obtain ⟨l⟩ := eb
    simp [findBy]
  have at_a : ∀ {i s'}, J i s' → s'.heap.get? a = some oa := fun h => (stay _ _ h).1.trans ga
  have at_b : ∀ {i s'}, J i s' → s'.heap.get? b = some ob := fun h => (stay _ _ h).2.trans gb
  unfold Builtin.Dict.samePairs Builtin.Dict.showsAll
  rw [if_neg (by rw [na]; exact Bool.false_ne_true), if_neg (by rw [nb]; exact Bool.false_ne_true)]
  refine wpAny_bind (wpAny_pure (wpAny_bind (wpAny_pure (wpAny_bind (wpAny_dictEntries ga ta ?_)))))
  dsimp only
  refine wpAny_bind (wpAny_dictEntries gb tb ?_)
  rw [if_neg (by rw [same]; simp)]
  refine wpAny_bind (wpAny_dictEpoch ga ta (wpAny_bind ?_))
  rw [Std.Legacy.Range.forIn_eq_forIn_range']
  simp only [Std.Legacy.Range.size, Nat.sub_zero, Nat.add_sub_cancel, Nat.div_one]
  refine wpAny_forIn_list _ (fun rest q s' => q = (none, ()) ∧ ∃ i, rest = List.range' i (ea.size - i) ∧ i ≤ ea.size ∧ J i s') _ ?_ ?_ _ _ ⟨rfl, 0, by simp, Nat.zero_le _, start⟩
  · rintro x rest q s' ⟨rfl, i, er, hi, hJ⟩
    have lt : i < ea.size := by
      by_cases c : i < ea.size
      · exact c
      · rw [show ea.size - i = 0 by omega] at er
        simp at er
    have two : x = i ∧ rest = List.range' (i + 1) (ea.size - (i + 1)) := by
      rw [show ea.size - i = (ea.size - (i + 1)) + 1 by omega, List.range'_succ] at er
      exact ⟨(List.cons.inj er).1, (List.cons.inj er).2⟩
    obtain ⟨rfl, er2⟩ := two
    refine wpAny_bind (wpAny_dictEntries (at_a hJ) ta ?_)
    rw [Array.getElem?_eq_getElem lt]
    have lt2 : x < ks.length := by rw [za]; exact lt
    obtain ⟨k, v, kv⟩ : ∃ k v, ks[x] = (k, v) := ⟨_, _, rfl⟩
    have gk : ks[x]? = some (k, v) := by rw [List.getElem?_eq_getElem lt2, kv]
    obtain ⟨h1, h2⟩ := qa.get? (i := x) (e := ea[x]) (k := k) (v := v) (by rw [Array.getElem?_toList]; exact Array.getElem?_eq_getElem lt) gk
    obtain ⟨k', h3, h4⟩ := ca ea[x] (Array.getElem_mem lt)
    rw [knd.inj _ _ _ h3 h1] at h4
    obtain ⟨y, gy, wy⟩ := turn x s' k v hJ gk
    show wpAny _ _ (holding [ea[x].key, ea[x].val] _ >>= _) _ _ _
    rw [h4]
    refine wpAny_bind (wpAny_holding (wpAny_bind (wpAny_dictFind_of h1 (at_b hJ) tb cb ?_)))
    cases ej : eb.findIdx? fun e => knd.is k e.key with
    | none =>
      exfalso
      have z : valueAt ls k = none := by rw [← look k, findBy_of_findIdx?, ej]
      rw [gy] at z
      cases z
    | some j =>
      obtain ⟨lj, _, _⟩ := Array.findIdx?_eq_some_iff_getElem.mp ej
      have ey : eb[j].val = y := by
        have z : valueAt ls k = some eb[j].val := by
          rw [← look k, findBy_of_findIdx?, ej]
          simp [Array.getElem?_eq_getElem lj]
        rw [gy] at z
        exact (Option.some.inj z).symm
      refine wpAny_bind (wpAny_dictEntries (at_b hJ) tb ?_)
      rw [Array.getElem?_eq_getElem lj]
      rw [← ey, ← h2] at wy
      refine wpAny_holding (wpAny_mono wy (fun r s2 hr => ?_) fun _ _ z => z)
      obtain ⟨rfl, hJ2⟩ := hr
      show wpAny _ _ (if (!true) = true then _ else _) _ _ _
      rw [if_neg (by decide)]
      refine wpAny_bind (wpAny_dictEpoch (at_a hJ2) ta ?_)
      rw [if_neg (by simp)]
      exact wpAny_pure ⟨rfl, x + 1, er2, lt, hJ2⟩
  · rintro q s' ⟨rfl, i, er, hi, hJ⟩
    have e : i = ks.length := by
      by_cases c : i < ea.size
      · rw [show ea.size - i = (ea.size - (i + 1)) + 1 by omega, List.range'_succ] at er
        cases er
      · omega
    refine wpAny_pure ?_
    rw [e] at hJ
    exact fin s' hJ
/-- a == b of two dicts -/
theorem dicts_grow {a b : Addr} {ks ls : List (T × Value)} {Q : Value → Shared → Prop} (J : Nat → Shared → Prop) (na : (a == sysModules) = false) (nb : (b == sysModules) = false)
    (Da : s.heap.DictOf knd a ks) (Db : s.heap.DictOf knd b ls) (len : ks.length = ls.length) (hu : A.units < cLine) (stay : ∀ i s', J i s' → s'.heap.get? a = s.heap.get? a ∧ s'.heap.get? b = s.heap.get? b)
    (turn : ∀ (i : Nat) (s' : Shared) (k : T) (v : Value), J i s' → ks[i]? = some (k, v) → ∃ y, valueAt ls k = some y ∧ wpAny (model prog w) A.in1 (eqBool v y) (fun r s2 => r = true ∧ J (i + 1) s2) E s')
    (start : J 0 s) (fin : ∀ s', J ks.length s' → Q (.bool true) s') : wpAny (model prog w) A (richCompare .Eq (.ref a) (.ref b)) Q E s := by
  have ra := Da.typeIs
  have rb := Db.typeIs
  refine wpAny_richCompare_same_room (op := .Eq) ra rb PySem.F.slot_dict_eq (wpAny_call_entry PySem.F.slot_dict_eq ra PySem.F.entry_dict_eq ?_ (PySem.F.args_dict_eq_2 _ _)) hu
  show wpAny _ _ (Builtin.Dict.dictSlotArgs "__eq__" ⟨[.ref a, .ref b], []⟩ >>= _) _ _ s
  unfold Builtin.Dict.dictSlotArgs
  refine wpAny_bind (wpAny_bind (wpAny_notOrdered_dict ra (wpAny_pure ?_)))
  refine wpAny_bind (wpAny_isInstance (T := "dict") rb PySem.F.sub_dict_dict ?_)
  rw [if_neg (show ¬ (!true) = true by decide)]
  refine wpAny_bind (wpAny_pure (wpAny_bind (wpAny_pure (wpAny_bind ?_))))
  refine pairs_grow J na nb Da Db len stay turn start fun s' h => wpAny_pure ⟨_, rfl, nofun, ?_⟩
  exact fin s' h
end
end NZ
namespace NZ
open PySem PySem.Spec PyProof.Rows L2
/-- all but dicts stays as it was -/
def KDn (H H' : Hp) : Prop := ∀ b o, H b = some o → (∀ ys, o ≠ .dK ys) → H' b = some o
/-- D asks nothing of dicts -/
def MonK (D : Eqv) : Prop := ∀ x y H H', KDn H H' → D x y H → D x y H'
theorem MonK.mon {D : Eqv} (h : MonK D) : Mon D := fun x y H H' e d => h x y H H' (fun b o q _ => e b o q) d
def DDict (D : Eqv) : Eqv := fun x y H => ∃ a b ks ls, x = .ref a ∧ y = .ref b ∧ H a = some (.dK ks) ∧ H b = some (.dK ls) ∧ ks.length = ls.length ∧ ∀ (i : Nat) k u, ks[i]? = some (k, u) → ∃ v, valV ls k = some v ∧ D u v H
theorem kv_at {κ : Type} {ks : List (κ × V)} {vs : List (κ × Value)} (r : KV ks vs) : ∀ {i : Nat} {k : κ} {v : Value}, vs[i]? = some (k, v) → ∃ u, ks[i]? = some (k, u) ∧ RelV u v := by
  unfold KV at r
  induction r with
  | nil => intro i k v e; cases e
  | @cons p q ps qs h t ih =>
    intro i k v e
    cases i with
    | zero =>
      cases e
      exact ⟨p.2, by rw [← (show p.1 = k from h.1)]; rfl, h.2⟩
    | succ i => exact ih e
section
variable {X : Cx} {n : Nat} {D : Eqv}
/-- both dicts are held while their values are compared -/
theorem hold_two {pins : List (Addr × Obj)} {s : Shared} {σ : L2.St} {H : Hp} {a b : Addr} {ks ls : List (Key × V)} (I : Inv X pins σ H s) (ea : H a = some (.dK ks)) (eb : H b = some (.dK ls)) :
    ∃ (H1 : Hp) (oa ob : Obj), Inv X pins σ H1 s ∧ H1 a = some (.frz oa (.dK ks)) ∧ H1 b = some (.frz ob (.dK ls)) ∧ KDn H H1 ∧ ∀ H2 s2, Inv X pins σ H2 s2 → Ext H1 H2 → ∃ H3, Inv X pins σ H3 s2 ∧ Ext H H3 := by
  obtain ⟨oa, I1⟩ := I.lock ea trivial
  have fa := I.nofrz ea trivial
  have k1 : KDn H (upd H a (.frz oa (.dK ks))) := fun c o e nk => (upd_ne (fun z => by rw [z, ea] at e; exact nk _ (Option.some.inj e).symm)).trans e
  by_cases ab : b = a
  · subst ab
    rw [ea] at eb
    cases eb
    refine ⟨_, oa, oa, I1, upd_same, upd_same, k1, fun H2 s2 I2 e2 => ?_⟩
    have g := e2 b _ upd_same
    refine ⟨_, I2.unlock g fa, fun c o e => ?_⟩
    by_cases hc : c = b
    · rw [hc, upd_same]
      rw [hc, ea] at e
      exact e
    · rw [upd_ne hc]
      exact e2 c o ((upd_ne hc).trans e)
  · have eb1 : (upd H a (.frz oa (.dK ks))) b = some (.dK ls) := (upd_ne ab).trans eb
    obtain ⟨ob, I3⟩ := I1.lock eb1 trivial
    have fb := I1.nofrz eb1 trivial
    refine ⟨_, oa, ob, I3, (upd_ne (Ne.symm ab)).trans upd_same, upd_same, fun c o e nk => (upd_ne (fun z => by rw [z, eb] at e; exact nk _ (Option.some.inj e).symm)).trans (k1 c o e nk), fun H2 s2 I2 e2 => ?_⟩
    have ga := e2 a _ ((upd_ne (Ne.symm ab)).trans upd_same)
    have gb := e2 b _ upd_same
    have I4 := I2.unlock gb fb
    refine ⟨_, I4.unlock ((upd_ne (Ne.symm ab)).trans ga) fa, fun c o e => ?_⟩
    by_cases hc : c = a
    · rw [hc, upd_same]
      rw [hc, ea] at e
      exact e
    · rw [upd_ne hc]
      by_cases hd : c = b
      · rw [hd, upd_same]
        rw [hd, eb] at e
        exact e
      · rw [upd_ne hd]
        exact e2 c o ((upd_ne hd).trans ((upd_ne hc).trans e))
theorem rcG_dict (hD : MonK D) (h : EqG X n D) : RcG X (n + 1) (DDict D) := by
  intro A pins s σ H x y u v sb I rx ry d
  obtain ⟨a, b, ks, ls, rfl, rfl, ea, eb, len, each⟩ := d
  cases rx
  cases ry
  obtain ⟨_, na, va, ra, da⟩ := (show ObjOk X.prog X.w H s.heap a (.dK ks) from I.hok a _ ea)
  obtain ⟨_, nb, vb, rb, db⟩ := (show ObjOk X.prog X.w H s.heap b (.dK ls) from I.hok b _ eb)
  have lv : va.length = vb.length := by rw [← Paired.length ra, ← Paired.length rb]; exact len
  obtain ⟨H1, oa, ob, I1, fa, fb, kd, back⟩ := hold_two I ea eb
  have at1 : ∀ {H' : Hp} {s' : Shared}, Inv X pins σ H' s' → Ext H1 H' → s'.heap.get? a = some oa ∧ s'.heap.get? b = some ob := fun I' e => ⟨(I'.frzK (e _ _ fa)).2.1, (I'.frzK (e _ _ fb)).2.1⟩
  have at0 := at1 I1 Ext.rfl'
  refine dicts_grow (fun _ s' => ∃ H', Inv X pins σ H' s' ∧ Ext H1 H') na nb da db lv sb.room.units0 (fun i s' hJ => ?_) (fun i s' k v hJ gv => ?_) ⟨H1, I1, Ext.rfl'⟩ (fun s' hJ => ?_)
  · obtain ⟨H', I', e⟩ := hJ
    have z := at1 I' e
    exact ⟨z.1.trans at0.1.symm, z.2.trans at0.2.symm⟩
  · obtain ⟨H', I', e⟩ := hJ
    obtain ⟨u, gu, ru⟩ := kv_at ra gv
    obtain ⟨u2, gu2, dd⟩ := each i k u gu
    have rr : RelO (some u2) (valueAt vb k) := by rw [← gu2]; exact rb.val k
    obtain ⟨y, gy, ry⟩ := rr.some_of
    refine ⟨y, gy, wpAny_mono (h A.in1 pins s' σ H' u u2 v y sb.in1 I' ru ry (hD _ _ _ _ (fun c o q nk => e c o (kd c o q nk)) dd)) (fun r s2 hr => ?_) fun _ _ z => z⟩
    obtain ⟨r1, H2, I2, e2⟩ := hr
    exact ⟨r1, H2, I2, e.trans e2⟩
  · obtain ⟨H', I', e⟩ := hJ
    obtain ⟨H3, I3, e3⟩ := back H' s' I' e
    exact ⟨rfl, H3, I3, e3⟩
theorem eqG_dict (hD : MonK D) (h : EqG X n D) : EqG X (n + 1) (DDict D) := (rcG_dict hD h).eqG fun _ _ _ d => let ⟨a, b, _, _, hx, hy, _⟩ := d; ⟨a, b, hx, hy⟩
end
/-! x ** n -/
section
variable {X : Cx} {n : Nat} {f : Addr} {fd : FuncData} {ps : List Str} {sp : Sp} {CX : CXT} {E : XK}
/-- the class at C has an own ** -/
structure PowC (K : PySem.W.Frag) (C f : Addr) : Prop where
  fst : PySem.W.selfFirst K C = true
  p : PySem.W.findIn K (.ref C) "__pow__" = some (some (.ref f))
  fn : PySem.W.isFn K (.ref f) = true
  r : PySem.W.findIn K (.ref C) "__rpow__" = some none
  i1 : ∃ o, PySem.W.findIn K (.type "int") "__pow__" = some o
  i2 : ∃ o, PySem.W.findIn K (.type "int") "__rpow__" = some o
  sub : PySem.W.subIn K (.type "int") (.ref C) = some false
def rPow (K : PySem.W.Frag) (f : Addr) (sp : Sp) (E : XK) : R2 := fun x y H Q => ∃ (a C dx : Addr) (fs : List (Str × V)) (k : Int), x = .ref a ∧ y = .int k ∧ H a = some (.ins C dx fs) ∧ PowC K C f ∧ sp [x, y] H (fun v H' => ∃ q, v = .ref q ∧ Q v H') E
theorem op_pow (F : FnOk X.prog X.w X.K X.mg X.base CX n f fd ps sp) (hb : Binds X.K fd ps []) (hx : Passes CX X E) (hr : Room n X.A) : OpR X (binaryOp .Pow) (rPow X.K f sp E) := by
  intro pins s σ H x y u v Q I rx ry h
  obtain ⟨a, C, dx, fs, k, rfl, rfl, ha, T, q⟩ := h
  obtain rfl : u = Value.ref a := rx
  obtain ⟨t, ev⟩ := ry
  obtain ⟨mA, O, _⟩ := ins_get I.hok ha
  obtain ⟨od, J, _⟩ := O.look
  obtain ⟨m, fr⟩ := I.fr
  obtain ⟨o1, h1⟩ := T.i1
  obtain ⟨o2, h2⟩ := T.i2
  have ty : typeOf v = pure (.type "int") := by rw [ev]; rfl
  refine PySem.W.ksp_binT (op := .Pow) fr I.ok.mod.kin J ty T.fst T.p T.fn T.r (.inl rfl) h1 h2 T.sub ?_
  refine wpAny_mono (NX.run_own (x := .ref a) (y := .int k) F hb hx ⟨hr, rfl⟩ I rfl ⟨t, ev⟩ q) (fun r s' hq => ?_) fun _ _ z => z
  obtain ⟨w, H', I', rw', b, rfl, q'⟩ := hq
  obtain rfl : r = Value.ref b := rw'
  exact ⟨.ref b, H', I', rfl, q'⟩
end
end NZ

set_option Elab.async false
set_option linter.all false
set_option maxRecDepth 100000
set_option maxHeartbeats 4000000
/-! Rules of my own: a tuple times none, or once. -/
namespace NZ
open PySem PySem.Spec PyProof.Rows L2
open AutoSeq1 (wpAny_loadPart')
theorem times_one (l : Addr) (items : Array Value) (n : Nat) (dd : Option Addr) (sl : Array (Option Value)) (u : Tok) :
    Meets (Builtin.«tuple.__mul__» ⟨[.ref l, .int 1 u], []⟩) (fun _ R s => s.heap.get? l = some { cls := .type "tuple", dict := dd, data := .seq items n, slots := sl } ∧ R (.ok (.ret (Value.ref l))) s) :=
  .of_wp fun prog w A R s h => by
    obtain ⟨hp, g, d, tk, os⟩ := s
    obtain ⟨at_, fin⟩ := h
    have f1 := AutoSeq1.idx_int
    wp_walk using wpAny_loadPart' at_
    repeat (first
      | (refine wpAny_ite_true (by simp) ?_; wp_walk using wpAny_loadPart' at_)
      | (refine wpAny_ite_false (by decide) ?_; wp_walk using wpAny_loadPart' at_))
    exact ⟨_, rfl, fin⟩
theorem times_none (l : Addr) (items : Array Value) (n : Nat) (dd : Option Addr) (sl : Array (Option Value)) (u : Tok) (ne : items.isEmpty = false) :
    Meets (Builtin.«tuple.__mul__» ⟨[.ref l, .int 0 u], []⟩) (fun _ R s => s.heap.get? l = some { cls := .type "tuple", dict := dd, data := .seq items n, slots := sl } ∧
      R (.ok (.ret (Value.ref s.heap.objs.size))) { s with heap := s.heap.push { cls := Value.type "tuple", data := Data.seq #[] }, toks := s.toks }) :=
  .of_wp fun prog w A R s h => by
    obtain ⟨hp, g, d, tk, os⟩ := s
    obtain ⟨at_, fin⟩ := h
    have f1 := AutoSeq1.idx_int
    have no : (items.isEmpty || (0 : Int) == 1) = false := by rw [ne]; rfl
    wp_walk using wpAny_loadPart' at_
    repeat (first
      | (refine wpAny_ite_false (decide_eq_false (by rw [no]; exact Bool.false_ne_true)) ?_; wp_walk using wpAny_loadPart' at_)
      | (refine wpAny_ite_true (by simp) ?_; wp_walk using wpAny_loadPart' at_)
      | (refine wpAny_ite_false (by decide) ?_; wp_walk using wpAny_loadPart' at_))
    exact ⟨_, rfl, fin⟩
/-- a tuple that is not empty, times any number that is not negative -/
def rRepA (K : PySem.W.Frag) : R2 := fun x y H Q => ∃ l k xs, x = .ref l ∧ y = .int k ∧ SqT K H l xs ∧ xs ≠ [] ∧ 0 ≤ k ∧ k ≤ 1000 ∧ xs.length ≤ 1000 ∧ (k = 1 → Q (.ref l) H) ∧ (k ≠ 1 → ∀ p, H p = none → Q (.ref p) (upd H p (.tup (List.replicate k.toNat xs).flatten)))
section
variable {X : Cx}
theorem op_repA : OpR X (binaryOp .Mult) (rRepA X.K) := by
  intro pins s σ H x y v u Q I rx ry h
  obtain ⟨l, k, xs, rfl, rfl, hT, ne, k0, k1, few, q1, q2⟩ := h
  by_cases big : 2 ≤ k
  · exact op_repT pins s σ H (.ref l) (.int k) v u Q I rx ry ⟨l, k, xs, rfl, rfl, hT, ne, big, k1, few, q2 (by omega)⟩
  · cases rx
    obtain ⟨t, rfl⟩ := ry
    obtain ⟨its, r, ⟨⟨cls, dd, data, sl⟩, ho, hc, n, hd⟩, hs⟩ := I.tuple hT
    simp only at hc hd
    subst hc hd
    have full : its ≠ [] := fun e => ne (List.eq_nil_of_length_eq_zero (by rw [r.length, e]; rfl))
    have some_ : its.toArray.isEmpty = false := by
      cases its with
      | nil => exact absurd rfl full
      | cons a b => rfl
    rcases (show k = 0 ∨ k = 1 by omega) with rfl | rfl
    · refine wpAny_binaryOp_repeat_ref (T := "tuple") (U := "int") (by decide) ⟨_, ho, rfl⟩ (fun s' => typeIs_int s' 0 t) noFill_tuple_mul F.fills_int_mul F.slot_int_rmul repeat_tuple F.slot_int_index.lookup
        (call_meets F.slot_int_rmul (typeIs_int s 0 t) F.entry_int_rmul (F.args_int_rmul_2 _ _) (int_rmul_tuple 0 t l its.toArray n dd sl)
          ⟨ho, rfl, ⟨_, ho, rfl⟩, call_meets F.slot_tuple_mul ⟨_, ho, rfl⟩ F.entry_tuple_mul (F.args_tuple_mul_2 _ _) (times_none l its.toArray n dd sl t some_) ⟨ho, ?_⟩⟩)
      refine ⟨.ref s.heap.objs.size, _, I.laid (t' := s.toks) (o := .tup (List.replicate (0 : Int).toNat xs).flatten) (fun b ob q => Heap.get?_push_of_some _ q) (Nat.le_refl _) ?_, rfl, q2 (by decide) _ (I.hok.fresh (Nat.le_refl _))⟩
      exact ⟨by show 0 ≤ sizeLine; exact Nat.zero_le _, [], .nil, IsTup.new _ _⟩
    · refine wpAny_binaryOp_repeat_ref (T := "tuple") (U := "int") (by decide) ⟨_, ho, rfl⟩ (fun s' => typeIs_int s' 1 t) noFill_tuple_mul F.fills_int_mul F.slot_int_rmul repeat_tuple F.slot_int_index.lookup
        (call_meets F.slot_int_rmul (typeIs_int s 1 t) F.entry_int_rmul (F.args_int_rmul_2 _ _) (int_rmul_tuple 1 t l its.toArray n dd sl)
          ⟨ho, rfl, ⟨_, ho, rfl⟩, call_meets F.slot_tuple_mul ⟨_, ho, rfl⟩ F.entry_tuple_mul (F.args_tuple_mul_2 _ _) (times_one l its.toArray n dd sl t) ⟨ho, ?_⟩⟩)
      exact ⟨.ref l, H, I, rfl, q1 rfl⟩
end
end NZ

set_option Elab.async false
set_option linter.all false
set_option maxRecDepth 100000
set_option maxHeartbeats 4000000
/-! A program's properties. -/
namespace K06
open PySem L2 NX NU
open PyProof.Rows (sortedS)
abbrev sPt (i : Nat) : Stmt := inClass (top 65) (i + 1)
theorem scP0 : FnScope ["self"] ["self"] (defScope (sPt 0)) := ⟨rfl, rfl, rfl, by decide +kernel, rfl, by decide +kernel, by decide +kernel⟩
theorem scP1 : FnScope ["self"] ["self"] (defScope (sPt 1)) := ⟨rfl, rfl, rfl, by decide +kernel, rfl, by decide +kernel, by decide +kernel⟩
theorem scP2 : FnScope ["self"] ["self"] (defScope (sPt 2)) := ⟨rfl, rfl, rfl, by decide +kernel, rfl, by decide +kernel, by decide +kernel⟩
theorem scP3 : FnScope ["self"] ["self"] (defScope (sPt 3)) := ⟨rfl, rfl, rfl, by decide +kernel, rfl, by decide +kernel, by decide +kernel⟩
theorem scP4 : FnScope ["self"] ["self"] (defScope (sPt 4)) := ⟨rfl, rfl, rfl, by decide +kernel, rfl, by decide +kernel, by decide +kernel⟩
theorem scP5 : FnScope ["self"] ["self"] (defScope (sPt 5)) := ⟨rfl, rfl, rfl, by decide +kernel, rfl, by decide +kernel, by decide +kernel⟩
theorem scP6 : FnScope ["self"] ["self"] (defScope (sPt 6)) := ⟨rfl, rfl, rfl, by decide +kernel, rfl, by decide +kernel, by decide +kernel⟩
theorem scP7 : FnScope ["self"] ["self"] (defScope (sPt 7)) := ⟨rfl, rfl, rfl, by decide +kernel, rfl, by decide +kernel, by decide +kernel⟩
theorem scP8 : FnScope ["self"] ["self"] (defScope (sPt 8)) := ⟨rfl, rfl, rfl, by decide +kernel, rfl, by decide +kernel, by decide +kernel⟩
theorem scP9 : FnScope ["self", "part"] ["self"] (defScope (sPt 9)) := ⟨rfl, rfl, rfl, by decide +kernel, rfl, by decide +kernel, by decide +kernel⟩
/-- a property of the class at C -/
structure Gt (P : Program) (w : World) (K : PySem.W.Frag) (mg : Str → Option Value) (base : Heap) (C : Addr) (f : Str) (sp : Sp) : Prop where
  ex : ∃ (p g : Addr) (fd : FuncData), PropOf K C f p g ∧ FnOk P w K mg base CX0 1 g fd ["self"] sp ∧ Binds K fd ["self"] []
def spPt (K : PySem.W.Frag) (d : D3) (C : Addr) (i : Nat) : Sp := fun vs H Q _ => ∃ (x : Addr) (t : Tol), vs = [.ref x] ∧ IsP K d H x C t ∧ ∀ v, PartA K d H v (t.g.at i) → Q v H
def spTg (K : PySem.W.Frag) (d : D3) (C : Addr) (sel : Tol → List Str) : Sp := fun vs H Q _ => ∃ (x : Addr) (t : Tol), vs = [.ref x] ∧ IsP K d H x C t ∧ ∀ q ns, H q = some (.tup (ns.map V.str)) → Asc ns (sel t) → Q (.ref q) H
def spAgn (K : PySem.W.Frag) (d : D3) (C : Addr) : Sp := fun vs H Q _ => ∃ (x : Addr) (t : Tol), vs = [.ref x] ∧ IsP K d H x C t ∧ ∀ a, H a = none → Q (.ref a) (upd H a (.dK (agK t.ag)))
def Tol.loops (t : Tol) : Nat := (if t.g.l.isSome then 1 else 0) + if t.g.s.isSome then 1 else 0
def spLps (K : PySem.W.Frag) (d : D3) (C : Addr) : Sp := fun vs H Q _ => ∃ (x : Addr) (t : Tol), vs = [.ref x] ∧ IsP K d H x C t ∧ ∀ H', Same H H' → Q (.int (t.loops : Nat)) H'
section
variable {P : Program} {w : World} {K : PySem.W.Frag} {mg : Str → Option Value} {base : Heap}
theorem retA {te : TE} {D : L2.Ends} {σ : L2.St} {H : Hp} (h : te σ H D.rt) : tRet te D σ H := h
/-- the loops that are there, the first i words asked -/
def Tol.upl (t : Tol) : Nat → Nat
  | 0 => 0
  | 1 => if t.g.l.isSome then 1 else 0
  | _ => t.loops
theorem ok_p0 {d : D3} {C : Addr} {f : Addr} {fd : FuncData} (F : Fun K "ahead" "Program.ahead" (sPt 0) f fd) (pc : PCls K C) : FnOk P w K mg base CX0 1 f fd ["self"] (spPt K d C 0) := by
  refine F.ok scP0 (fun vs H Q E h => ?_) (fun cdv A outer s H vs Q E hr h => ?_)
  · obtain ⟨x, t, rfl, _⟩ := h
    rfl
  · obtain ⟨x, t, rfl, ip, k⟩ := h
    obtain ⟨dx, nt, Pd, gt, ag, rt, ns, gs, rs, a, b, c, _⟩ := ip.ex
    obtain ⟨v, g, pa⟩ := c.get 0 (z := "ahead") rfl
    exact ⟨_, pss_one (ps_ret (pe_dget (hu_of hr) (pe_fld (pv 0) rfl) pe_str (fun _ _ => rfl))), _, rfl, x, C, dx, _, _, rfl, a, pc.cl, pc.n2, rfl, Pd, v, rfl, g, k v pa⟩
theorem ok_p1 {d : D3} {C : Addr} {f : Addr} {fd : FuncData} (F : Fun K "loop" "Program.loop" (sPt 1) f fd) (pc : PCls K C) : FnOk P w K mg base CX0 1 f fd ["self"] (spPt K d C 1) := by
  refine F.ok scP1 (fun vs H Q E h => ?_) (fun cdv A outer s H vs Q E hr h => ?_)
  · obtain ⟨x, t, rfl, _⟩ := h
    rfl
  · obtain ⟨x, t, rfl, ip, k⟩ := h
    obtain ⟨dx, nt, Pd, gt, ag, rt, ns, gs, rs, a, b, c, _⟩ := ip.ex
    obtain ⟨v, g, pa⟩ := c.get 1 (z := "loop") rfl
    exact ⟨_, pss_one (ps_ret (pe_dget (hu_of hr) (pe_fld (pv 0) rfl) pe_str (fun _ _ => rfl))), _, rfl, x, C, dx, _, _, rfl, a, pc.cl, pc.n2, rfl, Pd, v, rfl, g, k v pa⟩
theorem ok_p2 {d : D3} {C : Addr} {f : Addr} {fd : FuncData} (F : Fun K "between" "Program.between" (sPt 2) f fd) (pc : PCls K C) : FnOk P w K mg base CX0 1 f fd ["self"] (spPt K d C 2) := by
  refine F.ok scP2 (fun vs H Q E h => ?_) (fun cdv A outer s H vs Q E hr h => ?_)
  · obtain ⟨x, t, rfl, _⟩ := h
    rfl
  · obtain ⟨x, t, rfl, ip, k⟩ := h
    obtain ⟨dx, nt, Pd, gt, ag, rt, ns, gs, rs, a, b, c, _⟩ := ip.ex
    obtain ⟨v, g, pa⟩ := c.get 2 (z := "between") rfl
    exact ⟨_, pss_one (ps_ret (pe_dget (hu_of hr) (pe_fld (pv 0) rfl) pe_str (fun _ _ => rfl))), _, rfl, x, C, dx, _, _, rfl, a, pc.cl, pc.n2, rfl, Pd, v, rfl, g, k v pa⟩
theorem ok_p3 {d : D3} {C : Addr} {f : Addr} {fd : FuncData} (F : Fun K "second" "Program.second" (sPt 3) f fd) (pc : PCls K C) : FnOk P w K mg base CX0 1 f fd ["self"] (spPt K d C 3) := by
  refine F.ok scP3 (fun vs H Q E h => ?_) (fun cdv A outer s H vs Q E hr h => ?_)
  · obtain ⟨x, t, rfl, _⟩ := h
    rfl
  · obtain ⟨x, t, rfl, ip, k⟩ := h
    obtain ⟨dx, nt, Pd, gt, ag, rt, ns, gs, rs, a, b, c, _⟩ := ip.ex
    obtain ⟨v, g, pa⟩ := c.get 3 (z := "second") rfl
    exact ⟨_, pss_one (ps_ret (pe_dget (hu_of hr) (pe_fld (pv 0) rfl) pe_str (fun _ _ => rfl))), _, rfl, x, C, dx, _, _, rfl, a, pc.cl, pc.n2, rfl, Pd, v, rfl, g, k v pa⟩
theorem ok_p4 {d : D3} {C : Addr} {f : Addr} {fd : FuncData} (F : Fun K "behind" "Program.behind" (sPt 4) f fd) (pc : PCls K C) : FnOk P w K mg base CX0 1 f fd ["self"] (spPt K d C 4) := by
  refine F.ok scP4 (fun vs H Q E h => ?_) (fun cdv A outer s H vs Q E hr h => ?_)
  · obtain ⟨x, t, rfl, _⟩ := h
    rfl
  · obtain ⟨x, t, rfl, ip, k⟩ := h
    obtain ⟨dx, nt, Pd, gt, ag, rt, ns, gs, rs, a, b, c, _⟩ := ip.ex
    obtain ⟨v, g, pa⟩ := c.get 4 (z := "behind") rfl
    exact ⟨_, pss_one (ps_ret (pe_dget (hu_of hr) (pe_fld (pv 0) rfl) pe_str (fun _ _ => rfl))), _, rfl, x, C, dx, _, _, rfl, a, pc.cl, pc.n2, rfl, Pd, v, rfl, g, k v pa⟩
theorem ok_p5 {d : D3} {C : Addr} {f : Addr} {fd : FuncData} (F : Fun K "given" "Program.given" (sPt 5) f fd) (pc : PCls K C) : FnOk P w K mg base CX0 1 f fd ["self"] (spTg K d C (fun t => t.us)) := by
  refine F.ok scP5 (fun vs H Q E h => ?_) (fun cdv A outer s H vs Q E hr h => ?_)
  · obtain ⟨x, t, rfl, _⟩ := h
    rfl
  · obtain ⟨x, t, rfl, ip, k⟩ := h
    obtain ⟨dx, nt, Pd, gt, ag, rt, ns, gs, rs, a, b, c, e, f, g, h1, h2, h3⟩ := ip.ex
    exact ⟨_, pss_one (ps_ret (pe_fld (pv 0) rfl)), _, rfl, x, C, dx, _, _, rfl, a, pc.cl, pc.n3, rfl, k gt gs e h2⟩
theorem ok_p7 {d : D3} {C : Addr} {f : Addr} {fd : FuncData} (F : Fun K "results" "Program.results" (sPt 7) f fd) (pc : PCls K C) : FnOk P w K mg base CX0 1 f fd ["self"] (spTg K d C (fun t => t.rs)) := by
  refine F.ok scP7 (fun vs H Q E h => ?_) (fun cdv A outer s H vs Q E hr h => ?_)
  · obtain ⟨x, t, rfl, _⟩ := h
    rfl
  · obtain ⟨x, t, rfl, ip, k⟩ := h
    obtain ⟨dx, nt, Pd, gt, ag, rt, ns, gs, rs, a, b, c, e, f, g, h1, h2, h3⟩ := ip.ex
    exact ⟨_, pss_one (ps_ret (pe_fld (pv 0) rfl)), _, rfl, x, C, dx, _, _, rfl, a, pc.cl, pc.n5, rfl, k rt rs g h3⟩
theorem ok_p8 {d : D3} {C : Addr} {f : Addr} {fd : FuncData} (F : Fun K "names" "Program.names" (sPt 8) f fd) (pc : PCls K C) : FnOk P w K mg base CX0 1 f fd ["self"] (spTg K d C (Tol.words)) := by
  refine F.ok scP8 (fun vs H Q E h => ?_) (fun cdv A outer s H vs Q E hr h => ?_)
  · obtain ⟨x, t, rfl, _⟩ := h
    rfl
  · obtain ⟨x, t, rfl, ip, k⟩ := h
    obtain ⟨dx, nt, Pd, gt, ag, rt, ns, gs, rs, a, b, c, e, f, g, h1, h2, h3⟩ := ip.ex
    exact ⟨_, pss_one (ps_ret (pe_fld (pv 0) rfl)), _, rfl, x, C, dx, _, _, rfl, a, pc.cl, pc.n1, rfl, k nt ns b h1⟩
theorem ok_p6 {d : D3} {C : Addr} {f : Addr} {fd : FuncData} (F : Fun K "again" "Program.again" (sPt 6) f fd) (pc : PCls K C) (N : TxtP mg) : FnOk P w K mg base CX0 1 f fd ["self"] (spAgn K d C) := by
  refine F.ok scP6 (fun vs H Q E h => ?_) (fun cdv A outer s H vs Q E hr h => ?_)
  · obtain ⟨x, t, rfl, _⟩ := h
    rfl
  · obtain ⟨x, t, rfl, ip, k⟩ := h
    obtain ⟨dx, nt, Pd, gt, ag, rt, ns, gs, rs, a, b, c, e, f, g, h1, h2, h3⟩ := ip.ex
    exact ⟨_, pss_one (ps_ret (pe_callTy call_dictD (by rfl) N.bdict (by decide +kernel) (pa_cons (pe_fld (pv 0) rfl) pa_nil))), _, rfl, x, C, dx, _, _, rfl, a, pc.cl, pc.n4, rfl, ag, _, rfl, .inl f, k⟩
theorem ok_p9 {d : D3} {C : Addr} {f : Addr} {fd : FuncData} (F : Fun K "loops" "Program.loops" (sPt 9) f fd) (pc : PCls K C) (T : TxtB mg) : FnOk P w K mg base CX0 1 f fd ["self"] (spLps K d C) := by
  refine F.ok scP9 (fun vs H Q E h => ?_) (fun cdv A outer s H vs Q E hr h => ?_)
  · obtain ⟨x, t, rfl, _⟩ := h
    rfl
  · obtain ⟨x, t, rfl, ip, k⟩ := h
    have hu := hu_of hr
    refine ⟨_, pss_one (ps_ret (pe_callB call_len_seq (by rfl) T.blen (by decide +kernel) (pa_cons (pe_lc (own := [("part", 1)]) (g := gName 1) rfl scP9.nd (pi_tup (pe_tup (pa_cons pe_str (pa_cons pe_str pa_nil)))) (blkOk_by (own := [("part", 1)]) (N := ["self", "part"]) (sc := defScope (sPt 9)) (by decide +kernel)) (fun _ _ _ _ _ => (pg_name (i := 1) scP9.nd rfl (Or.inl rfl))) (fun _ _ _ _ _ => (pts_one (show PT _ _ (tTest (tOp (fun x y H Q => y = V.non ∧ Q (.bl (!decide (x = V.non))) H) (tDGet (tFld K (tVar 0) (Str.ofString "_parts")) (tVar 1)) (tC V.non))) from pt_cmpR op_notN (pe_dget hu (pe_fld (pv 0) rfl) (pv 1) (fun _ _ => rfl)) pe_non (nomark _)))) (fun _ _ _ _ _ => (pv 1))) pa_nil))), ?_⟩
    obtain ⟨dx, nt, Pd, gt, ag, rt, ns, gs, rs, a, b, c, e, f, g, h1, h2, h3⟩ := ip.ex
    refine retA (cb1 (lcOf ?_))
    refine ⟨by show 2 ≤ sizeLine; decide, fun tp htp => ?_⟩
    have s1 : Same H (upd H tp (.tup [.str (Str.ofString "loop"), .str (Str.ofString "second")])) := Same.new htp
    have gt : (upd H tp (.tup [.str (Str.ofString "loop"), .str (Str.ofString "second")])) tp = some (.tup [.str (Str.ofString "loop"), .str (Str.ofString "second")]) := upd_same
    generalize (upd H tp (.tup [.str (Str.ofString "loop"), .str (Str.ofString "second")])) = H1 at *
    refine ⟨tp, rfl, ⟨_, SqT.of gt⟩, fun D hD => ?_⟩
    have a1 := s1 _ _ a
    have c1 := c.same s1
    have low : (2 : Nat) < sizeLine := by decide
    refine lc_tup (xs := [V.str (Str.ofString "loop"), V.str (Str.ofString "second")]) (fun j H' => Same H1 H' ∧ ∃ zs : List V, H' D = some (.lst zs) ∧ zs.length = t.upl j ∧ zs.length ≤ j) ⟨Same.new hD, [], upd_same, rfl, Nat.le_refl _⟩ (fun j H' _ z => SqT.of (z.1 _ _ gt)) ?_ ?_
    · rintro j y H2 hy ⟨s2, zs, gD, l1, l2⟩
      have a2 := s2 _ _ a1
      refine ⟨rfl, ?_⟩
      match j, hy with
      | 0, hy =>
        cases hy
        obtain ⟨v, g, q⟩ := (c1.same s2).get 1 (z := "loop") rfl
        have iN := q.isNon
        refine ⟨_, rfl, x, C, dx, _, _, rfl, a2, pc.cl, pc.n2, rfl, _, rfl, Pd, v, rfl, g, rfl, _, rfl, ?_⟩
        have iN : (!decide (v = V.non)) = t.g.l.isSome := by
          rw [iN]
          show (!(t.g.l.isNone)) = _
          cases t.g.l <;> rfl
        rw [iN]
        cases hl : t.g.l.isSome with
        | false => exact iteF ⟨s2, zs, gD, by rw [l1]; show 0 = if t.g.l.isSome then 1 else 0; rw [hl]; rfl, by omega⟩
        | true => exact iteT ⟨_, rfl, zs, gD, by omega, sameUpd s2 hD, zs ++ [.str (Str.ofString "loop")], upd_same, by rw [List.length_append, l1]; show 0 + 1 = if t.g.l.isSome then 1 else 0; rw [hl]; rfl, by rw [List.length_append]; show zs.length + 1 ≤ 0 + 1; omega⟩
      | 1, hy =>
        cases hy
        obtain ⟨v, g, q⟩ := (c1.same s2).get 3 (z := "second") rfl
        have iN := q.isNon
        refine ⟨_, rfl, x, C, dx, _, _, rfl, a2, pc.cl, pc.n2, rfl, _, rfl, Pd, v, rfl, g, rfl, _, rfl, ?_⟩
        have iN : (!decide (v = V.non)) = t.g.s.isSome := by
          rw [iN]
          show (!(t.g.s.isNone)) = _
          cases t.g.s <;> rfl
        rw [iN]
        have l1 : zs.length = if t.g.l.isSome then 1 else 0 := l1
        cases hl : t.g.s.isSome with
        | false => exact iteF ⟨s2, zs, gD, by rw [l1]; show _ = (if t.g.l.isSome then 1 else 0) + (if t.g.s.isSome then 1 else 0); rw [hl]; rfl, by omega⟩
        | true => exact iteT ⟨_, rfl, zs, gD, by omega, sameUpd s2 hD, zs ++ [.str (Str.ofString "second")], upd_same, by rw [List.length_append, l1]; show _ = (if t.g.l.isSome then 1 else 0) + (if t.g.s.isSome then 1 else 0); rw [hl]; rfl, by rw [List.length_append]; show zs.length + 1 ≤ 1 + 1; omega⟩
      | n + 2, hy => cases hy
    · rintro H2 ⟨s2, zs, gD, l1, l2⟩
      have l1 : zs.length = t.loops := l1
      refine ⟨D, zs, rfl, .inl (SqL.of gD), ?_⟩
      rw [l1]
      exact k H2 (s1.trans s2)
end
end K06

set_option Elab.async false
set_option linter.all false
set_option maxRecDepth 100000
set_option maxHeartbeats 4000000
/-! Errors of ours as values: C(e, ..), C(), isinstance and fields of such. -/
namespace NX
open PySem L2 PySem.Spec PyProof.Rows
/-- C(e, ..) as a value, C's own __init__ keeping sp -/
def tMkV (C : Addr) (sp : Sp) (dvs : List V) (ta : TA) : TE := fun σ H Q => ta σ H fun vs H1 => vs.length ≤ 1000 ∧ ∀ a, H1 a = none → sp (.ref a :: (vs ++ dvs)) (upd H1 a (exo a C none)) (fun v H2 => v = .non ∧ Q (.ref a) H2) (fun _ _ _ => False)
def tMkV0 (C : Addr) : TE := fun σ H Q => ∀ a, H a = none → Q (.ref a) (upd H a (ExO (.ref C) a))
/-- an error of the class D at a -/
def IsEr (H : Hp) (a D : Addr) : Prop := (∃ d fs, H a = some (exo a D (some d)) ∧ H d = some (exd d fs)) ∨ H a = some (ExO (.ref D) a)
def rIsEr (K : PySem.W.Frag) : List V → Hp → VK → Prop := fun xs H Q => ∃ (a D : Addr) (c : V) (u : Value) (b : Bool), xs = [.ref a, c] ∧ ClsV c u ∧ IsEr H a D ∧ ExcC K D ∧ PySem.W.kitOne K (.ref D) u = some b ∧ Q (.bl b) H
def rIsErT (K : PySem.W.Frag) : List V → Hp → VK → Prop := fun xs H Q => ∃ (a D tp : Addr) (cs : List V) (us : List Value) (b : Bool), xs = [.ref a, .ref tp] ∧ H tp = some (.tup cs) ∧ Paired ClsV cs us ∧ IsEr H a D ∧ ExcC K D ∧ PySem.W.kitAny K (.ref D) us = some b ∧ Q (.bl b) H
def tErF (K : PySem.W.Frag) (n : Str) (te : TE) : TE := fun σ H Q => te σ H fun x H1 => ∃ (a D d : Addr) (fs : List (Str × V)) (v : V), x = .ref a ∧ H1 a = some (exo a D (some d)) ∧ H1 d = some (exd d fs) ∧ XfC K D ∧ PySem.W.findIn K (.ref D) n = some none ∧ fs.lookup n = some v ∧ Q v H1
section
variable {X : Cx} {pins : List (Addr × Obj)} {σ : L2.St} {H : Hp} {s : Shared}
theorem inst_exo {a D d : Addr} {fs : List (Str × V)} (I : Inv X pins σ H s) (ha : H a = some (exo a D (some d))) (hd : H d = some (exd d fs)) :
    ∃ o od, PySem.W.InstAt s.heap a o D (some od) ∧ s.heap.get? d = some od ∧ ∃ mA, s.heap.Ns1 d mA ∧ (∀ f, RelO (fs.lookup f) (mA f)) := by
  obtain ⟨t1, e1⟩ := exo_at I.hok ha
  obtain ⟨mA, hns, hr⟩ := exd_at I.hok hd
  obtain ⟨od, ho, _⟩ := lookIn_ns hns
  exact ⟨_, od, ⟨e1, rfl, rfl, ho⟩, ho, mA, hns, hr⟩
theorem inst_er {a D : Addr} (I : Inv X pins σ H s) (h : IsEr H a D) : ∃ o od, PySem.W.InstAt s.heap a o D od := by
  rcases h with ⟨d, fs, ha, hd⟩ | ha
  · obtain ⟨o, od, J, _⟩ := inst_exo I ha hd
    exact ⟨o, _, J⟩
  · have x : ObjOk X.prog X.w H s.heap a (.ext fun h => ∃ (oe : Obj) (vs : Array Value), h.get? a = some oe ∧ Zc (.ref D) none oe ∧ oe.data = .fields vs ∧ vs[1]? = some .none ∧ vs[2]? = some .none ∧ 4 < vs.size) := I.hok a _ ha
    obtain ⟨⟨oe, vs, e1, z, e4, _⟩, _, _⟩ := x
    exact ⟨oe, none, ⟨e1, z.1, by unfold PySem.W.notCls; rw [e4] <;> rfl, by rw [z.2] <;> trivial⟩⟩
end
section
variable {X : Cx} {e : Expr} {es : List Expr} {te : TE} {ta : TA} {pos p : Pos} {n : Str}
theorem clsSome {K : PySem.W.Frag} {D : Addr} (z : PySem.W.hasDictIn K D = true) : (PySem.W.clsIn K D).isSome = true := by
  unfold PySem.W.hasDictIn at z
  cases q : PySem.W.clsIn K D with
  | some cd => rfl
  | none => rw [q] at z; cases z
theorem call_isEr : CallR X (.builtin "isinstance") (rIsEr X.K) := by
  intro pins s σ H xs us Q I r h
  obtain ⟨a, D, c, u, b, rfl, hc, hE, E, k, q⟩ := h
  obtain ⟨u1, u2, rfl, r1, r2⟩ := vals2 r
  have e2 := hc.eq r2
  subst e2
  obtain rfl : u1 = Value.ref a := r1
  obtain ⟨o, od, J⟩ := inst_er I hE
  exact PySem.W.kia_one (PySem.W.kitx_exc (clsSome E.hd) E.hg E.hk E.hs E.ha E.hn E.ht E.hm) I.kIn J k (fun z => nomatch z) fun tk => ⟨.bl b, H, I.tok tk, rfl, q⟩
theorem call_isErT : CallR X (.builtin "isinstance") (rIsErT X.K) := by
  intro pins s σ H xs us Q I r h
  obtain ⟨a, D, tp, cs, ws, b, rfl, hT, k, hE, E, e, q⟩ := h
  obtain ⟨u1, u2, rfl, r1, r2⟩ := vals2 r
  cases (show u2 = Value.ref tp from r2)
  obtain rfl : u1 = Value.ref a := r1
  obtain ⟨o, od, J⟩ := inst_er I hE
  obtain ⟨_, its, rv, o, h1, h2, n, h3⟩ := (show ObjOk X.prog X.w H s.heap tp (.tup cs) from I.hok tp _ hT)
  have e3 := ClsV.all k rv
  subst e3
  obtain ⟨oc, od, dt, sl⟩ := o
  simp only at h2 h3
  subst h2 h3
  exact PySem.W.kia_tup (PySem.W.kitx_exc (clsSome E.hd) E.hg E.hk E.hs E.ha E.hn E.ht E.hm) I.kIn J h1 e (fun z => nomatch z) fun tk => ⟨.bl b, H, I.tok tk, rfl, q⟩
theorem pe_erF (he : PE X e te) (hb : attributeBase e n X.env (eval e X.env) = eval e X.env := by rfl) : PE X (.Attribute e n pos) (tErF X.K n te) := by
  refine ⟨fun pins s σ H Q I h => attr_of hb (thn (he.run pins s σ H _ I h) fun u s1 ⟨x, H1, I1, rx, a, D, d, fs, v, ex, ha, hd, T, hno, l, q⟩ => ?_)⟩
  subst ex
  obtain rfl : u = Value.ref a := rx
  obtain ⟨o, od, J, ho, mA, hns, hr⟩ := inst_exo I1 ha hd
  obtain ⟨od', ho', hl⟩ := lookIn_ns hns
  rw [ho] at ho'
  cases ho'
  obtain ⟨y, hy, ry⟩ := RelO.some_of (v := v) (o := mA n) (by rw [← l]; exact hr n)
  exact HandSPX.exc_get I1.kIn J T.ga T.gg T.exC (PySem.W.findObj_own T.hdC hno rfl (by rw [hl, hy])) (handed_of ry) ⟨v, H1, I1.tok _, ry, q⟩
theorem pe_oexV {CX : CXT} {x : Str} {C fI : Addr} {k : Nat} {fd : FuncData} {ps : List Str} {sp : Sp} {ds : List Value} {dvs : List V} (T : OexC X.K C) (iC : PySem.W.findIn X.K (.ref C) "__init__" = some (some (.ref fI))) (tI : PySem.W.typeIn X.K (.ref fI) = some (.type "function"))
    (F1 : FnOk X.prog X.w X.K X.mg X.base CX k fI fd ps sp) (hr : Room (k + 1) X.A) (hb : Binds X.K fd ps ds) (hd : Vals dvs ds) (hx : Passes CX X (fun _ _ _ => False)) (hg : Gl X x) (hm : X.mg x = some (.ref C)) (ha : PA X (e :: es) ta)
    (hdb : (x == ("__debug__" : Str)) = false := by decide) (he : starEach (e :: es) X.env = (false, eval e X.env) :: starEach es X.env := by rfl) (hpl : (backTo pos (starEach es X.env)).any (·.1) = false := by rfl) :
    PE X (.Call (.Name x p) (e :: es) [] pos) (tMkV C sp dvs ta) := by
  refine ⟨fun pins s σ H Q I h => ?_⟩
  obtain ⟨nm, q, N, bs, bm, sn, sub, ab, col, dd, k0, k1, k2, k3, k5, hC, hbm⟩ := T.cls
  refine wpAny_Call_Name_kw (ld_glob I hg hm ?_ hdb)
  refine PySem.W.callWith_K (h₀ := X.base) I.ok.mod.kin T.kC (thn (ha.run pos pins s σ H _ I h) fun us s1 ⟨vs, H1, I1, r1, hz, q1⟩ => ⟨I1.kIn, ?_⟩) he hpl
  show wpAny _ _ (call (.ref C) us) _ _ _
  obtain ⟨hp, g, dr, tk, os⟩ := s1
  have hsz : hp.objs.size ≤ hp.objs.size + 1 := Nat.le_succ _
  have hn : H1 (hp.objs.size + 1) = none := I1.hok.fresh hsz
  have hq := q1 (hp.objs.size + 1) hn
  have kk : ∀ b o, hp.get? b = some o → ((hp.push (PySem.W.kdv_tup us)).push (PySem.HandSPX.excO C hp.objs.size)).get? b = some o := fun b o e => Heap.get?_push_of_some _ (Heap.get?_push_of_some _ e)
  have hget : ((hp.push (PySem.W.kdv_tup us)).push (PySem.HandSPX.excO C hp.objs.size)).get? (hp.objs.size + 1) = some (PySem.HandSPX.excO C hp.objs.size) := by heap_get
  have I2 : Inv X pins σ (upd H1 (hp.objs.size + 1) (exo (hp.objs.size + 1) C none)) ⟨(hp.push (PySem.W.kdv_tup us)).push (PySem.HandSPX.excO C hp.objs.size), g, dr, tk, os⟩ :=
    I1.laid (t' := tk) (a := hp.objs.size + 1) (o := exo (hp.objs.size + 1) C none) (h' := (hp.push (PySem.W.kdv_tup us)).push (PySem.HandSPX.excO C hp.objs.size)) kk hsz (exo_ok hget)
  have r2 : Vals (V.ref (hp.objs.size + 1) :: (vs ++ dvs)) (Value.ref (hp.objs.size + 1) :: (us ++ ds)) := .cons rfl (r1.append hd)
  have hl : (Value.ref (hp.objs.size + 1) :: us ++ ds).length = ps.length := by
    have e := r2.length
    rw [F1.len _ _ _ _ hq] at e
    exact e.symm
  have hus : us.length ≤ sizeLine := by
    rw [← Paired.length r1, sizeLine_eq]
    omega
  refine wpAny_call (PySem.HandSPX.call_own F.excBase_ValueError (fun Y => PySem.HandSPX.refsVE_contains Y bm hbm) (I1.kIn _ _ hC) (PySem.W.looks_findIn I1.kIn iC) (fun self => PySem.W.bind_fn I1.kIn self tI) hus
    (codeAny_mono (F1.run _ X.stack _ _ ⟨Value.ref (hp.objs.size + 1) :: us, []⟩ (Value.ref (hp.objs.size + 1) :: (us ++ ds)) _ _ (fun _ _ _ => False) (hr.make C us []) (I2.env0.make C us []) (hb _ (Value.ref (hp.objs.size + 1) :: us) I2.kIn hl) r2 hq) fun r s' hq' => ?_))
  cases r with
  | error er => exact hx pins σ _ _ er s' I2 hq'
  | ok fl =>
    cases fl with
    | ret u =>
      obtain ⟨v, H2, os2, bare2, un2, hok2, rv, ev, q2⟩ := hq'
      subst ev
      exact ⟨rv, ⟨.ref (hp.objs.size + 1), H2, I2.call' (ch := []) os2 un2 hok2 bare2 (fun b z => absurd z (by simp)), rfl, q2⟩⟩
    | next => exact False.elim hq'
    | brk => exact False.elim hq'
    | cont => exact False.elim hq'
theorem pe_oexV0 {C : Addr} {bmB : List Value} {B newId initId : String} {x : Str} (F : ExcBaseFacts B newId initId bmB) (q : PySem.W.excIn X.K C bmB newId = true) (gC : X.mg x = some (.ref C)) (kC : PySem.W.keepIn X.K (.ref C) = true) (hg : Gl X x) (hdb : (x == ("__debug__" : Str)) = false := by decide) :
    PE X (.Call (.Name x p) [] [] pos) (tMkV0 C) := by
  refine ⟨fun pins s σ H Q I h => ?_⟩
  refine wpAny_Call_Name_kw (ld_glob I hg gC ?_ hdb)
  refine PySem.W.callWith_K0 I.kIn kC ?_
  show wpAny _ _ (call (.ref C) []) _ _ _
  obtain ⟨bm, N, nm, qn, bs, hdct, sn, sub, ab, col, dd, k0, k1, k2, k3, k5, mN, hC, hN, hni, T⟩ := exc_obj I.kIn q
  refine wpAny_call_exc_subT F T hC hN hni (fun h' a hm => ?_) (by show 0 ≤ sizeLine; rw [sizeLine_eq]; omega)
  have hn : H a = none := I.hok.gone hm.new
  obtain ⟨t, ht, _, _⟩ := hm.there
  exact ⟨.ref a, upd H a (ExO (.ref C) a), I.laidN hm.keeps hm.new hn (exO_ok ht ⟨rfl, rfl⟩ rfl rfl rfl (show 4 < 6 by decide)), rfl, h a hn⟩
end
end NX

set_option Elab.async false
set_option linter.all false
set_option maxRecDepth 100000
set_option maxHeartbeats 4000000
/-! Too many deeds. -/
namespace K06
open PySem L2 NX NU
open PyProof.Rows (sortedS)
/-- what a program's parts are refused with: the greatest number that is let -/
def Prg.many (g : Prg) : Option Nat :=
  if g.a.length ≤ 200 then if (g.l.getD []).length ≤ 24 then if g.b.length ≤ 24 then if (g.s.getD []).length ≤ 24 then if g.h.length ≤ 24 then if g.a.length + g.b.length + g.h.length ≤ 200 then none else some 200 else some 24 else some 24 else some 24 else some 24 else some 200
def Prg.okAt (g : Prg) (i : Nat) : Prop := ((g.at i).getD []).length ≤ if i = 0 then 200 else 24
theorem many_sizes {g : Prg} (h : g.many = none) : g.Sizes := by
  unfold Prg.many at h
  by_cases c0 : g.a.length ≤ 200
  · rw [if_pos c0] at h
    by_cases c1 : (g.l.getD []).length ≤ 24
    · rw [if_pos c1] at h
      by_cases c2 : g.b.length ≤ 24
      · rw [if_pos c2] at h
        by_cases c3 : (g.s.getD []).length ≤ 24
        · rw [if_pos c3] at h
          by_cases c4 : g.h.length ≤ 24
          · rw [if_pos c4] at h
            by_cases c5 : g.a.length + g.b.length + g.h.length ≤ 200
            · exact ⟨c0, c1, c2, c3, c4, c5⟩
            · rw [if_neg c5] at h; cases h
          · rw [if_neg c4] at h; cases h
        · rw [if_neg c3] at h; cases h
      · rw [if_neg c2] at h; cases h
    · rw [if_neg c1] at h; cases h
  · rw [if_neg c0] at h; cases h
theorem sizes_many {g : Prg} (z : g.Sizes) : g.many = none := by
  unfold Prg.many
  rw [if_pos z.a, if_pos z.l, if_pos z.b, if_pos z.s, if_pos z.h, if_pos z.all]
theorem many_at {g : Prg} {i : Nat} (h : ∀ j, j < i → g.okAt j) (i5 : i < 5) (n : ¬ g.okAt i) : g.many = some (if i = 0 then 200 else 24) := by
  have k : ∀ {m : Nat}, m < i → ((g.at m).getD []).length ≤ if m = 0 then 200 else 24 := fun lt => h _ lt
  have n : ¬ ((g.at i).getD []).length ≤ if i = 0 then 200 else 24 := n
  unfold Prg.many
  rcases five i5 with rfl | rfl | rfl | rfl | rfl
  · rw [if_neg (show ¬ g.a.length ≤ 200 from n)]; rfl
  · rw [if_pos (show g.a.length ≤ 200 from k (m := 0) (by decide)), if_neg (show ¬ (g.l.getD []).length ≤ 24 from n)]; rfl
  · rw [if_pos (show g.a.length ≤ 200 from k (m := 0) (by decide)), if_pos (show (g.l.getD []).length ≤ 24 from k (m := 1) (by decide)), if_neg (show ¬ g.b.length ≤ 24 from n)]; rfl
  · rw [if_pos (show g.a.length ≤ 200 from k (m := 0) (by decide)), if_pos (show (g.l.getD []).length ≤ 24 from k (m := 1) (by decide)), if_pos (show g.b.length ≤ 24 from k (m := 2) (by decide)), if_neg (show ¬ (g.s.getD []).length ≤ 24 from n)]; rfl
  · rw [if_pos (show g.a.length ≤ 200 from k (m := 0) (by decide)), if_pos (show (g.l.getD []).length ≤ 24 from k (m := 1) (by decide)), if_pos (show g.b.length ≤ 24 from k (m := 2) (by decide)), if_pos (show (g.s.getD []).length ≤ 24 from k (m := 3) (by decide)), if_neg (show ¬ g.h.length ≤ 24 from n)]; rfl
theorem many_end {g : Prg} (h : ∀ j, j < 5 → g.okAt j) : g.many = if g.a.length + g.b.length + g.h.length ≤ 200 then none else some 200 := by
  have k : ∀ {m : Nat}, m < 5 → ((g.at m).getD []).length ≤ if m = 0 then 200 else 24 := fun lt => h _ lt
  unfold Prg.many
  rw [if_pos (show g.a.length ≤ 200 from k (m := 0) (by decide)), if_pos (show (g.l.getD []).length ≤ 24 from k (m := 1) (by decide)), if_pos (show g.b.length ≤ 24 from k (m := 2) (by decide)), if_pos (show (g.s.getD []).length ≤ 24 from k (m := 3) (by decide)), if_pos (show g.h.length ≤ 24 from k (m := 4) (by decide))]
/-- it goes on, or too many are refused -/
def Or (cM : Addr) (H : Hp) (E : XK) (r : Option Nat) (ok : Prop) : Prop := match r with
  | none => ok
  | some m => ∀ d H', Told H d "most" (.int (m : Nat)) H' → E (.ref cM) (some d) H'
theorem Or.none {cM : Addr} {H : Hp} {E : XK} {ok : Prop} {r : Option Nat} (e : r = Option.none) (h : Or cM H E r ok) : ok := by subst e; exact h
theorem Or.some {cM : Addr} {H : Hp} {E : XK} {ok : Prop} {r : Option Nat} {m : Nat} (e : r = Option.some m) (h : Or cM H E r ok) : ∀ d H', Told H d "most" (.int (m : Nat)) H' → E (.ref cM) (Option.some d) H' := by subst e; exact h
def spCzE (K : PySem.W.Frag) (d : D3) (cM : Addr) : Sp := fun vs H Q E => ∃ (P : Addr) (g : Prg), vs = [.ref P] ∧ PartsD K d H P g ∧ Or cM H E g.many (∀ H', Same H H' → Q .non H')
section
variable {P : Program} {w : World} {K : PySem.W.Frag} {mg : Str → Option Value} {base : Heap}
theorem ok_czE {d : D3} {cM iM : Addr} {f : Addr} {fd : FuncData} (F : Fun K "check_sizes" "check_sizes" sCz f fd) (T : TxtB mg) (TQ : TxtQ mg K) (BM : ErrC P w K mg base "TooMany" "most" cM iM) : FnOk P w K mg base (L2N.CX P w) 3 f fd ["parts"] (spCzE K d cM) := by
  obtain ⟨fdm, Fm, hbm⟩ := BM.ok
  refine NN.okN F scCz (fun vs H Q E h => ?_) (fun cdv A outer s H vs Q E hr h => ?_)
  · obtain ⟨p, g, rfl, _⟩ := h
    rfl
  · obtain ⟨p, g, rfl, hP, q⟩ := h
    have hu := hu_of hr
    obtain ⟨aP, gP, sP⟩ := TQ.parts
    obtain ⟨aL, gL, sL⟩ := TQ.loops
    obtain ⟨t1, e1⟩ := TQ.ma
    obtain ⟨t2, e2⟩ := TQ.mi
    refine ⟨_, (pss_cons (ps_set (i := 1) scCz.nd rfl (Or.inl rfl) pe_int)
      (pss_cons (ps_for (passes_of rfl) rfl (pi_tup (C8.pe_gc (v := .ref aP) rfl ⟨_, gP, rfl⟩)) (pg_name (i := 2) scCz.nd rfl (Or.inl rfl))
        (pss_cons (ps_set (i := 3) scCz.nd rfl (Or.inl rfl) (pe_callB call_len_seq (by rfl) T.blen (by decide +kernel) (pa_cons (pe_orT (pe_dget hu (pv 0) (pv 2) (fun _ _ => rfl)) (pe_one (pe_tup pa_nil))) pa_nil)))
        (pss_cons (ps_set (i := 4) scCz.nd rfl (Or.inl rfl) (pe_ifExp (pt_cmpR op_eq (pv 2) pe_str (nomark _)) (pe_glob (v := .int 200) rfl e1 ⟨_, rfl⟩) (pe_glob (v := .int 24) rfl e2 ⟨_, rfl⟩)))
        (pss_cons (ps_if (pt_cmpR op_gt (pv 3) (pv 4) (nomark _)) (pss_one (L2N.ps_raise rfl (L2N.takes_of rfl rfl rfl rfl) (NN.pmkN BM.O BM.i BM.t Fm (hr.mono (by decide)) hbm pass0 rfl BM.g (pa_cons (pv 4) pa_nil)))) pss_nil)
        (pss_one (ps_if (pt_cmpR op_notIn_seq (pv 2) (C8.pe_gc (v := .ref aL) rfl ⟨_, gL, rfl⟩) rfl) (pss_one (ps_set (i := 1) scCz.nd rfl (Or.inl rfl) (pe_op op_add (pv 1) (pv 3)))) pss_nil))))))
      (pss_one (ps_if (pt_cmpR op_gt (pv 1) (pe_glob (v := .int 200) rfl e1 ⟨_, rfl⟩) (nomark _)) (pss_one (L2N.ps_raise rfl (L2N.takes_of rfl rfl rfl rfl) (NN.pmkN BM.O BM.i BM.t Fm (hr.mono (by decide)) hbm pass0 rfl BM.g (pa_cons (pe_glob (v := .int 200) rfl e1 ⟨_, rfl⟩) pa_nil)))) pss_nil)))), ?_⟩
    refine ⟨aP, rfl, ⟨_, sP _⟩, for_tup (xs := partN.map V.str) (fun i σ H' => Same H H' ∧ (∀ j, j < i → g.okAt j) ∧ ∃ x2 x3 x4, σ = [some (.ref p), some (.int (g.outs i : Nat)), x2, x3, x4]) ⟨Same.refl H, nofun, _, _, _, rfl⟩ (fun i σ H' _ _ => sP H') (fun i x σ H' hx ⟨s1, oks, x2, x3, x4, eσ⟩ => ?_) (fun σ H' ⟨s1, oks, x2, x3, x4, eσ⟩ => ?_)⟩
    · subst eσ
      rw [List.getElem?_map] at hx
      obtain ⟨z, hz, rfl⟩ := Option.map_eq_some_iff.mp hx
      obtain ⟨v, hg, ha⟩ := (hP.same s1).get i hz
      obtain ⟨i5, ez⟩ := partF hz
      refine ⟨_, rfl, _, rfl, p, v, rfl, hg, ha.or fun p2 H2 s2 hd => ?_⟩
      obtain ⟨xs, hx2, hal⟩ := hd
      refine ⟨p2, _, rfl, .inr hx2, ?_⟩
      have lz := hal.1
      have inl : inV (V.str z) (([ "loop", "second" ] : List Str).map V.str) = decide (i = 1 ∨ i = 3) := by
        rcases five i5 with rfl | rfl | rfl | rfl | rfl <;> cases hz <;> decide +kernel
      have ou : (g.outs (i + 1) : Int) = g.outs i + if i = 1 ∨ i = 3 then 0 else (((g.at i).getD []).length : Int) := by
        rcases five i5 with rfl | rfl | rfl | rfl | rfl <;> simp [Prg.outs, Prg.at]
      have up : g.okAt i → ∀ j, j < i + 1 → g.okAt j := fun k j lt => by
        by_cases c : j = i
        · rw [c]; exact k
        · exact oks j (by omega)
      refine ⟨_, rfl, rfl, _, rfl, ?_⟩
      rw [ez]
      refine ite2 (fun h0 => ?_) (fun h0 => ?_)
      · have h0 := of_decide_eq_true h0
        refine ⟨_, rfl, _, rfl, _, _, rfl, rfl, _, rfl, ite2 (fun h => ?_) (fun h => ?_)⟩
        · have h := of_decide_eq_true h
          rw [List.length_map] at h
          have n : ¬ g.okAt i := fun k => by
            unfold Prg.okAt at k
            rw [if_pos h0] at k
            omega
          have m := many_at oks i5 n
          rw [if_pos h0] at m
          exact ⟨_, rfl, mkO_of BM.O BM.v fun dd H3 t => q.some m dd H3 (t.old (s1.trans s2))⟩
        · have h : ¬ ((xs.map V.ref).length : Int) > 200 := fun k => h (decide_eq_true k)
          rw [List.length_map] at h
          have n : g.okAt i := by
            unfold Prg.okAt
            rw [if_pos h0]
            omega
          refine ⟨_, rfl, aL, _, rfl, .inr (sL _), rfl, by decide +kernel, _, rfl, ?_⟩
          rw [if_pos rfl, inl]
          by_cases hL : i = 1 ∨ i = 3
          · rw [decide_eq_true hL]
            rw [if_pos hL, Int.add_zero] at ou
            exact iteF ⟨s1.trans s2, up n, _, _, _, by rw [ou]; rfl⟩
          · rw [decide_eq_false hL]
            rw [if_neg hL] at ou
            rw [← lz, ← List.length_map (f := V.ref)] at ou
            exact iteT ⟨_, rfl, _, rfl, _, _, rfl, rfl, s1.trans s2, up n, _, _, _, by rw [ou]; rfl⟩
      · have h0 : ¬ i = 0 := fun e => h0 (decide_eq_true e)
        refine ⟨_, rfl, _, rfl, _, _, rfl, rfl, _, rfl, ite2 (fun h => ?_) (fun h => ?_)⟩
        · have h := of_decide_eq_true h
          rw [List.length_map] at h
          have n : ¬ g.okAt i := fun k => by
            unfold Prg.okAt at k
            rw [if_neg h0] at k
            omega
          have m := many_at oks i5 n
          rw [if_neg h0] at m
          exact ⟨_, rfl, mkO_of BM.O BM.v fun dd H3 t => q.some m dd H3 (t.old (s1.trans s2))⟩
        · have h : ¬ ((xs.map V.ref).length : Int) > 24 := fun k => h (decide_eq_true k)
          rw [List.length_map] at h
          have n : g.okAt i := by
            unfold Prg.okAt
            rw [if_neg h0]
            omega
          refine ⟨_, rfl, aL, _, rfl, .inr (sL _), rfl, by decide +kernel, _, rfl, ?_⟩
          rw [if_pos rfl, inl]
          by_cases hL : i = 1 ∨ i = 3
          · rw [decide_eq_true hL]
            rw [if_pos hL, Int.add_zero] at ou
            exact iteF ⟨s1.trans s2, up n, _, _, _, by rw [ou]; rfl⟩
          · rw [decide_eq_false hL]
            rw [if_neg hL] at ou
            rw [← lz, ← List.length_map (f := V.ref)] at ou
            exact iteT ⟨_, rfl, _, rfl, _, _, rfl, rfl, s1.trans s2, up n, _, _, _, by rw [ou]; rfl⟩
    · subst eσ
      have oks : ∀ j, j < 5 → g.okAt j := oks
      have me := many_end oks
      have e : g.outs (partN.map V.str).length = g.a.length + g.b.length + g.h.length := rfl
      refine ⟨_, rfl, _, 200, rfl, rfl, _, rfl, ite2 (fun h => ?_) (fun h => ?_)⟩
      · have h := of_decide_eq_true h
        rw [e] at h
        rw [if_neg (by omega)] at me
        exact mkO_of BM.O BM.v fun dd H3 t => q.some me dd H3 (t.old s1)
      · have h : ¬ (g.outs (partN.map V.str).length : Int) > 200 := fun k => h (decide_eq_true k)
        rw [e] at h
        rw [if_pos (by omega)] at me
        exact q.none me _ s1
end
end K06

set_option Elab.async false
set_option linter.all false
set_option maxRecDepth 100000
set_option maxHeartbeats 4000000
/-! Program.__init__, where there may be too many deeds. -/
namespace K06
open PySem L2 NX NU
open PyProof.Rows (sortedS)
/-- all that is asked of what a program is made of, but how much there is in its parts -/
structure Tol.OkS (t : Tol) : Prop where
  shape : t.g.Shape
  us : Tld t.us
  ag : AgOk t.ag
  rs : Tld t.rs
  six : ∃ pool : List Str, (∀ z ∈ t.words, z ∈ pool) ∧ pool.length ≤ 6
  size : t.g.many = none → t.us.length + t.ag.length + t.rs.length + 4 * t.g.acts.length ≤ 1000
  v : t.g.VOk (t.us ++ t.ag.map (·.1)) (t.ag.map (·.1)) t.rs
theorem Tol.Ok.s {t : Tol} (h : t.Ok) : t.OkS := ⟨h.shape, h.us, h.ag, h.rs, h.six, fun _ => h.size, h.v⟩
theorem Tol.OkS.ok {t : Tol} (h : t.OkS) (m : t.g.many = none) : t.Ok := ⟨h.shape, many_sizes m, h.us, h.ag, h.rs, h.six, h.size m, h.v⟩
def spPiE (K : PySem.W.Frag) (d : D3) (cM : Addr) : Sp := fun vs H Q E => ∃ (x C dx : Addr) (v1 v2 v3 v4 v5 vg va vr : V) (t : Tol), vs = [.ref x, v1, v2, v3, v4, v5, vg, va, vr] ∧ H x = some (.ins C dx []) ∧ PCls K C ∧ PArg K d H v1 v2 v3 v4 v5 vg va vr t ∧ t.OkS ∧
  Or cM H E t.g.many (∀ H', (∀ b o, b ≠ x → H b = some o → H' b = some o) → IsP K d H' x C t → Q .non H')
section
variable {P : Program} {w : World} {K : PySem.W.Frag} {mg : Str → Option Value} {base : Heap}
theorem ok_piE {d : D3} {cM : Addr} {dvs : List V} {kws : List (Str × V)} {f : Addr} {fd : FuncData} (F : L2.FunD K "__init__" "Program.__init__" (defArgs sPi) (defBody sPi) (defScope sPi) dvs kws f fd) (T : TxtB mg) (N : TxtP mg) (TA : TxtA mg) (cCp : C8.Cal P w K mg base 1 "check_parts" (spCp K d) []) (cCz : CalL P w K mg base 3 "check_sizes" (spCzE K d cM))
    (cCt : C8.Cal P w K mg base 4 "check_told_names" (spCt K) []) (cAn : C8.Cal P w K mg base 3 "all_names" (spAn K d) []) (cCv : C8.Cal P w K mg base 2 "check_values" (spCv K d) []) : FnOk P w K mg base (L2N.CX P w) 5 f fd pPi (spPiE K d cM) := by
  refine F.ok scPi (fun vs H Q E h => ?_) (fun cdv A outer s H vs Q E hr h => ?_)
  · obtain ⟨x, C, dx, v1, v2, v3, v4, v5, vg, va, vr, t, rfl, _⟩ := h
    rfl
  · obtain ⟨x, C, dx, v1, v2, v3, v4, v5, vg, va, vr, t, rfl, hx, pc, ar, ok, q0⟩ := h
    have hu := hu_of hr
    refine ⟨_, (pss_cons (ps_set (i := 9) scPi.nd rfl (Or.inl rfl) (pe_disp (pps_cons pe_str (pe_callTy call_tuple_of (by rfl) T.btuple (by decide +kernel) (pa_cons (pv 1) pa_nil))
        (pps_cons pe_str (pe_ifExp (pt_cmpR op_isN (pv 2) pe_non (nomark _)) pe_non (pe_callTy call_tuple_of (by rfl) T.btuple (by decide +kernel) (pa_cons (pv 2) pa_nil)))
        (pps_cons pe_str (pe_callTy call_tuple_of (by rfl) T.btuple (by decide +kernel) (pa_cons (pv 3) pa_nil))
        (pps_cons pe_str (pe_ifExp (pt_cmpR op_isN (pv 4) pe_non (nomark _)) pe_non (pe_callTy call_tuple_of (by rfl) T.btuple (by decide +kernel) (pa_cons (pv 4) pa_nil)))
        (pps_cons pe_str (pe_callTy call_tuple_of (by rfl) T.btuple (by decide +kernel) (pa_cons (pv 5) pa_nil)) pps_nil))))) rfl rfl (by intro h; cases h) (by decide)))
      (pss_cons (ps_set (i := 10) scPi.nd rfl (Or.inl rfl) (pe_ifExp (pt_cmpR op_isN (pv 7) pe_non (nomark _)) pe_dnewK (pe_callTy call_dictD (by rfl) N.bdict (by decide +kernel) (pa_cons (pv 7) pa_nil))))
      (pss_cons (ps_expr (C8.pe_c cCp hr (by decide) rfl (pa_cons (pv 9) pa_nil)))
      (pss_cons (ps_expr (pe_cL cCz hr (by decide) rfl (NN.passN (L2N.takes_of rfl rfl rfl rfl)) (pa_cons (pv 9) pa_nil)))
      (pss_cons (ps_expr (C8.pe_c cCt hr (by decide) rfl (pa_cons (pv 6) (pa_cons (pv 10) (pa_cons (pv 8) pa_nil)))))
      (pss_cons (ps_fld (pv 0) (C8.pe_c cAn hr (by decide) rfl (pa_cons (pv 9) (pa_cons (pv 6) (pa_cons (pv 10) (pa_cons (pv 8) pa_nil))))) rfl)
      (pss_cons (ps_expr (C8.pe_c cCv hr (by decide) rfl (pa_cons (pv 9) (pa_cons (pv 6) (pa_cons (pv 10) (pa_cons (pv 8) pa_nil))))))
      (pss_cons (ps_fld (pv 0) (pv 9) rfl)
      (pss_cons (ps_fld (pv 0) (pe_callTy call_tuple_of (by rfl) T.btuple (by decide +kernel) (pa_cons (pe_callBK (NSK.cr_sortedKS rfl) (by rfl) TA.bsorted (by decide +kernel) (pa_cons (pv 6) pa_nil) (pk_cons (pe_bltn (v := .ty "str") (by rfl) T.bstr (by decide +kernel) rfl) pk_nil)) pa_nil)) rfl)
      (pss_cons (ps_fld (pv 0) (pv 10) rfl)
      (pss_one (ps_fld (pv 0) (pe_callTy call_tuple_of (by rfl) T.btuple (by decide +kernel) (pa_cons (pe_callBK (NSK.cr_sortedKS rfl) (by rfl) TA.bsorted (by decide +kernel) (pa_cons (pv 8) pa_nil) (pk_cons (pe_bltn (v := .ty "str") (by rfl) T.bstr (by decide +kernel) rfl) pk_nil)) pa_nil)) rfl)))))))))))), ?_⟩
    intro Pd hPd
    have s0 : Same H (upd H Pd (.dK [])) := Same.new hPd
    dsimp only [tPairs, tC]
    refine tupR (i := 1) rfl (ar.a.same s0) fun p1 H1 s1 a1 => ?_
    have g1 := s1
    have s1 := s0.trans s1
    refine optR (i := 2) rfl (ar.l.same s1) fun w2 H2 s2 a2 => ?_
    have t2 := s1.trans s2
    refine tupR (i := 3) rfl (ar.b.same t2) fun p3 H3 s3 a3 => ?_
    have t3 := t2.trans s3
    refine optR (i := 4) rfl (ar.s.same t3) fun w4 H4 s4 a4 => ?_
    have t4 := t3.trans s4
    refine tupR (i := 5) rfl (ar.h.same t4) fun p5 H5 s5 a5 => ?_
    have t5 := t4.trans s5
    have a4 := a4.same s5
    have a3 := (a3.same s4).same s5
    have a2 := ((a2.same s3).same s4).same s5
    have a1 := (((a1.same s2).same s3).same s4).same s5
    have gP5 : H5 Pd = some (.dK []) := s5 _ _ (s4 _ _ (s3 _ _ (s2 _ _ (g1 _ _ upd_same))))
    refine ⟨gP5, kvsP (.ref p1) w2 (.ref p3) w4 (.ref p5), rfl, by show 5 ≤ 15; decide, ?_⟩
    have hm : mergeK [] (kvsP (.ref p1) w2 (.ref p3) w4 (.ref p5)) = kvsP (.ref p1) w2 (.ref p3) w4 (.ref p5) := rfl
    rw [hm]
    have kd : KD H5 (upd H5 Pd (.dK (kvsP (.ref p1) w2 (.ref p3) w4 (.ref p5)))) := fun b o e n => by
      have ne : b ≠ Pd := fun z => by
        rw [z, gP5] at e
        exact n _ (Option.some.inj e).symm
      rw [upd_ne ne]
      exact e
    have par : PartsD K d (upd H5 Pd (.dK (kvsP (.ref p1) w2 (.ref p3) w4 (.ref p5)))) Pd t.g :=
      ⟨_, _, _, _, _, upd_same, ⟨p1, rfl, a1.kd kd⟩, a2.kd kd, ⟨p3, rfl, a3.kd kd⟩, a4.kd kd, ⟨p5, rfl, a5.kd kd⟩⟩
    have t6 : Same H (upd H5 Pd (.dK (kvsP (.ref p1) w2 (.ref p3) w4 (.ref p5)))) := sameUpd t5 hPd
    clear kd gP5 a1 a2 a3 a4 a5 t5 t4 t3 t2 s1 g1 s0 hm s2 s3 s4 s5 hPd
    generalize (upd H5 Pd (.dK (kvsP (.ref p1) w2 (.ref p3) w4 (.ref p5)))) = H6 at *
    obtain ⟨gv, rfl, hgv⟩ := ar.gv
    obtain ⟨rs, rfl, hrs⟩ := ar.rs
    refine agR (i := 7) (l := t.ag) rfl (ar.ag.imp id fun ⟨p, e, h⟩ => ⟨p, e, t6 _ _ h⟩) fun a ha => ?_
    have t7 := t6.trans (Same.new (o := .dK (agK t.ag)) ha)
    have B7 : PSt K d t x C dx Pd a gv rs H (upd H6 a (.dK (agK t.ag))) [] := ⟨t7 _ _ hx, par.same (Same.new ha), upd_same, hgv.same t7, hrs.same t7, fun b o _ e => t7 _ _ e⟩
    clear par t6 ha
    generalize (upd H6 a (.dK (agK t.ag))) = H7 at *
    refine ⟨_, rfl, Pd, t.g, rfl, B7.par, ok.shape, ?_⟩
    refine ⟨_, rfl, Pd, t.g, rfl, B7.par, ?_⟩
    cases hm : t.g.many with
    | some m => exact fun dd H' tl => q0.some hm dd H' (tl.old t7)
    | none =>
    have q := q0.none hm
    clear q0
    refine fun H8 s8 => ?_
    have B8 := B7.same s8
    refine ⟨_, rfl, _, rfl, _, rfl, gv, a, rs, t.us, t.rs, t.ag, rfl, B8.gv, B8.ag, B8.rs, ok.us, ok.ag, ok.rs, fun H9 s9 => ?_⟩
    have B9 := B8.same s9
    have ok := ok.ok hm
    obtain ⟨pool, hp1, hp2⟩ := ok.six
    refine ⟨_, rfl, _, rfl, _, rfl, _, rfl, Pd, gv, a, rs, t.g, t.us, t.rs, pool, t.ag, rfl, B9.par, B9.gv, B9.ag, B9.rs, hp1, hp2, ok.size, fun ns nt H10 nasc s10 hnt gnt => ?_⟩
    have B10 := B9.same s10
    refine ⟨_, rfl, x, C, dx, _, rfl, B10.hx, pc.cl, pc.n1, by decide, ?_⟩
    have B11 := B10.put (fs2 := [("_names", .ref nt)]) (fun v r e => by cases e)
    have gnt := tupUpd (o := .ins C dx [("_names", .ref nt)]) gnt B10.hx
    clear B7 B8 B9 s8 s9 s10 hnt
    rw [show putF (Str.ofString "_names") (V.ref nt) ([] : List (Str × V)) = ([("_names", .ref nt)] : List (Str × V)) from rfl]
    generalize (upd H10 x (.ins C dx [("_names", .ref nt)])) = H11 at *
    clear B10
    refine ⟨_, rfl, _, rfl, _, rfl, _, rfl, Pd, gv, a, rs, t.g, t.us, t.rs, t.ag, rfl, B11.par, B11.gv, B11.ag, B11.rs, ok.rs.few, by have := ok.size; omega, ok.v, fun H12 s12 => ?_⟩
    have B12 := B11.same s12
    have gnt := s12 _ _ gnt
    refine ⟨_, rfl, _, rfl, x, C, dx, _, rfl, B12.hx, pc.cl, pc.n2, by show 1 < 1000; decide, ?_⟩
    have B13 := B12.put (fs2 := [("_names", .ref nt), ("_parts", .ref Pd)]) (noUses (by decide +kernel))
    have gnt := tupUpd (o := .ins C dx [("_names", .ref nt), ("_parts", .ref Pd)]) gnt B12.hx
    rw [show putF (Str.ofString "_parts") (V.ref Pd) ([("_names", .ref nt)] : List (Str × V)) = ([("_names", .ref nt), ("_parts", .ref Pd)] : List (Str × V)) from rfl]
    generalize (upd H12 x (.ins C dx [("_names", .ref nt), ("_parts", .ref Pd)])) = H13 at *
    clear B12 B11 s12
    refine ⟨_, rfl, gv, t.us, rfl, rfl, B13.gv.imp id .inl, by have := ok.us.few; omega, fun gs p pm srt hp => ?_⟩
    have s14 : Same H13 (upd H13 p (.lst (gs.map V.str))) := Same.new hp
    refine ⟨p, _, rfl, .inl ⟨SqL.of upd_same, fun gt hgt => ?_⟩⟩
    have s15 := s14.trans (Same.new (o := .tup (gs.map V.str)) hgt)
    have B15 := B13.same s15
    have gnt := s15 _ _ gnt
    have ggt : (upd (upd H13 p (.lst (gs.map V.str))) gt (.tup (gs.map V.str))) gt = some (.tup (gs.map V.str)) := upd_same
    clear s14 s15 hgt hp
    generalize (upd (upd H13 p (.lst (gs.map V.str))) gt (.tup (gs.map V.str))) = H15 at *
    refine ⟨_, rfl, x, C, dx, _, rfl, B15.hx, pc.cl, pc.n3, by show 2 < 1000; decide, ?_⟩
    have B16 := B15.put (fs2 := [("_names", .ref nt), ("_parts", .ref Pd), ("_given", .ref gt)]) (noUses (by decide +kernel))
    have gnt := tupUpd (o := .ins C dx [("_names", .ref nt), ("_parts", .ref Pd), ("_given", .ref gt)]) gnt B15.hx
    have ggt := tupUpd (o := .ins C dx [("_names", .ref nt), ("_parts", .ref Pd), ("_given", .ref gt)]) ggt B15.hx
    rw [show putF (Str.ofString "_given") (V.ref gt) ([("_names", .ref nt), ("_parts", .ref Pd)] : List (Str × V)) = ([("_names", .ref nt), ("_parts", .ref Pd), ("_given", .ref gt)] : List (Str × V)) from rfl]
    generalize (upd H15 x (.ins C dx [("_names", .ref nt), ("_parts", .ref Pd), ("_given", .ref gt)])) = H16 at *
    refine ⟨_, rfl, _, rfl, x, C, dx, _, rfl, B16.hx, pc.cl, pc.n4, by show 3 < 1000; decide, ?_⟩
    have B17 := B16.put (fs2 := [("_names", .ref nt), ("_parts", .ref Pd), ("_given", .ref gt), ("_again", .ref a)]) (noUses (by decide +kernel))
    have gnt := tupUpd (o := .ins C dx [("_names", .ref nt), ("_parts", .ref Pd), ("_given", .ref gt), ("_again", .ref a)]) gnt B16.hx
    have ggt := tupUpd (o := .ins C dx [("_names", .ref nt), ("_parts", .ref Pd), ("_given", .ref gt), ("_again", .ref a)]) ggt B16.hx
    rw [show putF (Str.ofString "_again") (V.ref a) ([("_names", .ref nt), ("_parts", .ref Pd), ("_given", .ref gt)] : List (Str × V)) = ([("_names", .ref nt), ("_parts", .ref Pd), ("_given", .ref gt), ("_again", .ref a)] : List (Str × V)) from rfl]
    generalize (upd H16 x (.ins C dx [("_names", .ref nt), ("_parts", .ref Pd), ("_given", .ref gt), ("_again", .ref a)])) = H17 at *
    clear B13 B15 B16
    refine ⟨_, rfl, rs, t.rs, rfl, rfl, B17.rs.imp id .inl, by have := ok.rs.few; omega, fun ws p2 pm2 srt2 hp2 => ?_⟩
    have s18 : Same H17 (upd H17 p2 (.lst (ws.map V.str))) := Same.new hp2
    refine ⟨p2, _, rfl, .inl ⟨SqL.of upd_same, fun rt hrt => ?_⟩⟩
    have s19 := s18.trans (Same.new (o := .tup (ws.map V.str)) hrt)
    have B19 := B17.same s19
    have gnt := s19 _ _ gnt
    have ggt := s19 _ _ ggt
    have grt : (upd (upd H17 p2 (.lst (ws.map V.str))) rt (.tup (ws.map V.str))) rt = some (.tup (ws.map V.str)) := upd_same
    clear s18 s19 hrt hp2
    generalize (upd (upd H17 p2 (.lst (ws.map V.str))) rt (.tup (ws.map V.str))) = H19 at *
    refine ⟨_, rfl, x, C, dx, _, rfl, B19.hx, pc.cl, pc.n5, by show 4 < 1000; decide, ?_⟩
    have B20 := B19.put (fs2 := [("_names", .ref nt), ("_parts", .ref Pd), ("_given", .ref gt), ("_again", .ref a), ("_results", .ref rt)]) (noUses (by decide +kernel))
    have gnt := tupUpd (o := .ins C dx [("_names", .ref nt), ("_parts", .ref Pd), ("_given", .ref gt), ("_again", .ref a), ("_results", .ref rt)]) gnt B19.hx
    have ggt := tupUpd (o := .ins C dx [("_names", .ref nt), ("_parts", .ref Pd), ("_given", .ref gt), ("_again", .ref a), ("_results", .ref rt)]) ggt B19.hx
    have grt := tupUpd (o := .ins C dx [("_names", .ref nt), ("_parts", .ref Pd), ("_given", .ref gt), ("_again", .ref a), ("_results", .ref rt)]) grt B19.hx
    exact q _ B20.bt ⟨dx, nt, Pd, gt, a, rt, ns, gs, ws, B20.hx, gnt, B20.par, ggt, B20.ag, grt, nasc, asc_of pm srt ok.us.nr, asc_of pm2 srt2 ok.rs.nr⟩
end
end K06

set_option Elab.async false
set_option linter.all false
set_option maxRecDepth 100000
set_option maxHeartbeats 4000000
/-! Programs made out of a program: what is asked of them. -/
namespace K06
open PySem L2 NX NU
open PyProof.Rows (sortedS)
def rep (n : Nat) (as : List Act) : List Act := (List.replicate n as).flatten
theorem rep_succ (n : Nat) (as : List Act) : rep (n + 1) as = as ++ rep n as := by
  unfold rep
  rw [List.replicate_succ, List.flatten_cons]
theorem rep_zero (as : List Act) : rep 0 as = [] := rfl
theorem rep_nil : ∀ n : Nat, rep n [] = []
  | 0 => rfl
  | n + 1 => by rw [rep_succ, rep_nil n]; rfl
theorem rep_len (n : Nat) (as : List Act) : (rep n as).length = n * as.length := by
  induction n with
  | zero => rw [rep_zero, Nat.zero_mul]; rfl
  | succ n ih => rw [rep_succ, List.length_append, ih, Nat.succ_mul]; omega
theorem rep_mem {n : Nat} {as : List Act} {a : Act} (h : a ∈ rep n as) : a ∈ as := by
  induction n with
  | zero => cases h
  | succ n ih =>
    rw [rep_succ, List.mem_append] at h
    exact h.elim id ih
theorem rep_add (n m : Nat) (as : List Act) : rep (n + m) as = rep n as ++ rep m as := by
  induction n with
  | zero => rw [Nat.zero_add, rep_zero, List.nil_append]
  | succ n ih => rw [Nat.succ_add, rep_succ, rep_succ, ih, List.append_assoc]
theorem rep_mul (n m : Nat) (as : List Act) : rep n (rep m as) = rep (m * n) as := by
  induction n with
  | zero => rw [Nat.mul_zero]; rfl
  | succ n ih => rw [rep_succ, ih, Nat.mul_succ, Nat.add_comm, rep_add]
/-- a loop begun within: the same deeds -/
theorem rep_turn (x y : List Act) (n : Nat) : x ++ rep n (y ++ x) ++ y = rep (n + 1) (x ++ y) := by
  induction n with
  | zero => rw [rep_zero, List.append_nil, Nat.zero_add, rep_succ, rep_zero, List.append_nil]
  | succ n ih => rw [rep_succ (n + 1) (x ++ y), ← ih, rep_succ]; simp only [List.append_assoc]
theorem aft_app (kn : List Str) (as bs : List Act) : aft kn (as ++ bs) = aft (aft kn as) bs := by
  unfold aft
  rw [List.map_append, List.flatten_append, List.append_assoc]
theorem aft_sub {kn : List Str} {as : List Act} : ∀ z, z ∈ kn → z ∈ aft kn as := fun z h => by
  unfold aft
  exact List.mem_append_left _ h
theorem aft_mono {A B : List Str} (as : List Act) (h : ∀ z, z ∈ A → z ∈ B) : ∀ z, z ∈ aft A as → z ∈ aft B as := fun z hz => by
  unfold aft at hz ⊢
  rw [List.mem_append] at hz ⊢
  exact hz.imp (h z) id
theorem uses_mono {ag : List Str} : ∀ {as : List Act} {kn kn2 : List Str}, (∀ z, z ∈ kn → z ∈ kn2) → UsesOk ag kn as → UsesOk ag kn2 as
  | [], _, _, _, _ => trivial
  | a :: r, kn, kn2, e, h => ⟨fun z hz => e z (h.1 z hz), h.2.1, uses_mono (fun z hz => (List.mem_append.mp hz).elim (fun k => List.mem_append_left _ (e z k)) fun k => List.mem_append_right _ k) h.2.2⟩
theorem uses_app {ag : List Str} : ∀ {as bs : List Act} {kn : List Str}, UsesOk ag kn as → UsesOk ag (aft kn as) bs → UsesOk ag kn (as ++ bs)
  | [], bs, kn, _, h => by rw [aft_nil] at h; exact h
  | a :: r, bs, kn, h1, h2 => ⟨h1.1, h1.2.1, uses_app h1.2.2 (by rw [aft_cons] at h2; exact h2)⟩
theorem uses_left {ag : List Str} : ∀ {as bs : List Act} {kn : List Str}, UsesOk ag kn (as ++ bs) → UsesOk ag kn as ∧ UsesOk ag (aft kn as) bs
  | [], bs, kn, h => ⟨trivial, by rw [aft_nil]; exact h⟩
  | a :: r, bs, kn, h => by
    obtain ⟨h1, h2⟩ := uses_left h.2.2
    exact ⟨⟨h.1, h.2.1, h1⟩, by rw [aft_cons]; exact h2⟩
theorem uses_rep {ag : List Str} (n : Nat) {as : List Act} : ∀ {kn : List Str}, UsesOk ag kn as → UsesOk ag kn (rep n as) := by
  induction n with
  | zero => exact fun _ => trivial
  | succ n ih => exact fun {kn} h => by rw [rep_succ]; exact uses_app h (ih (uses_mono aft_sub h))
theorem last_mono {g : Prg} {A B : List Str} (h : ∀ z, z ∈ A → z ∈ B) : ∀ i z, z ∈ g.lastAt A i → z ∈ g.lastAt B i
  | 0, z, hz => h z hz
  | n + 1, z, hz => by
    have ih := last_mono (g := g) h n
    unfold Prg.lastAt at hz ⊢
    by_cases c : n = 1 ∨ n = 3
    · rw [if_pos c] at hz ⊢
      exact ih z hz
    · rw [if_neg c] at hz ⊢
      exact aft_mono _ ih z hz
theorem vok_mono {g : Prg} {A B ag rs rs2 : List Str} (h : ∀ z, z ∈ A → z ∈ B) (hr : ∀ z, z ∈ rs2 → z ∈ rs) (v : g.VOk A ag rs) : g.VOk B ag rs2 :=
  ⟨fun i i5 => uses_mono (last_mono h i) (v.uses i i5), fun z hz => last_mono h 5 z (v.res z (hr z hz))⟩
theorem actsN_mem {as bs : List Act} (h : ∀ a ∈ as, a ∈ bs) : ∀ z ∈ actsN as, z ∈ actsN bs := fun z hz => by
  unfold actsN at hz ⊢
  rw [List.mem_flatten] at hz ⊢
  obtain ⟨l, hl, hz⟩ := hz
  obtain ⟨a, ha, rfl⟩ := List.mem_map.mp hl
  exact ⟨_, List.mem_map_of_mem (h a ha), hz⟩
theorem acts_eq (g : Prg) : g.acts = g.a ++ g.l.getD [] ++ g.b ++ g.s.getD [] ++ g.h := by
  show (((((([] ++ g.a) ++ g.l.getD []) ++ g.b) ++ g.s.getD []) ++ g.h)) = _
  rw [List.nil_append]
theorem acts_mem {g : Prg} {a : Act} : a ∈ g.acts ↔ a ∈ g.a ∨ a ∈ g.l.getD [] ∨ a ∈ g.b ∨ a ∈ g.s.getD [] ∨ a ∈ g.h := by
  rw [acts_eq]
  simp only [List.mem_append, or_assoc]
theorem acts_len (g : Prg) : g.acts.length = g.a.length + (g.l.getD []).length + g.b.length + (g.s.getD []).length + g.h.length := by
  rw [acts_eq]
  simp only [List.length_append]
theorem nodupLen {ws pool : List Str} (h : ws.Nodup) (k : ∀ z ∈ ws, z ∈ pool) : ws.length ≤ pool.length := by
  rw [← many_of ws h]
  exact many_in ws pool k
/-- another program of the same deeds and names -/
theorem derive {t : Tol} {g' : Prg} {gs rs : List Str} (ok : t.Ok) (ag : Asc gs t.us) (ar : Asc rs t.rs) (sh : g'.Shape) (sub : ∀ a ∈ g'.acts, a ∈ t.g.acts) (len : g'.many = none → g'.acts.length ≤ 224) (v : g'.VOk (t.us ++ t.ag.map (·.1)) (t.ag.map (·.1)) t.rs) : Tol.OkS ⟨g', gs, t.ag, rs⟩ := by
  obtain ⟨pool, hp, h6⟩ := ok.six
  have pu : ∀ z ∈ t.us, z ∈ pool := fun z hz => hp z (by unfold Tol.words; simp [hz])
  have pr : ∀ z ∈ t.rs, z ∈ pool := fun z hz => hp z (by unfold Tol.words; simp [hz])
  have lg : gs.length ≤ 6 := Nat.le_trans (nodupLen ag.2.1 fun z hz => pu z ((ag.2.2 z).mp hz)) h6
  have lr : rs.length ≤ 6 := Nat.le_trans (nodupLen ar.2.1 fun z hz => pr z ((ar.2.2 z).mp hz)) h6
  have la := ok.ag.few
  refine ⟨sh, ⟨fun z hz => ok.us.nm_ z ((ag.2.2 z).mp hz), ag.2.1, by show gs.length < 60; omega⟩, ok.ag, ⟨fun z hz => ok.rs.nm_ z ((ar.2.2 z).mp hz), ar.2.1, by show rs.length < 60; omega⟩, ⟨pool, fun z hz => ?_, h6⟩, fun m => ?_, vok_mono (fun z hz => ?_) (fun z hz => (ar.2.2 z).mp hz) v⟩
  · unfold Tol.words at hz
    dsimp only at hz
    rw [List.mem_append, List.mem_append, List.mem_append] at hz
    refine hp z ?_
    unfold Tol.words
    rw [List.mem_append, List.mem_append, List.mem_append]
    rcases hz with ((k | k) | k) | k
    · exact .inl (.inl (.inl ((ag.2.2 z).mp k)))
    · exact .inl (.inl (.inr k))
    · exact .inl (.inr ((ar.2.2 z).mp k))
    · exact .inr (actsN_mem sub z k)
  · have := len m
    show gs.length + t.ag.length + rs.length + 4 * g'.acts.length ≤ 1000
    omega
  · exact (List.mem_append.mp hz).elim (fun k => List.mem_append_left _ ((ag.2.2 z).mpr k)) fun k => List.mem_append_right _ k
theorem asc_conv {ys a b : List Str} (h : Asc ys a) (e : ∀ z, z ∈ a ↔ z ∈ b) : Asc ys b := ⟨h.1, h.2.1, fun y => (h.2.2 y).trans (e y)⟩
theorem IsP.conv {K : PySem.W.Frag} {d : D3} {H : Hp} {x C : Addr} {t t' : Tol} (h : IsP K d H x C t) (eg : t.g = t'.g) (ea : t.ag = t'.ag) (eu : ∀ z, z ∈ t.us ↔ z ∈ t'.us) (er : ∀ z, z ∈ t.rs ↔ z ∈ t'.rs) : IsP K d H x C t' := by
  obtain ⟨dx, nt, P, gt, ag, rt, ns, gs, rs, a, b, c, e, f, g, h1, h2, h3⟩ := h.ex
  rw [eg] at c
  rw [ea] at f
  refine ⟨dx, nt, P, gt, ag, rt, ns, gs, rs, a, b, c, e, f, g, asc_conv h1 fun z => ?_, asc_conv h2 eu, asc_conv h3 er⟩
  unfold Tol.words
  rw [List.mem_append, List.mem_append, List.mem_append, List.mem_append, List.mem_append, List.mem_append, eu z, er z, eg, ea]
/-! the four -/
def Prg.lp (g : Prg) : List Act := g.l.getD []
def Prg.flat (g : Prg) (n m : Nat) : Prg := ⟨g.a ++ rep n (g.l.getD []) ++ g.b ++ rep m (g.s.getD []) ++ g.h, none, [], none, []⟩
def Prg.pow (g : Prg) (j : Nat) : Prg := ⟨g.a, some (rep j (g.l.getD [])), [], none, g.h⟩
def Prg.unr (g : Prg) (j : Nat) : Prg := ⟨g.a ++ rep j (g.l.getD []), some (g.l.getD []), [], none, g.h⟩
def Prg.tur (g : Prg) (j : Nat) : Prg := ⟨g.a ++ (g.l.getD []).take j, some ((g.l.getD []).drop j ++ (g.l.getD []).take j), [], none, (g.l.getD []).drop j ++ g.h⟩
section
variable {g : Prg} {bs ag rs : List Str}
theorem v0 (v : g.VOk bs ag rs) : UsesOk ag bs g.a := v.uses 0 (by decide)
theorem v1 (v : g.VOk bs ag rs) : UsesOk ag (aft bs g.a) (g.l.getD []) := v.uses 1 (by decide)
theorem v2 (v : g.VOk bs ag rs) : UsesOk ag (aft bs g.a) g.b := v.uses 2 (by decide)
theorem v3 (v : g.VOk bs ag rs) : UsesOk ag (aft (aft bs g.a) g.b) (g.s.getD []) := v.uses 3 (by decide)
theorem v4 (v : g.VOk bs ag rs) : UsesOk ag (aft (aft bs g.a) g.b) g.h := v.uses 4 (by decide)
theorem v5 (v : g.VOk bs ag rs) : ∀ z ∈ rs, z ∈ aft (aft (aft bs g.a) g.b) g.h := v.res
theorem vok_of {g' : Prg} (h0 : UsesOk ag bs g'.a) (h1 : UsesOk ag (aft bs g'.a) (g'.l.getD [])) (eb : g'.b = []) (es : g'.s = none) (h4 : UsesOk ag (aft bs g'.a) g'.h) (h5 : ∀ z ∈ rs, z ∈ aft (aft bs g'.a) g'.h) : g'.VOk bs ag rs := by
  refine ⟨fun i i5 => ?_, fun z hz => ?_⟩
  · rcases five i5 with rfl | rfl | rfl | rfl | rfl
    · exact h0
    · exact h1
    · show UsesOk _ _ g'.b
      rw [eb]; exact trivial
    · show UsesOk _ _ (g'.s.getD [])
      rw [es]; exact trivial
    · show UsesOk _ (aft (aft bs g'.a) g'.b) g'.h
      rw [eb, aft_nil]; exact h4
  · show z ∈ aft (aft (aft bs g'.a) g'.b) g'.h
    rw [eb, aft_nil]; exact h5 z hz
theorem flat_v (v : g.VOk bs ag rs) (n m : Nat) : (g.flat n m).VOk bs ag rs := by
  refine vok_of (g' := g.flat n m) ?_ trivial rfl rfl trivial (fun z hz => ?_)
  · refine uses_app (uses_app (uses_app (uses_app (v0 v) (uses_rep n (v1 v))) ?_) (uses_rep m ?_)) ?_
    · rw [aft_app]; exact uses_mono aft_sub (v2 v)
    · rw [aft_app, aft_app]; exact uses_mono (aft_mono _ aft_sub) (v3 v)
    · rw [aft_app, aft_app, aft_app]; exact uses_mono (fun z hz => aft_sub z (aft_mono _ aft_sub z hz)) (v4 v)
  · show z ∈ aft (aft bs (g.a ++ rep n (g.l.getD []) ++ g.b ++ rep m (g.s.getD []) ++ g.h)) []
    rw [aft_nil, aft_app, aft_app, aft_app, aft_app]
    exact aft_mono _ (fun z hz => aft_sub z (aft_mono _ aft_sub z hz)) z (v5 v z hz)
theorem pow_v (v : g.VOk bs ag rs) (eb : g.b = []) (j : Nat) : (g.pow j).VOk bs ag rs := by
  have h4 := v4 v
  have h5 := v5 v
  rw [eb, aft_nil] at h4 h5
  exact vok_of (g' := g.pow j) (show UsesOk ag bs g.a from v0 v) (show UsesOk ag (aft bs g.a) (rep j (g.l.getD [])) from uses_rep j (v1 v)) rfl rfl h4 h5
theorem unr_v (v : g.VOk bs ag rs) (eb : g.b = []) (j : Nat) : (g.unr j).VOk bs ag rs := by
  have h4 := v4 v
  have h5 := v5 v
  rw [eb, aft_nil] at h4 h5
  refine vok_of (g' := g.unr j) (uses_app (v0 v) (uses_rep j (v1 v))) ?_ rfl rfl ?_ (fun z hz => ?_)
  · show UsesOk ag (aft bs (g.a ++ rep j (g.l.getD []))) (g.l.getD [])
    rw [aft_app]; exact uses_mono aft_sub (v1 v)
  · show UsesOk ag (aft bs (g.a ++ rep j (g.l.getD []))) g.h
    rw [aft_app]; exact uses_mono aft_sub h4
  · show z ∈ aft (aft bs (g.a ++ rep j (g.l.getD []))) g.h
    rw [aft_app]; exact aft_mono _ aft_sub z (h5 z hz)
theorem tur_v (v : g.VOk bs ag rs) (eb : g.b = []) (j : Nat) : (g.tur j).VOk bs ag rs := by
  have h4 := v4 v
  have h5 := v5 v
  rw [eb, aft_nil] at h4 h5
  have h1 := v1 v
  have cut : (g.l.getD []).take j ++ (g.l.getD []).drop j = g.l.getD [] := List.take_append_drop _ _
  have h12 : UsesOk ag (aft bs g.a) ((g.l.getD []).take j ++ (g.l.getD []).drop j) := by rw [cut]; exact h1
  obtain ⟨ht, hd⟩ := uses_left h12
  refine vok_of (g' := g.tur j) (uses_app (v0 v) ht) ?_ rfl rfl ?_ (fun z hz => ?_)
  · show UsesOk ag (aft bs (g.a ++ _)) ((g.l.getD []).drop j ++ (g.l.getD []).take j)
    rw [aft_app]
    exact uses_app hd (uses_mono (fun z hz => aft_sub z (aft_sub z hz)) ht)
  · show UsesOk ag (aft bs (g.a ++ _)) ((g.l.getD []).drop j ++ g.h)
    rw [aft_app]
    exact uses_app hd (uses_mono (fun z hz => aft_sub z (aft_sub z hz)) h4)
  · show z ∈ aft (aft bs (g.a ++ _)) ((g.l.getD []).drop j ++ g.h)
    rw [aft_app, aft_app]
    exact aft_mono _ (fun z hz => aft_sub z (aft_sub z hz)) z (h5 z hz)
theorem flat_in {n m : Nat} : ∀ a ∈ (g.flat n m).acts, a ∈ g.acts := fun a h => by
  rw [acts_mem] at h ⊢
  have h : a ∈ g.a ++ rep n (g.l.getD []) ++ g.b ++ rep m (g.s.getD []) ++ g.h ∨ a ∈ ([] : List Act) ∨ a ∈ ([] : List Act) ∨ a ∈ ([] : List Act) ∨ a ∈ ([] : List Act) := h
  rcases h with h | h | h | h | h
  · rw [List.mem_append, List.mem_append, List.mem_append, List.mem_append] at h
    rcases h with (((h | h) | h) | h) | h
    · exact .inl h
    · exact .inr (.inl (rep_mem h))
    · exact .inr (.inr (.inl h))
    · exact .inr (.inr (.inr (.inl (rep_mem h))))
    · exact .inr (.inr (.inr (.inr h)))
  all_goals cases h
theorem pow_in {j : Nat} : ∀ a ∈ (g.pow j).acts, a ∈ g.acts := fun a h => by
  rw [acts_mem] at h ⊢
  have h : a ∈ g.a ∨ a ∈ rep j (g.l.getD []) ∨ a ∈ ([] : List Act) ∨ a ∈ ([] : List Act) ∨ a ∈ g.h := h
  rcases h with h | h | h | h | h
  · exact .inl h
  · exact .inr (.inl (rep_mem h))
  · cases h
  · cases h
  · exact .inr (.inr (.inr (.inr h)))
theorem unr_in {j : Nat} : ∀ a ∈ (g.unr j).acts, a ∈ g.acts := fun a h => by
  rw [acts_mem] at h ⊢
  have h : a ∈ g.a ++ rep j (g.l.getD []) ∨ a ∈ g.l.getD [] ∨ a ∈ ([] : List Act) ∨ a ∈ ([] : List Act) ∨ a ∈ g.h := h
  rcases h with h | h | h | h | h
  · rw [List.mem_append] at h
    exact h.elim .inl fun h => .inr (.inl (rep_mem h))
  · exact .inr (.inl h)
  · cases h
  · cases h
  · exact .inr (.inr (.inr (.inr h)))
theorem tur_in {j : Nat} : ∀ a ∈ (g.tur j).acts, a ∈ g.acts := fun a h => by
  rw [acts_mem] at h ⊢
  have h : a ∈ g.a ++ (g.l.getD []).take j ∨ a ∈ (g.l.getD []).drop j ++ (g.l.getD []).take j ∨ a ∈ ([] : List Act) ∨ a ∈ ([] : List Act) ∨ a ∈ (g.l.getD []).drop j ++ g.h := h
  rcases h with h | h | h | h | h
  · rw [List.mem_append] at h
    exact h.elim .inl fun h => .inr (.inl (List.mem_of_mem_take h))
  · rw [List.mem_append] at h
    exact .inr (.inl (h.elim List.mem_of_mem_drop List.mem_of_mem_take))
  · cases h
  · cases h
  · rw [List.mem_append] at h
    exact h.elim (fun h => .inr (.inl (List.mem_of_mem_drop h))) fun h => .inr (.inr (.inr (.inr h)))
/-- none too many: 224 deeds at most -/
theorem few_of {g' : Prg} (eb : g'.b = []) (es : g'.s = none) (m : g'.many = none) : g'.acts.length ≤ 224 := by
  have z := many_sizes m
  have a := z.all
  have l := z.l
  rw [acts_len, es, eb]
  rw [eb] at a
  show _ + _ + 0 + 0 + _ ≤ 224
  have a : g'.a.length + 0 + g'.h.length ≤ 200 := a
  omega
end
end K06

set_option Elab.async false
set_option linter.all false
set_option maxRecDepth 100000
set_option maxHeartbeats 4000000
/-! is_count of any value; check_one_loop, repeated. -/
namespace K06
open PySem L2 NX NU
open PyProof.Rows (sortedS)
abbrev sCol : Stmt := top 66
abbrev sRep : Stmt := top 67
theorem scCol : FnScope ["program"] ["program"] (defScope sCol) := ⟨rfl, rfl, rfl, by decide +kernel, rfl, by decide +kernel, by decide +kernel⟩
theorem scRep : FnScope ["deeds", "rounds", "most"] ["deeds", "rounds", "most"] (defScope sRep) := ⟨rfl, rfl, rfl, by decide +kernel, rfl, by decide +kernel, by decide +kernel⟩
/-- the error classes -/
structure C6 where
  b : Addr
  m : Addr
  n : Addr
  t : Addr
/-- what is refused: a value that is no number, too many deeds, no loop, two loops -/
inductive F6
  | num (v : V)
  | many (m : Nat)
  | none
  | two
def Ends6 (c : C6) (H : Hp) (E : XK) (ok : Prop) : Option F6 → Prop
  | .none => ok
  | .some (.num v) => ∀ d H', Told H d "value" v H' → E (.ref c.b) (some d) H'
  | .some (.many m) => ∀ d H', Told H d "most" (.int (m : Nat)) H' → E (.ref c.m) (some d) H'
  | .some .none => ∀ H', Same H H' → E (.ref c.n) Option.none H'
  | .some .two => ∀ H', Same H H' → E (.ref c.t) Option.none H'
theorem Ends6.ok {c : C6} {H : Hp} {E : XK} {ok : Prop} {r : Option F6} (e : r = .none) (h : Ends6 c H E ok r) : ok := by subst e; exact h
theorem Ends6.num {c : C6} {H : Hp} {E : XK} {ok : Prop} {r : Option F6} {v : V} (e : r = .some (.num v)) (h : Ends6 c H E ok r) : ∀ d H', Told H d "value" v H' → E (.ref c.b) (some d) H' := by subst e; exact h
theorem Ends6.many {c : C6} {H : Hp} {E : XK} {ok : Prop} {r : Option F6} {m : Nat} (e : r = .some (.many m)) (h : Ends6 c H E ok r) : ∀ d H', Told H d "most" (.int (m : Nat)) H' → E (.ref c.m) (some d) H' := by subst e; exact h
theorem Ends6.no {c : C6} {H : Hp} {E : XK} {ok : Prop} {r : Option F6} (e : r = .some .none) (h : Ends6 c H E ok r) : ∀ H', Same H H' → E (.ref c.n) Option.none H' := by subst e; exact h
theorem Ends6.two {c : C6} {H : Hp} {E : XK} {ok : Prop} {r : Option F6} (e : r = .some .two) (h : Ends6 c H E ok r) : ∀ H', Same H H' → E (.ref c.t) Option.none H' := by subst e; exact h
/-- an error class without an __init__ -/
structure ErrC0 (K : PySem.W.Frag) (mg : Str → Option Value) (x : Str) (C : Addr) : Prop where
  g : mg x = some (.ref C)
  q : PySem.W.excIn K C [.type "ValueError", .type "Exception", .type "BaseException", .type "object"] "ValueError.__new__" = true
  kp : PySem.W.keepIn K (.ref C) = true
  r1 : PySem.W.subIn K (.ref C) (.type "BaseException") = some true
  r2 : PySem.W.typeIn K (.ref C) = some (.type "type")
theorem raise0 {X : Cx} {H : Hp} {C : Addr} {x : Str} (B : ErrC0 X.K X.mg x C) (s : Same X.H_0 H) {Q : XK} (k : ∀ H', Same H H' → Q (.ref C) none H') :
    NX.tMkV0 C [] H fun v H1 => ∃ a cls, v = .ref a ∧ H1 a = some (ExO cls a) ∧ Fr0 X.H_0 a ∧ Raises X cls ∧ Q cls none (delH H1 a) := fun a ha => by
  refine ⟨a, .ref C, rfl, upd_same, fun o e => ?_, raises_own B.r1 B.r2, k _ fun b o e => ?_⟩
  · rw [s a o e] at ha
    cases ha
  · have n : b ≠ a := fun z => by rw [z, ha] at e; cases e
    rw [delH_ne n, upd_ne n]
    exact e
/-- a value whose type is no kind of int -/
def NoInt (K : PySem.W.Frag) (H : Hp) (x : V) : Prop := ∃ t, TyX K H x t ∧ PySem.W.kitOne K t (.type "int") = some false
theorem NoInt.same {K : PySem.W.Frag} {H H' : Hp} {x : V} (s : Same H H') (h : NoInt K H x) : NoInt K H' x := let ⟨t, a, b⟩ := h; ⟨t, NI.tyX_ext (LamX.ExtN.of s) a, b⟩
/-- which number from 0 a value is, if any -/
inductive Cn (K : PySem.W.Frag) (H : Hp) (v : V) : Option Nat → Prop
  | yes (n : Nat) : v = .int (n : Int) → Cn K H v (some n)
  | neg (n : Int) : v = .int n → n < 0 → Cn K H v none
  | bl (b : Bool) : v = .bl b → Cn K H v none
  | odd : NoInt K H v → Cn K H v none
theorem Cn.same {K : PySem.W.Frag} {H H' : Hp} {v : V} {r : Option Nat} (s : Same H H') (h : Cn K H v r) : Cn K H' v r := by
  cases h with
  | yes n e => exact .yes n e
  | neg n e l => exact .neg n e l
  | bl b e => exact .bl b e
  | odd h => exact .odd (h.same s)
def spNumA (K : PySem.W.Frag) : Sp := fun vs H Q _ => ∃ v, vs = [v] ∧ ((∃ n : Int, v = .int n ∧ Q (.bl true) H) ∨ (((∃ b, v = .bl b) ∨ NoInt K H v) ∧ Q (.bl false) H))
def spCntA (K : PySem.W.Frag) : Sp := fun vs H Q _ => ∃ v r, vs = [v] ∧ Cn K H v r ∧ Q (.bl r.isSome) H
/-- check_one_loop -/
def oneF (g : Prg) : Option F6 := if g.l.isNone then some .none else if g.s.isSome then some .two else none
def spCol (K : PySem.W.Frag) (d : D3) (C : Addr) (c : C6) : Sp := fun vs H Q E => ∃ (x : Addr) (t : Tol), vs = [.ref x] ∧ IsP K d H x C t ∧ Ends6 c H E (Q .non H) (oneF t.g)
/-- repeated: so many rounds of some deeds -/
def spRep (K : PySem.W.Frag) (d : D3) (c : C6) : Sp := fun vs H Q E => ∃ (p : Addr) (n most : Nat) (as : List Act), vs = [.ref p, .int (n : Int), .int (most : Int)] ∧ Deeds K d H p as ∧ as.length ≤ 1000 ∧ most ≤ 1000 ∧
  Ends6 c H E (∀ q H', Same H H' → Deeds K d H' q (rep n as) → Q (.ref q) H') (if n * as.length ≤ most then none else some (.many most))
theorem AllAt.app {d : D3} {H : Hp} {xs ys : List Addr} {as bs : List Act} (h : AllAt d H xs as) (k : AllAt d H ys bs) : AllAt d H (xs ++ ys) (as ++ bs) := by
  refine ⟨by rw [List.length_append, List.length_append, h.1, k.1], fun i x a e1 e2 => ?_⟩
  by_cases c : i < xs.length
  · rw [List.getElem?_append_left c] at e1
    rw [List.getElem?_append_left (by rw [← h.1]; exact c)] at e2
    exact h.2 i x a e1 e2
  · rw [List.getElem?_append_right (by omega)] at e1
    rw [List.getElem?_append_right (by rw [← h.1]; omega), ← h.1] at e2
    exact k.2 _ x a e1 e2
theorem AllAt.rep {d : D3} {H : Hp} {xs : List Addr} {as : List Act} (h : AllAt d H xs as) : ∀ n, AllAt d H (List.replicate n xs).flatten (rep n as)
  | 0 => ⟨rfl, fun i x a e => by cases e⟩
  | n + 1 => by
    rw [List.replicate_succ, List.flatten_cons, rep_succ]
    exact h.app (h.rep n)
theorem AllAt.take {d : D3} {H : Hp} {xs : List Addr} {as : List Act} (h : AllAt d H xs as) (j : Nat) : AllAt d H (xs.take j) (as.take j) := by
  refine ⟨by rw [List.length_take, List.length_take, h.1], fun i x a e1 e2 => ?_⟩
  by_cases c : i < j
  · rw [List.getElem?_take_of_lt c] at e1 e2
    exact h.2 i x a e1 e2
  · rw [List.getElem?_eq_none (by rw [List.length_take]; omega)] at e1
    cases e1
theorem AllAt.drop {d : D3} {H : Hp} {xs : List Addr} {as : List Act} (h : AllAt d H xs as) (j : Nat) : AllAt d H (xs.drop j) (as.drop j) := by
  refine ⟨by rw [List.length_drop, List.length_drop, h.1], fun i x a e1 e2 => ?_⟩
  rw [List.getElem?_drop] at e1 e2
  exact h.2 _ x a e1 e2
/-- a program's properties -/
structure PGet6 (P : Program) (w : World) (K : PySem.W.Frag) (mg : Str → Option Value) (base : Heap) (d : D3) (C : Addr) : Prop where
  cl : PCls K C
  a : Gt P w K mg base C "ahead" (spPt K d C 0)
  l : Gt P w K mg base C "loop" (spPt K d C 1)
  b : Gt P w K mg base C "between" (spPt K d C 2)
  s : Gt P w K mg base C "second" (spPt K d C 3)
  h : Gt P w K mg base C "behind" (spPt K d C 4)
  gv : Gt P w K mg base C "given" (spTg K d C fun t => t.us)
  ag : Gt P w K mg base C "again" (spAgn K d C)
  rs : Gt P w K mg base C "results" (spTg K d C fun t => t.rs)
  ns : Gt P w K mg base C "names" (spTg K d C Tol.words)
  lp : Gt P w K mg base C "loops" (spLps K d C)
theorem IsP.inst {K : PySem.W.Frag} {d : D3} {H : Hp} {x C : Addr} {t : Tol} (ip : IsP K d H x C t) : ∃ dx fs, H x = some (.ins C dx fs) := by
  obtain ⟨dx, nt, Pd, gt, ag, rt, ns, gs, rs, a, _⟩ := ip.ex
  exact ⟨dx, _, a⟩
section
variable {P : Program} {w : World} {K : PySem.W.Frag} {mg : Str → Option Value} {base : Heap}
theorem ok_numA {f : Addr} {fd : FuncData} (F : Fun K "is_number" "is_number" sNum f fd) (T : TxtB mg) (N : TxtP mg) : FnOk P w K mg base CX0 1 f fd ["value"] (spNumA K) := by
  refine F.ok scNum (fun vs H Q E h => ?_) (fun cdv A outer s H vs Q E hr h => ?_)
  · obtain ⟨v, rfl, _⟩ := h
    rfl
  · obtain ⟨v, rfl, h⟩ := h
    refine ⟨_, pss_one (ps_ret (pe_and (pe_callB call_isi (by rfl) T.bisinstance (by decide +kernel) (pa_cons (pv 0) (pa_cons (pe_bltn (v := .ty "int") (by rfl) T.bint (by decide +kernel) rfl) pa_nil)))
      (pe_one (pe_not (pe_callB call_isi (by rfl) T.bisinstance (by decide +kernel) (pa_cons (pv 0) (pa_cons (pe_bltn (v := .ty "bool") (by rfl) N.bbool (by decide +kernel) rfl) pa_nil))))))), ?_⟩
    rcases h with ⟨n, rfl, q⟩ | ⟨⟨b, rfl⟩ | ⟨t, ty, kt⟩, q⟩
    · refine ⟨_, rfl, _, _, _, _, true, rfl, .ty "int", .base (.int _), kit_ty (by decide +kernel), true, rfl, ?_⟩
      exact iteT ⟨_, rfl, _, _, _, _, false, rfl, .ty "bool", .base (.int _), kit_ty (by decide +kernel), false, rfl, q⟩
    · refine ⟨_, rfl, _, _, _, _, true, rfl, .ty "int", .base (.bl _), kit_ty (by decide +kernel), true, rfl, ?_⟩
      exact iteT ⟨_, rfl, _, _, _, _, true, rfl, .ty "bool", .base (.bl _), kit_ty (by decide +kernel), true, rfl, q⟩
    · exact ⟨_, rfl, _, _, _, _, false, rfl, .ty "int", ty, kt, false, rfl, iteF q⟩
theorem ok_cntA {f : Addr} {fd : FuncData} (F : Fun K "is_count" "is_count" sCnt f fd) (cNum : C8.Cal P w K mg base 1 "is_number" (spNumA K) []) : FnOk P w K mg base CX0 2 f fd ["value"] (spCntA K) := by
  refine F.ok scCnt (fun vs H Q E h => ?_) (fun cdv A outer s H vs Q E hr h => ?_)
  · obtain ⟨v, r, rfl, _⟩ := h
    rfl
  · obtain ⟨v, r, rfl, hc, q⟩ := h
    refine ⟨_, pss_one (ps_ret (pe_and (C8.pe_c cNum hr (by decide) rfl (pa_cons (pv 0) pa_nil)) (pe_one (pe_cmpR op_ge (pv 0) pe_int (nomark _))))), ?_⟩
    cases hc with
    | yes n e =>
      subst e
      refine ⟨_, rfl, _, rfl, .inl ⟨n, rfl, true, rfl, iteT ⟨_, rfl, n, 0, rfl, rfl, ?_⟩⟩⟩
      show Q (.bl (decide (0 ≤ (n : Int)))) H
      rw [decide_eq_true (by omega)]
      exact q
    | neg n e l =>
      subst e
      refine ⟨_, rfl, _, rfl, .inl ⟨n, rfl, true, rfl, iteT ⟨_, rfl, n, 0, rfl, rfl, ?_⟩⟩⟩
      show Q (.bl (decide (0 ≤ n))) H
      rw [decide_eq_false (by omega)]
      exact q
    | bl b e =>
      subst e
      exact ⟨_, rfl, _, rfl, .inr ⟨.inl ⟨b, rfl⟩, false, rfl, iteF q⟩⟩
    | odd h => exact ⟨_, rfl, _, rfl, .inr ⟨.inr h, false, rfl, iteF q⟩⟩
theorem ok_col {d : D3} {C : Addr} {c : C6} {f : Addr} {fd : FuncData} (F : Fun K "check_one_loop" "check_one_loop" sCol f fd) (G : PGet6 P w K mg base d C) (B0 : ErrC0 K mg "NoLoop" c.n) (B1 : ErrC0 K mg "TwoLoops" c.t) : FnOk P w K mg base (L2N.CX P w) 3 f fd ["program"] (spCol K d C c) := by
  refine NN.okN F scCol (fun vs H Q E h => ?_) (fun cdv A outer s H vs Q E hr h => ?_)
  · obtain ⟨x, t, rfl, _⟩ := h
    rfl
  · obtain ⟨x, t, rfl, ip, k⟩ := h
    obtain ⟨pL, gL, fdL, qL, FL, bL⟩ := G.l.ex
    obtain ⟨pS, gS, fdS, qS, FS, bS⟩ := G.s.ex
    refine ⟨_, (pss_cons (ps_if (pt_cmpR op_isN (NX.pe_propG (pv 0) FL (hr.mono (by decide)) bL pass0 rfl) pe_non (nomark _)) (pss_one (L2N.ps_raise rfl (L2N.takes_of rfl rfl rfl rfl) (pmk_retN rfl (NX.pe_oexV0 PySem.F.excBase_ValueError B0.q B0.g B0.kp rfl)))) pss_nil)
      (pss_one (ps_if (pt_cmpR op_notN (NX.pe_propG (pv 0) FS (hr.mono (by decide)) bS pass0 rfl) pe_non (nomark _)) (pss_one (L2N.ps_raise rfl (L2N.takes_of rfl rfl rfl rfl) (pmk_retN rfl (NX.pe_oexV0 PySem.F.excBase_ValueError B1.q B1.g B1.kp rfl)))) pss_nil))), ?_⟩
    obtain ⟨dx, fs, ix⟩ := ip.inst
    refine ⟨_, rfl, x, C, dx, fs, pL, rfl, ix, G.cl.cl, qL, x, t, rfl, ip, fun v1 a1 => ?_⟩
    refine ⟨rfl, _, rfl, ?_⟩
    rw [a1.isNon]
    have e1 : t.g.at 1 = t.g.l := rfl
    rw [e1]
    unfold oneF at k
    cases hl : t.g.l with
    | none =>
      rw [hl] at k
      exact iteT (raise0 B0 (Same.refl H) k)
    | some as =>
      rw [hl] at k
      refine iteF ⟨_, rfl, x, C, dx, fs, pS, rfl, ix, G.cl.cl, qS, x, t, rfl, ip, fun v3 a3 => ?_⟩
      refine ⟨rfl, _, rfl, ?_⟩
      have iN : (!decide (v3 = V.non)) = t.g.s.isSome := by
        rw [a3.isNon]
        show (!(t.g.s.isNone)) = _
        cases t.g.s <;> rfl
      rw [iN]
      cases hs : t.g.s with
      | none =>
        rw [hs] at k
        exact iteF k
      | some bs =>
        rw [hs] at k
        exact iteT (raise0 B1 (Same.refl H) k)
theorem ok_rep {d : D3} {c : C6} {iM : Addr} {f : Addr} {fd : FuncData} (F : Fun K "repeated" "repeated" sRep f fd) (T : TxtB mg) (BM : ErrC P w K mg base "TooMany" "most" c.m iM) : FnOk P w K mg base (L2N.CX P w) 3 f fd ["deeds", "rounds", "most"] (spRep K d c) := by
  obtain ⟨fdm, Fm, hbm⟩ := BM.ok
  refine NN.okN F scRep (fun vs H Q E h => ?_) (fun cdv A outer s H vs Q E hr h => ?_)
  · obtain ⟨p, n, most, as, rfl, _⟩ := h
    rfl
  · obtain ⟨p, n, most, as, rfl, hD, lz, mz, k⟩ := h
    refine ⟨_, (pss_cons (ps_if (pt_not (pt_truth (pv 0) (fun _ => rfl))) (pss_one (ps_ret (pe_tup pa_nil))) pss_nil)
      (pss_cons (ps_if (pt_cmpR op_gt (pe_op op_mul (pv 1) (pe_callB call_len_seq (by rfl) T.blen (by decide +kernel) (pa_cons (pv 0) pa_nil))) (pv 2) (nomark _)) (pss_one (L2N.ps_raise rfl (L2N.takes_of rfl rfl rfl rfl) (NN.pmkN BM.O BM.i BM.t Fm (hr.mono (by decide)) hbm pass0 rfl BM.g (pa_cons (pv 2) pa_nil)))) pss_nil)
      (pss_one (ps_ret (pe_op NZ.op_repA (pv 0) (pv 1)))))), ?_⟩
    obtain ⟨xs, hx, al⟩ := id hD
    refine ⟨_, rfl, _, hD.tru, ?_⟩
    cases as with
    | nil =>
      rw [if_pos (show n * ([] : List Act).length ≤ most from Nat.zero_le _)] at k
      refine iteT ⟨by show 0 ≤ sizeLine; exact Nat.zero_le _, fun q hq => ?_⟩
      exact k.ok rfl q _ (Same.new hq) ⟨[], SqT.of upd_same, by rw [rep_nil]; rfl, fun i x a e => by cases e⟩
    | cons a0 r0 =>
      obtain ⟨as, has⟩ : ∃ as, as = a0 :: r0 := ⟨_, rfl⟩
      have a1 : 1 ≤ as.length := by rw [has]; exact Nat.succ_le_succ (Nat.zero_le _)
      rw [← has] at k lz al
      refine iteF ⟨_, rfl, _, rfl, p, _, rfl, .inr hx, ?_⟩
      have lx : (xs.map V.ref).length = as.length := by rw [List.length_map]; exact al.1
      rw [lx]
      refine ⟨_, _, rfl, rfl, .inr ⟨by omega, by omega⟩, _, rfl, _, _, rfl, rfl, _, rfl, ?_⟩
      by_cases big : n * as.length ≤ most
      · rw [if_pos big] at k
        have e : decide ((n : Int) * (as.length : Int) > (most : Int)) = false := decide_eq_false (by
          have : ((n * as.length : Nat) : Int) ≤ most := by exact_mod_cast big
          rw [Int.natCast_mul] at this
          omega)
        rw [e]
        have nl : n ≤ 1000 := by
          have : n * 1 ≤ n * as.length := Nat.mul_le_mul_left n a1
          omega
        refine iteF ⟨_, rfl, _, rfl, p, _, xs.map V.ref, rfl, rfl, hx, fun z => ?_, by omega, by omega, by rw [lx]; exact lz, fun e1 => ?_, fun e1 q hq => ?_⟩
        · have : as.length = 0 := by rw [← lx, z]; rfl
          omega
        · have : n = 1 := by omega
          subst this
          have e2 : rep 1 as = as := by rw [rep_succ, rep_zero, List.append_nil]
          rw [e2] at k
          rw [← has] at hD
          exact k.ok rfl p H (Same.refl H) hD
        · have sm : Same H (upd H q (.tup (List.replicate ((n : Int)).toNat (xs.map V.ref)).flatten)) := Same.new hq
          refine k.ok rfl q _ sm ⟨(List.replicate n xs).flatten, ?_, ?_⟩
          · refine SqT.of ?_
            rw [upd_same, Int.toNat_natCast, List.map_flatten, List.map_replicate]
          · exact (al.same sm).rep n
      · rw [if_neg big] at k
        have e : decide ((n : Int) * (as.length : Int) > (most : Int)) = true := decide_eq_true (by
          have : ((n * as.length : Nat) : Int) > most := by exact_mod_cast Nat.lt_of_not_le big
          rw [Int.natCast_mul] at this
          omega)
        rw [e]
        exact iteT ⟨_, rfl, mkO_of BM.O BM.v fun dd H3 t => k.many rfl dd H3 t⟩
end
end K06

set_option Elab.async false
set_option linter.all false
set_option maxRecDepth 100000
set_option maxHeartbeats 4000000
/-! with_parts, and how Program(..) is called by a program's methods. -/
namespace K06
open PySem L2 NX NU
open PyProof.Rows (sortedS)
abbrev sWp : Stmt := top 68
theorem scWp : FnScope ["program", "ahead", "loop", "behind"] ["program", "ahead", "loop", "behind"] (defScope sWp) := ⟨rfl, rfl, rfl, by decide +kernel, rfl, by decide +kernel, by decide +kernel⟩
section
variable {K : PySem.W.Frag} {f : Addr} {fd : FuncData} {t0 t1 t2 t3 t4 : Addr}
theorem kb3 (F : L2.FunD K "__init__" "Program.__init__" (defArgs sPi) (defBody sPi) (defScope sPi) (dvsP t0 t1 t2) (kwsP t3 t4) f fd) : ∃ its mv : List Value, KBn K fd pPi 2 ["given", "again", "results"] (fun us ws => us ++ its.drop 1 ++ ws) (fun vs zs => vs ++ (dvsP t0 t1 t2).drop 1 ++ zs) :=
  F.kbinds (ps := pPi) 2 ["given", "again", "results"] [] (fun us its mv ws => us ++ its.drop 1 ++ ws) (by intro h; cases h) (by intro h; cases h) nofun (fun r1 r2 _ r4 => (r1.append (r2.drop 1)).append r4) (fun T D doc pm an cdv ct us its mv ws l1 l2 l3 l4 => by
    match us, its, mv, ws, l1, l2, l3, l4 with
    | [_, _], [_, _, _, _, _], [], [_, _, _], _, _, _, _ => exact ⟨_, rfl, rfl⟩)
theorem kb4 (F : L2.FunD K "__init__" "Program.__init__" (defArgs sPi) (defBody sPi) (defScope sPi) (dvsP t0 t1 t2) (kwsP t3 t4) f fd) : ∃ its mv : List Value, KBn K fd pPi 3 ["behind", "given", "again", "results"] (fun us ws => us ++ (its.drop 2).take 2 ++ ws) (fun vs zs => vs ++ ((dvsP t0 t1 t2).drop 2).take 2 ++ zs) :=
  F.kbinds (ps := pPi) 3 ["behind", "given", "again", "results"] [] (fun us its mv ws => us ++ (its.drop 2).take 2 ++ ws) (by intro h; cases h) (by intro h; cases h) nofun (fun r1 r2 _ r4 => (r1.append ((r2.drop 2).take 2)).append r4) (fun T D doc pm an cdv ct us its mv ws l1 l2 l3 l4 => by
    match us, its, mv, ws, l1, l2, l3, l4 with
    | [_, _, _], [_, _, _, _, _], [], [_, _, _, _], _, _, _, _ => exact ⟨_, rfl, rfl⟩)
end
/-- Program(..) is made, where there may be too many deeds -/
structure PME (P : Program) (w : World) (K : PySem.W.Frag) (mg : Str → Option Value) (base : Heap) (d : D3) (c : C6) (C f : Addr) (fd : FuncData) (t0 t1 t2 t3 t4 : Addr) : Prop where
  mak : Mk K C f
  fn : FnOk P w K mg base (L2N.CX P w) 5 f fd pPi (spPiE K d c.m)
  g : mg "Program" = some (.ref C)
  fd_ : L2.FunD K "__init__" "Program.__init__" (defArgs sPi) (defBody sPi) (defScope sPi) (dvsP t0 t1 t2) (kwsP t3 t4) f fd
  cls : PCls K C
  e1 : ∀ H, SqT K H t1 []
  e2 : ∀ H, SqT K H t2 []
/-- a program of the names of t, with other parts -/
def Tol.with_ (t : Tol) (g : Prg) : Tol := ⟨g, t.us, t.ag, t.rs⟩
theorem inA0 {K : PySem.W.Frag} {d : D3} {H : Hp} {a : Addr} (h : SqT K H a []) : InA K d H (.ref a) [] := ⟨a, [], rfl, .inr h, rfl, fun i x a e => by cases e⟩
theorem InO.of {K : PySem.W.Frag} {d : D3} {H : Hp} {v : V} {as : List Act} (h : InA K d H v as) : InO K d H v (some as) := h
theorem PartA.inA {K : PySem.W.Frag} {d : D3} {H : Hp} {v : V} {as : List Act} (h : PartA K d H v (some as)) : InA K d H v as := by
  obtain ⟨p, rfl, xs, e, a⟩ := h
  exact ⟨p, xs, rfl, .inr e, a⟩
theorem Deeds.inA {K : PySem.W.Frag} {d : D3} {H : Hp} {p : Addr} {as : List Act} (h : Deeds K d H p as) : InA K d H (.ref p) as := by
  obtain ⟨xs, e, a⟩ := h
  exact ⟨p, xs, rfl, .inr e, a⟩
/-- the made program, told by the names as they stand in tuples -/
theorem makeP {K : PySem.W.Frag} {d : D3} {c : C6} {C : Addr} {H0 H : Hp} {v1 v2 v3 v4 v5 : V} {gt ag rt y dy : Addr} {gs rs : List Str} {t : Tol} {g' : Prg} {Q : VK} {E : XK} (pc : PCls K C) (s0 : Same H0 H) (h1 : H y = none) (h2 : H dy = none) (h3 : dy ≠ y)
    (a1 : InA K d H v1 g'.a) (a2 : InO K d H v2 g'.l) (a3 : InA K d H v3 g'.b) (a4 : InO K d H v4 g'.s) (a5 : InA K d H v5 g'.h) (eg : H gt = some (.tup (gs.map V.str))) (ea : AgD H ag t.ag) (er : H rt = some (.tup (rs.map V.str)))
    (asg : Asc gs t.us) (asr : Asc rs t.rs) (ok : t.Ok) (sh : g'.Shape) (sub : ∀ a ∈ g'.acts, a ∈ t.g.acts) (len : g'.many = none → g'.acts.length ≤ 224) (v : g'.VOk (t.us ++ t.ag.map (·.1)) (t.ag.map (·.1)) t.rs)
    (k : Ends6 c H0 E (∀ y H', Same H0 H' → IsP K d H' y C (t.with_ g') → Q (.ref y) H') (g'.many.map F6.many)) :
    spPiE K d c.m [.ref y, v1, v2, v3, v4, v5, .ref gt, .ref ag, .ref rt] (upd (upd H dy (.own y)) y (.ins C dy [])) (fun v H3 => v = .non ∧ Q (.ref y) H3) E := by
  have sm := made2 (C := C) h1 h2 h3
  have oks := derive ok asg asr sh sub len v
  refine ⟨y, C, dy, v1, v2, v3, v4, v5, .ref gt, .ref ag, .ref rt, ⟨g', gs, t.ag, rs⟩, rfl, upd_same, pc, ⟨a1.same sm, a2.same sm, a3.same sm, a4.same sm, a5.same sm, ⟨gt, rfl, .inr (SqT.of (sm _ _ eg))⟩, .inr ⟨ag, rfl, sm _ _ ea⟩, ⟨rt, rfl, .inr (SqT.of (sm _ _ er))⟩⟩, oks, ?_⟩
  cases hm : g'.many with
  | none =>
    rw [hm] at k
    refine fun H' bt ip => ⟨rfl, k.ok rfl y H' (fun b o e => ?_) (ip.conv rfl rfl asg.2.2 asr.2.2)⟩
    have e1 := s0 b o e
    exact bt b o (fun z => by rw [z, h1] at e1; cases e1) (sm _ _ e1)
  | some m =>
    rw [hm] at k
    exact fun dd H' tl => k.many rfl dd H' (tl.old (s0.trans sm))
def spWp (K : PySem.W.Frag) (d : D3) (C : Addr) (c : C6) : Sp := fun vs H Q E => ∃ (x : Addr) (t : Tol) (va vl vh : V) (a' ls h' : List Act), vs = [.ref x, va, vl, vh] ∧ IsP K d H x C t ∧ t.Ok ∧ InA K d H va a' ∧ InA K d H vl ls ∧ InA K d H vh h' ∧
  (∀ a ∈ (⟨a', some ls, [], none, h'⟩ : Prg).acts, a ∈ t.g.acts) ∧ (⟨a', some ls, [], none, h'⟩ : Prg).VOk (t.us ++ t.ag.map (·.1)) (t.ag.map (·.1)) t.rs ∧
  Ends6 c H E (∀ y H', Same H H' → IsP K d H' y C (t.with_ ⟨a', some ls, [], none, h'⟩) → Q (.ref y) H') ((⟨a', some ls, [], none, h'⟩ : Prg).many.map F6.many)
section
variable {P : Program} {w : World} {K : PySem.W.Frag} {mg : Str → Option Value} {base : Heap}
theorem ok_wp {d : D3} {C fP : Addr} {c : C6} {fdP : FuncData} {t0 t1 t2 t3 t4 : Addr} {f : Addr} {fd : FuncData} (F : Fun K "with_parts" "with_parts" sWp f fd) (G : PGet6 P w K mg base d C) (M : PME P w K mg base d c C fP fdP t0 t1 t2 t3 t4) : FnOk P w K mg base (L2N.CX P w) 7 f fd ["program", "ahead", "loop", "behind"] (spWp K d C c) := by
  refine NN.okN F scWp (fun vs H Q E h => ?_) (fun cdv A outer s H vs Q E hr h => ?_)
  · obtain ⟨x, t, va, vl, vh, a', ls, h', rfl, _⟩ := h
    rfl
  · obtain ⟨x, t, va, vl, vh, a', ls, h', rfl, ip, ok, ia, il, ih, sub, v, k⟩ := h
    obtain ⟨pG, gG, fdG, qG, FG, bG⟩ := G.gv.ex
    obtain ⟨pA, gA, fdA, qA, FA, bA⟩ := G.ag.ex
    obtain ⟨pR, gR, fdR, qR, FR, bR⟩ := G.rs.ex
    obtain ⟨its, mv, kb⟩ := kb4 M.fd_
    refine ⟨_, pss_one (ps_ret (pe_makeK (E := E) (ks := ["behind", "given", "again", "results"]) M.mak M.fn (hr.mono (by decide)) rfl M.g kb (NN.passN (L2N.takes_of rfl rfl rfl rfl)) (pa_cons (pv 1) (pa_cons (pv 2) pa_nil)) (pk_cons (pv 3) (pk_cons (NX.pe_propG (pv 0) FG (hr.mono (by decide)) bG pass0 rfl) (pk_cons (NX.pe_propG (pv 0) FA (hr.mono (by decide)) bA pass0 rfl) (pk_cons (NX.pe_propG (pv 0) FR (hr.mono (by decide)) bR pass0 rfl) pk_nil)))))), ?_⟩
    obtain ⟨dx, fs, ix⟩ := ip.inst
    refine ⟨_, rfl, _, rfl, _, rfl, ?_⟩
    refine ⟨_, rfl, x, C, dx, fs, pG, rfl, ix, G.cl.cl, qG, x, t, rfl, ip, fun gt gs eg asg => ?_⟩
    refine ⟨_, rfl, x, C, dx, fs, pA, rfl, ix, G.cl.cl, qA, x, t, rfl, ip, fun ag hag => ?_⟩
    have s1 : Same H (upd H ag (.dK (agK t.ag))) := Same.new hag
    have ea : AgD (upd H ag (.dK (agK t.ag))) ag t.ag := upd_same
    have eg := s1 _ _ eg
    have ip := ip.same s1
    have ia := ia.same s1
    have il := il.same s1
    have ih := ih.same s1
    have ix := s1 _ _ ix
    generalize (upd H ag (.dK (agK t.ag))) = H1 at *
    refine ⟨_, rfl, x, C, dx, fs, pR, rfl, ix, G.cl.cl, qR, x, t, rfl, ip, fun rt rs er asr => ?_⟩
    refine ⟨rfl, rfl, fun y dy h1 h2 h3 => ?_⟩
    exact makeP (g' := ⟨a', some ls, [], none, h'⟩) (t := t) M.cls s1 h1 h2 h3 ia il (inA0 (M.e1 _)) rfl ih eg ea er asg asr ok ⟨(fun e => by cases e), fun _ => rfl⟩ sub (few_of rfl rfl) v k
end
end K06

set_option Elab.async false
set_option linter.all false
set_option maxRecDepth 100000
set_option maxHeartbeats 4000000
/-! straight. -/
namespace K06
open PySem L2 NX NU
open PyProof.Rows (sortedS)
abbrev sSt : Stmt := inClass (top 65) 16
abbrev NSt : List Str := ["self", "n", "m", "rounds", "deeds"]
theorem scSt : FnScope NSt ["self", "n", "m"] (defScope sSt) := ⟨rfl, rfl, rfl, by decide +kernel, rfl, by decide +kernel, by decide +kernel⟩
theorem flat_len (g : Prg) (n m : Nat) : (g.flat n m).a.length = g.a.length + n * (g.l.getD []).length + g.b.length + m * (g.s.getD []).length + g.h.length := by
  show (g.a ++ rep n (g.l.getD []) ++ g.b ++ rep m (g.s.getD []) ++ g.h).length = _
  simp only [List.length_append, rep_len]
theorem flat_many (g : Prg) (n m : Nat) : (g.flat n m).many = if (g.flat n m).a.length ≤ 200 then none else some 200 := by
  unfold Prg.many
  by_cases c : (g.flat n m).a.length ≤ 200
  · rw [if_pos c, if_pos c]
    have e : (g.flat n m).a.length + (g.flat n m).b.length + (g.flat n m).h.length ≤ 200 := c
    rw [if_pos e]
    rfl
  · rw [if_neg c, if_neg c]
def spSt (K : PySem.W.Frag) (d : D3) (C : Addr) (c : C6) : Sp := fun vs H Q E => ∃ (x : Addr) (t : Tol) (n m : Nat), vs = [.ref x, .int (n : Int), .int (m : Int)] ∧ IsP K d H x C t ∧ t.Ok ∧ (0 < n → t.g.l.isSome = true) ∧ (0 < m → t.g.s.isSome = true) ∧
  Ends6 c H E (∀ y H', Same H H' → IsP K d H' y C (t.with_ (t.g.flat n m)) → Q (.ref y) H') ((t.g.flat n m).many.map F6.many)
/-- no rounds, or the loop is there -/
theorem noLack {K : PySem.W.Frag} {d : D3} {H : Hp} {x C p g : Addr} {t : Tol} {i j q : Nat} {nm_ : Str} {σ : L2.St} {R : Bool → Hp → Prop} (pc : PCls K C) (ip : IsP K d H x C t) (pr : PropOf K C nm_ p g) (hi : σ[i]? = some (some (.int (q : Int)))) (h0 : σ[0]? = some (some (.ref x))) (hq : 0 < q → (t.g.at j).isSome = true) (k : R false H) :
    tAnd (tTest (tOp (rI0 fun i j => V.bl (decide (j < i))) (tVar i) (tC (V.int 0)))) (tTest (tOp (fun x y H Q => y = V.non ∧ Q (V.bl (decide (x = V.non))) H) (NX.tPropG K nm_ g (spPt K d C j) C8.E0 (tVar 0)) (tC V.non))) σ H R := by
  refine ⟨_, hi, _, 0, rfl, rfl, _, rfl, ?_⟩
  by_cases c : 0 < q
  · rw [decide_eq_true (show (0 : Int) < (q : Int) by omega)]
    obtain ⟨dx, fs, ix⟩ := ip.inst
    refine iteT ⟨_, h0, x, C, dx, fs, p, rfl, ix, pc.cl, pr, x, t, rfl, ip, fun v a => ⟨rfl, _, rfl, ?_⟩⟩
    rw [a.isNon]
    have := hq c
    cases e : t.g.at j with
    | none => rw [e] at this; cases this
    | some as => exact k
  · rw [decide_eq_false (show ¬ (0 : Int) < (q : Int) by omega)]
    exact iteF k
section
variable {P : Program} {w : World} {K : PySem.W.Frag} {mg : Str → Option Value} {base : Heap}
theorem ok_st {d : D3} {C fP : Addr} {c : C6} {fdP : FuncData} {t0 t1 t2 t3 t4 : Addr} {dvs : List V} {f : Addr} {fd : FuncData} (F : L2.FunD K "straight" "Program.straight" (defArgs sSt) (defBody sSt) (defScope sSt) dvs [] f fd) (G : PGet6 P w K mg base d C) (M : PME P w K mg base d c C fP fdP t0 t1 t2 t3 t4) (TQ : TxtQ mg K)
    (cCnt : C8.Cal P w K mg base 2 "is_count" (spCntA K) []) (cRep : CalL P w K mg base 3 "repeated" (spRep K d c)) : FnOk P w K mg base (L2N.CX P w) 7 f fd ["self", "n", "m"] (spSt K d C c) := by
  refine F.ok scSt (fun vs H Q E h => ?_) (fun cdv A outer s H vs Q E hr h => ?_)
  · obtain ⟨x, t, n, m, rfl, _⟩ := h
    rfl
  · obtain ⟨x, t, n, m, rfl, ip, ok, hn, hm, k⟩ := h
    obtain ⟨pA, gA, fdA, qA, FA, bA⟩ := G.a.ex
    obtain ⟨pL, gL, fdL, qL, FL, bL⟩ := G.l.ex
    obtain ⟨pB, gB, fdB, qB, FB, bB⟩ := G.b.ex
    obtain ⟨pS, gS, fdS, qS, FS, bS⟩ := G.s.ex
    obtain ⟨pH, gH, fdH, qH, FH, bH⟩ := G.h.ex
    obtain ⟨its, mv, kb⟩ := kb3 M.fd_
    obtain ⟨tk1, e1⟩ := TQ.ma
    refine ⟨_, (pss_cons (ps_for (passes_of rfl) rfl (pi_tup (pe_tup (pa_cons (pv 1) (pa_cons (pv 2) pa_nil)))) (pg_name (i := 3) scSt.nd rfl (Or.inl rfl)) (pss_one (ps_if (pt_not (pt_val (C8.pe_c cCnt hr (by decide) rfl (pa_cons (pv 3) pa_nil)))) pss_never pss_nil)))
      (pss_cons (ps_if (PW.pt (pw_or (PW.pt (pw_and (pt_cmpR op_gt (pv 1) pe_int (nomark _)) (pw_and1 (pt_cmpR op_isN (NX.pe_propG (pv 0) FL (hr.mono (by decide)) bL pass0 rfl) pe_non (nomark _))))) (pw_or1 (PW.pt (pw_and (pt_cmpR op_gt (pv 2) pe_int (nomark _)) (pw_and1 (pt_cmpR op_isN (NX.pe_propG (pv 0) FS (hr.mono (by decide)) bS pass0 rfl) pe_non (nomark _)))))))) pss_never pss_nil)
      (pss_cons (ps_set (i := 4) scSt.nd rfl (Or.inl rfl) (pe_lst (StX.pa_star (NX.pe_propG (pv 0) FA (hr.mono (by decide)) bA pass0 rfl)
        (StX.pa_star (pe_cL cRep hr (by decide) rfl (NN.passN (L2N.takes_of rfl rfl rfl rfl)) (pa_cons (pe_orT (NX.pe_propG (pv 0) FL (hr.mono (by decide)) bL pass0 rfl) (pe_one (pe_tup pa_nil))) (pa_cons (pv 1) (pa_cons (pe_glob (v := .int 200) rfl e1 ⟨_, rfl⟩) pa_nil))))
        (StX.pa_star (NX.pe_propG (pv 0) FB (hr.mono (by decide)) bB pass0 rfl)
        (StX.pa_star (pe_cL cRep hr (by decide) rfl (NN.passN (L2N.takes_of rfl rfl rfl rfl)) (pa_cons (pe_orT (NX.pe_propG (pv 0) FS (hr.mono (by decide)) bS pass0 rfl) (pe_one (pe_tup pa_nil))) (pa_cons (pv 2) (pa_cons (pe_glob (v := .int 200) rfl e1 ⟨_, rfl⟩) pa_nil))))
        (StX.pa_star (NX.pe_propG (pv 0) FH (hr.mono (by decide)) bH pass0 rfl) pa_nil)))))))
      (pss_one (ps_ret (pe_makeK (E := E) (ks := ["given", "again", "results"]) M.mak M.fn (hr.mono (by decide)) rfl M.g kb (NN.passN (L2N.takes_of rfl rfl rfl rfl)) (pa_cons (pv 4) pa_nil) (pk_cons (pe_fld (pv 0) rfl) (pk_cons (pe_fld (pv 0) rfl) (pk_cons (pe_fld (pv 0) rfl) pk_nil))))))))), ?_⟩
    refine ⟨_, rfl, _, rfl, by show 2 ≤ sizeLine; decide, fun tp htp => ?_⟩
    have s1 : Same H (upd H tp (.tup [.int (n : Int), .int (m : Int)])) := Same.new htp
    have gtp : (upd H tp (.tup [.int (n : Int), .int (m : Int)])) tp = some (.tup [.int (n : Int), .int (m : Int)]) := upd_same
    generalize (upd H tp (.tup [.int (n : Int), .int (m : Int)])) = H1 at *
    refine ⟨tp, rfl, ⟨_, SqT.of gtp⟩, for_tup (xs := [.int (n : Int), .int (m : Int)]) (fun i σ H' => Same H1 H' ∧ ∃ x3, σ = [some (.ref x), some (.int (n : Int)), some (.int (m : Int)), x3, none]) ⟨Same.refl H1, _, rfl⟩ (fun i σ H' _ z => SqT.of (z.1 _ _ gtp)) (fun i y σ H' hy ⟨s2, x3, eσ⟩ => ?_) (fun σ H' ⟨s2, x3, eσ⟩ => ?_)⟩
    · subst eσ
      obtain ⟨q, rfl⟩ : ∃ q : Nat, y = .int (q : Int) := by
        match i, hy with
        | 0, hy => cases hy; exact ⟨n, rfl⟩
        | 1, hy => cases hy; exact ⟨m, rfl⟩
        | i + 2, hy => cases hy
      exact ⟨_, rfl, _, some q, rfl, .yes q rfl, true, rfl, iteF ⟨s2, _, rfl⟩⟩
    · subst eσ
      have s3 := s1.trans s2
      have ip3 := ip.same s3
      refine noLack (q := n) (j := 1) G.cl ip3 qL rfl rfl hn (iteF ?_)
      refine noLack (q := m) (j := 3) G.cl ip3 qS rfl rfl hm (iteF ?_)
      obtain ⟨dx, nt, Pd, gt, ag, rt, ns, gs, rs, ea, eb, ec, ee, ef, eg, h1, h2, h3⟩ := id ip3.ex
      have z := ok.sizes
      have fl := flat_len t.g n m
      have fm := flat_many t.g n m
      have big : ¬ (t.g.flat n m).a.length ≤ 200 → ((t.g.flat n m).many.map F6.many) = some (.many 200) := fun h => by rw [fm, if_neg h]; rfl
      have la := z.a
      have ll := z.l
      have lb := z.b
      have ls := z.s
      have lh := z.h
      refine ⟨_, rfl, x, C, dx, _, pA, rfl, ea, G.cl.cl, qA, x, t, rfl, ip3, fun v0 a0 => ?_⟩
      obtain ⟨p0, rfl, xs0, e0, al0⟩ := a0
      refine ⟨p0, _, rfl, .inl e0, ?_⟩
      refine ⟨_, rfl, x, C, dx, _, pL, rfl, ea, G.cl.cl, qL, x, t, rfl, ip3, fun v1 a1 => a1.or fun p1 H4 s4 d1 => ?_⟩
      have l1 : ((t.g.at 1).getD []).length ≤ 24 := ll
      refine ⟨_, rfl, p1, n, 200, _, rfl, d1, by omega, by decide, ?_⟩
      by_cases c1 : n * (t.g.l.getD []).length ≤ 200
      case neg =>
        rw [if_neg (show ¬ n * ((t.g.at 1).getD []).length ≤ 200 from c1)]
        exact fun dd H' tl => k.many (big (by omega)) dd H' (tl.old (s3.trans s4))
      rw [if_pos (show n * ((t.g.at 1).getD []).length ≤ 200 from c1)]
      intro q1 H5 s5 d1'
      obtain ⟨xs1, e1', al1⟩ := d1'
      have s35 := s4.trans s5
      refine ⟨q1, _, rfl, .inl e1', ?_⟩
      have ea5 := s35 _ _ ea
      have ip5 := ip3.same s35
      refine ⟨_, rfl, x, C, dx, _, pB, rfl, ea5, G.cl.cl, qB, x, t, rfl, ip5, fun v2 a2 => ?_⟩
      obtain ⟨p2, rfl, xs2, e2, al2⟩ := a2
      refine ⟨p2, _, rfl, .inl e2, ?_⟩
      refine ⟨_, rfl, x, C, dx, _, pS, rfl, ea5, G.cl.cl, qS, x, t, rfl, ip5, fun v3 a3 => a3.or fun p3 H6 s6 d3 => ?_⟩
      have l3 : ((t.g.at 3).getD []).length ≤ 24 := ls
      refine ⟨_, rfl, p3, m, 200, _, rfl, d3, by omega, by decide, ?_⟩
      by_cases c3 : m * (t.g.s.getD []).length ≤ 200
      case neg =>
        rw [if_neg (show ¬ m * ((t.g.at 3).getD []).length ≤ 200 from c3)]
        exact fun dd H' tl => k.many (big (by omega)) dd H' (tl.old (s3.trans (s35.trans s6)))
      rw [if_pos (show m * ((t.g.at 3).getD []).length ≤ 200 from c3)]
      intro q3 H7 s7 d3'
      obtain ⟨xs3, e3', al3⟩ := d3'
      have s57 := s6.trans s7
      have s37 := s35.trans s57
      refine ⟨q3, _, rfl, .inl e3', ?_⟩
      have ea7 := s37 _ _ ea
      have ip7 := ip3.same s37
      refine ⟨_, rfl, x, C, dx, _, pH, rfl, ea7, G.cl.cl, qH, x, t, rfl, ip7, fun v4 a4 => ?_⟩
      obtain ⟨p4, rfl, xs4, e4, al4⟩ := a4
      refine ⟨p4, _, rfl, .inl e4, ?_⟩
      have al0 := al0.same s37
      have al1 := al1.same s57
      have al2 := al2.same s57
      have AL := (((al0.app al1).app al2).app al3).app al4
      have n0 := al0.1
      have n1 := al1.1
      have n2 := al2.1
      have n3 := al3.1
      have n4 := al4.1
      rw [rep_len] at n1 n3
      have n0 : xs0.length = t.g.a.length := n0
      have n1 : xs1.length = n * (t.g.l.getD []).length := n1
      have n2 : xs2.length = t.g.b.length := n2
      have n3 : xs3.length = m * (t.g.s.getD []).length := n3
      have n4 : xs4.length = t.g.h.length := n4
      have low : (1000 : Nat) ≤ sizeLine := by decide
      have ex : List.map V.ref xs0 ++ (List.map V.ref xs1 ++ (List.map V.ref xs2 ++ (List.map V.ref xs3 ++ (List.map V.ref xs4 ++ [])))) = (xs0 ++ xs1 ++ xs2 ++ xs3 ++ xs4).map V.ref := by
        simp only [List.map_append, List.append_nil, List.append_assoc]
      dsimp only [tNil]
      rw [ex]
      refine ⟨by rw [List.length_map]; simp only [List.length_append]; omega, fun L hL => ?_⟩
      have s8 := s3.trans (s37.trans (Same.new (o := .lst ((xs0 ++ xs1 ++ xs2 ++ xs3 ++ xs4).map V.ref)) hL))
      have sm : Same H7 (upd H7 L (.lst ((xs0 ++ xs1 ++ xs2 ++ xs3 ++ xs4).map V.ref))) := Same.new hL
      have gL : (upd H7 L (.lst ((xs0 ++ xs1 ++ xs2 ++ xs3 ++ xs4).map V.ref))) L = _ := upd_same
      have AL := AL.same sm
      have ea8 := sm _ _ ea7
      have s38 := s37.trans sm
      generalize (upd H7 L (.lst ((xs0 ++ xs1 ++ xs2 ++ xs3 ++ xs4).map V.ref))) = H8 at *
      refine ⟨_, rfl, ?_⟩
      refine ⟨_, rfl, x, C, dx, _, _, rfl, ea8, G.cl.cl, G.cl.n3, rfl, _, rfl, x, C, dx, _, _, rfl, ea8, G.cl.cl, G.cl.n4, rfl, _, rfl, x, C, dx, _, _, rfl, ea8, G.cl.cl, G.cl.n5, rfl, ?_⟩
      refine ⟨rfl, rfl, fun y dy y1 y2 y3 => ?_⟩
      exact makeP (g' := t.g.flat n m) (t := t) M.cls s8 y1 y2 y3 ⟨L, _, rfl, .inl (SqL.of gL), AL⟩ rfl (inA0 (M.e1 _)) rfl (inA0 (M.e2 _)) (s38 _ _ ee) (s38 _ _ ef) (s38 _ _ eg) h2 h3 ok ⟨fun _ => ⟨rfl, rfl, rfl⟩, fun _ => rfl⟩ flat_in (few_of rfl rfl) (flat_v ok.v n m) k
end
end K06

set_option Elab.async false
set_option linter.all false
set_option maxRecDepth 100000
set_option maxHeartbeats 4000000
/-! **, unrolled, turned. -/
namespace K06
open PySem L2 NX NU
open PyProof.Rows (sortedS)
abbrev sPw : Stmt := inClass (top 65) 17
abbrev sUn : Stmt := inClass (top 65) 18
abbrev sTu : Stmt := inClass (top 65) 19
theorem scPw : FnScope ["self", "other"] ["self", "other"] (defScope sPw) := ⟨rfl, rfl, rfl, by decide +kernel, rfl, by decide +kernel, by decide +kernel⟩
theorem scUn : FnScope ["self", "j"] ["self", "j"] (defScope sUn) := ⟨rfl, rfl, rfl, by decide +kernel, rfl, by decide +kernel, by decide +kernel⟩
theorem scTu : FnScope ["self", "j", "front", "rest"] ["self", "j"] (defScope sTu) := ⟨rfl, rfl, rfl, by decide +kernel, rfl, by decide +kernel, by decide +kernel⟩
/-- what a body written j times is refused with -/
def powF (g : Prg) (j : Nat) : Option F6 := if j = 0 then some (.num (.int 0)) else match oneF g with
  | some f => some f
  | none => if j * (g.l.getD []).length ≤ 24 then none else some (.many 24)
def unrF (g : Prg) (v : V) : Option Nat → Option F6
  | none => some (.num v)
  | some j => match oneF g with
    | some f => some f
    | none => if g.a.length + j * (g.l.getD []).length + g.h.length ≤ 200 then none else some (.many 200)
def turF (g : Prg) (v : V) : Option Nat → Option F6
  | none => some (.num v)
  | some j => if g.l.isSome = true ∧ (g.l.getD []).length < j then some (.num v) else match oneF g with
    | some f => some f
    | none => (g.tur j).many.map F6.many
theorem oneF_none {g : Prg} (h : oneF g = none) : (∃ ls, g.l = some ls) ∧ g.s = none := by
  unfold oneF at h
  cases hl : g.l with
  | none => rw [hl] at h; cases h
  | some ls =>
    rw [hl] at h
    cases hs : g.s with
    | none => exact ⟨⟨ls, rfl⟩, rfl⟩
    | some bs => rw [hs] at h; cases h
/-- the refusal of check_one_loop, or it goes on -/
theorem one_ends {c : C6} {H : Hp} {E : XK} {ok A : Prop} {g : Prg} {r : Option F6} (k : Ends6 c H E ok (match oneF g with
    | some f => some f
    | none => r)) (q : oneF g = none → Ends6 c H E ok r → A) : Ends6 c H E A (oneF g) := by
  cases h : oneF g with
  | none =>
    rw [h] at k
    exact q h k
  | some f =>
    rw [h] at k
    cases f <;> exact k
theorem pow_many {g : Prg} (z : g.Sizes) (eb : g.b = []) {j : Nat} (h : j * (g.l.getD []).length ≤ 24) : (g.pow j).many = none := by
  have a := z.all
  rw [eb] at a
  exact sizes_many ⟨z.a, by show (rep j (g.l.getD [])).length ≤ 24; rw [rep_len]; exact h, Nat.zero_le _, Nat.zero_le _, z.h, a⟩
theorem unr_many {g : Prg} (z : g.Sizes) (j : Nat) : (g.unr j).many = if g.a.length + j * (g.l.getD []).length + g.h.length ≤ 200 then none else some 200 := by
  have la : (g.unr j).a.length = g.a.length + j * (g.l.getD []).length := by show (g.a ++ rep j (g.l.getD [])).length = _; rw [List.length_append, rep_len]
  have ll : ((g.unr j).l.getD []).length ≤ 24 := z.l
  have lh : (g.unr j).h.length ≤ 24 := z.h
  have e : (g.unr j).h.length = g.h.length := rfl
  have eb : (g.unr j).b.length = 0 := rfl
  have es : ((g.unr j).s.getD []).length = 0 := rfl
  unfold Prg.many
  rw [la, eb, es, if_pos ll, if_pos lh, e, if_pos (Nat.zero_le _), if_pos (Nat.zero_le _)]
  by_cases c : g.a.length + j * (g.l.getD []).length ≤ 200
  · rw [if_pos c, Nat.add_zero]
  · rw [if_neg c, if_neg (by omega)]
def spPw (K : PySem.W.Frag) (d : D3) (C : Addr) (c : C6) : Sp := fun vs H Q E => ∃ (x : Addr) (t : Tol) (j : Nat), vs = [.ref x, .int (j : Int)] ∧ IsP K d H x C t ∧ t.Ok ∧ Ends6 c H E (∀ y H', Same H H' → IsP K d H' y C (t.with_ (t.g.pow j)) → Q (.ref y) H') (powF t.g j)
def spUn (K : PySem.W.Frag) (d : D3) (C : Addr) (c : C6) : Sp := fun vs H Q E => ∃ (x : Addr) (t : Tol) (v : V) (r : Option Nat), vs = [.ref x, v] ∧ IsP K d H x C t ∧ t.Ok ∧ Cn K H v r ∧ Ends6 c H E (∀ y H', Same H H' → IsP K d H' y C (t.with_ (t.g.unr (r.getD 0))) → Q (.ref y) H') (unrF t.g v r)
def spTu (K : PySem.W.Frag) (d : D3) (C : Addr) (c : C6) : Sp := fun vs H Q E => ∃ (x : Addr) (t : Tol) (v : V) (r : Option Nat), vs = [.ref x, v] ∧ IsP K d H x C t ∧ t.Ok ∧ Cn K H v r ∧ Ends6 c H E (∀ y H', Same H H' → IsP K d H' y C (t.with_ (t.g.tur (r.getD 0))) → Q (.ref y) H') (turF t.g v r)
section
variable {P : Program} {w : World} {K : PySem.W.Frag} {mg : Str → Option Value} {base : Heap}
theorem ok_pw {d : D3} {C : Addr} {c : C6} {iB : Addr} {f : Addr} {fd : FuncData} (F : Fun K "__pow__" "Program.__pow__" sPw f fd) (G : PGet6 P w K mg base d C) (BB : ErrC P w K mg base "BadNumber" "value" c.b iB) (TQ : TxtQ mg K)
    (cCnt : C8.Cal P w K mg base 2 "is_count" (spCntA K) []) (cCol : CalL P w K mg base 3 "check_one_loop" (spCol K d C c)) (cRep : CalL P w K mg base 3 "repeated" (spRep K d c)) (cWp : CalL P w K mg base 7 "with_parts" (spWp K d C c)) : FnOk P w K mg base (L2N.CX P w) 8 f fd ["self", "other"] (spPw K d C c) := by
  obtain ⟨fdb, Fb, hbb⟩ := BB.ok
  refine NN.okN F scPw (fun vs H Q E h => ?_) (fun cdv A outer s H vs Q E hr h => ?_)
  · obtain ⟨x, t, j, rfl, _⟩ := h
    rfl
  · obtain ⟨x, t, j, rfl, ip, ok, k⟩ := h
    obtain ⟨pA, gA, fdA, qA, FA, bA⟩ := G.a.ex
    obtain ⟨pL, gL, fdL, qL, FL, bL⟩ := G.l.ex
    obtain ⟨pH, gH, fdH, qH, FH, bH⟩ := G.h.ex
    obtain ⟨tk2, e2⟩ := TQ.mi
    refine ⟨_, (pss_cons (ps_if (PW.pt (pw_or (pt_not (pt_val (C8.pe_c cCnt hr (by decide) rfl (pa_cons (pv 1) pa_nil)))) (pw_or1 (pt_cmpR op_eq (pv 1) pe_int (nomark _))))) (pss_one (L2N.ps_raise rfl (L2N.takes_of rfl rfl rfl rfl) (NN.pmkN BB.O BB.i BB.t Fb (hr.mono (by decide)) hbb pass0 rfl BB.g (pa_cons (pv 1) pa_nil)))) pss_nil)
      (pss_cons (ps_expr (pe_cL cCol hr (by decide) rfl (NN.passN (L2N.takes_of rfl rfl rfl rfl)) (pa_cons (pv 0) pa_nil)))
      (pss_one (ps_ret (pe_cL cWp hr (by decide) rfl (NN.passN (L2N.takes_of rfl rfl rfl rfl)) (pa_cons (pv 0) (pa_cons (NX.pe_propG (pv 0) FA (hr.mono (by decide)) bA pass0 rfl) (pa_cons (pe_cL cRep hr (by decide) rfl (NN.passN (L2N.takes_of rfl rfl rfl rfl)) (pa_cons (NX.pe_propG (pv 0) FL (hr.mono (by decide)) bL pass0 rfl) (pa_cons (pv 1) (pa_cons (pe_glob (v := .int 24) rfl e2 ⟨_, rfl⟩) pa_nil)))) (pa_cons (NX.pe_propG (pv 0) FH (hr.mono (by decide)) bH pass0 rfl) pa_nil))))))))), ?_⟩
    refine ⟨_, rfl, _, some j, rfl, .yes j rfl, true, rfl, ?_⟩
    refine iteF ⟨_, rfl, rfl, _, rfl, ?_⟩
    unfold powF at k
    by_cases j0 : j = 0
    · subst j0
      rw [if_pos rfl] at k
      exact iteT ⟨_, rfl, mkO_of BB.O BB.v fun dd H3 tl => k.num rfl dd H3 tl⟩
    · rw [if_neg j0] at k
      have e : decide (V.int (j : Int) = V.int 0) = false := decide_eq_false fun z => by
        injection z with z
        omega
      rw [e]
      refine iteF ⟨_, rfl, x, t, rfl, ip, one_ends k fun h1 k => ?_⟩
      obtain ⟨⟨ls, hl⟩, hs⟩ := oneF_none h1
      have eb : t.g.b = [] := ok.shape.s hs
      have z := ok.sizes
      have el : t.g.l.getD [] = ls := by rw [hl]; rfl
      obtain ⟨dx, fs, ix⟩ := ip.inst
      refine ⟨_, rfl, _, rfl, x, C, dx, fs, pA, rfl, ix, G.cl.cl, qA, x, t, rfl, ip, fun v0 a0 => ?_⟩
      refine ⟨_, rfl, x, C, dx, fs, pL, rfl, ix, G.cl.cl, qL, x, t, rfl, ip, fun v1 a1 => ?_⟩
      have a1 : PartA K d H v1 t.g.l := a1
      rw [hl] at a1
      obtain ⟨p1, rfl, d1⟩ := a1
      have ll := z.l
      rw [el] at ll k
      refine ⟨_, rfl, p1, j, 24, ls, rfl, d1, by omega, by decide, ?_⟩
      by_cases big : j * ls.length ≤ 24
      case neg =>
        rw [if_neg big] at k ⊢
        exact fun dd H' tl => k.many rfl dd H' tl
      rw [if_pos big] at k ⊢
      intro q1 H1 s1 d1'
      have ip1 := ip.same s1
      refine ⟨_, rfl, x, C, dx, fs, pH, rfl, s1 _ _ ix, G.cl.cl, qH, x, t, rfl, ip1, fun v4 a4 => ?_⟩
      have ep : (⟨t.g.a, some (rep j ls), [], none, t.g.h⟩ : Prg) = t.g.pow j := by unfold Prg.pow; rw [el]
      refine ⟨x, t, v0, .ref q1, v4, t.g.a, rep j ls, t.g.h, rfl, ip1, ok, (PartA.inA a0).same s1, d1'.inA, PartA.inA a4, ?_⟩
      rw [ep]
      refine ⟨pow_in, pow_v ok.v eb j, ?_⟩
      rw [pow_many z eb (by rw [el]; exact big)]
      exact fun y H' s2 ipy => k.ok rfl y H' (s1.trans s2) ipy
theorem ok_un {d : D3} {C : Addr} {c : C6} {iB : Addr} {f : Addr} {fd : FuncData} (F : Fun K "unrolled" "Program.unrolled" sUn f fd) (G : PGet6 P w K mg base d C) (BB : ErrC P w K mg base "BadNumber" "value" c.b iB) (TQ : TxtQ mg K)
    (cCnt : C8.Cal P w K mg base 2 "is_count" (spCntA K) []) (cCol : CalL P w K mg base 3 "check_one_loop" (spCol K d C c)) (cRep : CalL P w K mg base 3 "repeated" (spRep K d c)) (cWp : CalL P w K mg base 7 "with_parts" (spWp K d C c)) : FnOk P w K mg base (L2N.CX P w) 8 f fd ["self", "j"] (spUn K d C c) := by
  obtain ⟨fdb, Fb, hbb⟩ := BB.ok
  refine NN.okN F scUn (fun vs H Q E h => ?_) (fun cdv A outer s H vs Q E hr h => ?_)
  · obtain ⟨x, t, v, r, rfl, _⟩ := h
    rfl
  · obtain ⟨x, t, v, r, rfl, ip, ok, hc, k⟩ := h
    obtain ⟨pA, gA, fdA, qA, FA, bA⟩ := G.a.ex
    obtain ⟨pL, gL, fdL, qL, FL, bL⟩ := G.l.ex
    obtain ⟨pH, gH, fdH, qH, FH, bH⟩ := G.h.ex
    obtain ⟨tk1, e1⟩ := TQ.ma
    refine ⟨_, (pss_cons (ps_if (pt_not (pt_val (C8.pe_c cCnt hr (by decide) rfl (pa_cons (pv 1) pa_nil)))) (pss_one (L2N.ps_raise rfl (L2N.takes_of rfl rfl rfl rfl) (NN.pmkN BB.O BB.i BB.t Fb (hr.mono (by decide)) hbb pass0 rfl BB.g (pa_cons (pv 1) pa_nil)))) pss_nil)
      (pss_cons (ps_expr (pe_cL cCol hr (by decide) rfl (NN.passN (L2N.takes_of rfl rfl rfl rfl)) (pa_cons (pv 0) pa_nil)))
      (pss_one (ps_ret (pe_cL cWp hr (by decide) rfl (NN.passN (L2N.takes_of rfl rfl rfl rfl)) (pa_cons (pv 0) (pa_cons (pe_tup (StX.pa_star (NX.pe_propG (pv 0) FA (hr.mono (by decide)) bA pass0 rfl) (StX.pa_star (pe_cL cRep hr (by decide) rfl (NN.passN (L2N.takes_of rfl rfl rfl rfl)) (pa_cons (NX.pe_propG (pv 0) FL (hr.mono (by decide)) bL pass0 rfl) (pa_cons (pv 1) (pa_cons (pe_glob (v := .int 200) rfl e1 ⟨_, rfl⟩) pa_nil)))) pa_nil))) (pa_cons (NX.pe_propG (pv 0) FL (hr.mono (by decide)) bL pass0 rfl) (pa_cons (NX.pe_propG (pv 0) FH (hr.mono (by decide)) bH pass0 rfl) pa_nil))))))))), ?_⟩
    refine ⟨_, rfl, _, r, rfl, hc, _, rfl, ?_⟩
    cases r with
    | none => exact iteT ⟨_, rfl, mkO_of BB.O BB.v fun dd H3 tl => k.num rfl dd H3 tl⟩
    | some j =>
      have ev : v = .int (j : Int) := by cases hc; assumption
      subst ev
      refine iteF ⟨_, rfl, x, t, rfl, ip, one_ends k fun h1 k => ?_⟩
      obtain ⟨⟨ls, hl⟩, hs⟩ := oneF_none h1
      have eb : t.g.b = [] := ok.shape.s hs
      have z := ok.sizes
      have el : t.g.l.getD [] = ls := by rw [hl]; rfl
      have um := unr_many z j
      obtain ⟨dx, fs, ix⟩ := ip.inst
      refine ⟨_, rfl, _, rfl, x, C, dx, fs, pA, rfl, ix, G.cl.cl, qA, x, t, rfl, ip, fun v0 a0 => ?_⟩
      obtain ⟨p0, rfl, xs0, e0, al0⟩ := a0
      refine ⟨p0, _, rfl, .inl e0, ?_⟩
      refine ⟨_, rfl, x, C, dx, fs, pL, rfl, ix, G.cl.cl, qL, x, t, rfl, ip, fun v1 a1 => ?_⟩
      have a1 : PartA K d H v1 t.g.l := a1
      rw [hl] at a1
      obtain ⟨p1, rfl, d1⟩ := a1
      have ll := z.l
      have la := z.a
      rw [el] at ll k um
      refine ⟨_, rfl, p1, j, 200, ls, rfl, d1, by omega, by decide, ?_⟩
      by_cases big : j * ls.length ≤ 200
      case neg =>
        rw [if_neg big]
        rw [if_neg (by omega)] at k
        exact fun dd H' tl => k.many rfl dd H' tl
      rw [if_pos big]
      intro q1 H1 s1 d1'
      obtain ⟨xs1, e1', al1⟩ := d1'
      refine ⟨q1, _, rfl, .inl e1', ?_⟩
      have al := (al0.same s1).app al1
      have n0 := al0.1
      have n1 := al1.1
      rw [rep_len] at n1
      have n0 : xs0.length = t.g.a.length := n0
      have low : (1000 : Nat) ≤ sizeLine := by decide
      dsimp only [tNil]
      rw [List.append_nil, ← List.map_append]
      refine ⟨by rw [List.length_map, List.length_append]; omega, fun q2 hq2 => ?_⟩
      have s2 := s1.trans (Same.new (o := .tup ((xs0 ++ xs1).map V.ref)) hq2)
      have sm : Same H1 (upd H1 q2 (.tup ((xs0 ++ xs1).map V.ref))) := Same.new hq2
      have g2 : (upd H1 q2 (.tup ((xs0 ++ xs1).map V.ref))) q2 = _ := upd_same
      have al := al.same sm
      generalize (upd H1 q2 (.tup ((xs0 ++ xs1).map V.ref))) = H2 at *
      have ip2 := ip.same s2
      have ix2 := s2 _ _ ix
      refine ⟨_, rfl, x, C, dx, fs, pL, rfl, ix2, G.cl.cl, qL, x, t, rfl, ip2, fun v1 a1 => ?_⟩
      have a1 : PartA K d H2 v1 t.g.l := a1
      rw [hl] at a1
      refine ⟨_, rfl, x, C, dx, fs, pH, rfl, ix2, G.cl.cl, qH, x, t, rfl, ip2, fun v4 a4 => ?_⟩
      have ep : (⟨t.g.a ++ rep j ls, some ls, [], none, t.g.h⟩ : Prg) = t.g.unr j := by unfold Prg.unr; rw [el]
      refine ⟨x, t, .ref q2, v1, v4, t.g.a ++ rep j ls, ls, t.g.h, rfl, ip2, ok, ⟨q2, _, rfl, .inr (SqT.of g2), al⟩, PartA.inA a1, PartA.inA a4, ?_⟩
      rw [ep]
      refine ⟨unr_in, unr_v ok.v eb j, ?_⟩
      rw [um]
      by_cases tot : t.g.a.length + j * ls.length + t.g.h.length ≤ 200
      · rw [if_pos tot] at k ⊢
        exact fun y H' s3 ipy => k.ok rfl y H' (s2.trans s3) ipy
      · rw [if_neg tot] at k ⊢
        exact fun dd H' tl => k.many rfl dd H' (tl.old s2)
end
end K06

set_option Elab.async false
set_option linter.all false
set_option maxRecDepth 100000
set_option maxHeartbeats 4000000
/-! turned. -/
namespace K06
open PySem L2 NX NU
open PyProof.Rows (sortedS)
theorem slT {K : PySem.W.Frag} {H : Hp} {a : Addr} {xs : List V} {lo hi : Option Int} {Q : VK} (hS : SqT K H a xs) (k : ∀ p H', Same H H' → SqT K H' p (cutV xs lo hi) → Q (.ref p) H') : rSlA K (.ref a) lo hi H Q := by
  refine ⟨a, xs, rfl, hS, fun w => k a H (Same.refl H) ?_, fun _ p hp => k p _ (Same.new hp) (SqT.of upd_same)⟩
  have e : cutV xs lo hi = xs := by
    unfold cutV
    rw [w.1, w.2, List.drop_zero, Nat.sub_zero, List.take_length]
  rw [e]
  exact hS
theorem ctT {K : PySem.W.Frag} {H : Hp} {a b : Addr} {xs ys : List V} {Q : VK} (hx : SqT K H a xs) (hy : SqT K H b ys) (hl : xs.length + ys.length ≤ sizeLine) (k : ∀ p H', Same H H' → SqT K H' p (xs ++ ys) → Q (.ref p) H') : rCatA K (.ref a) (.ref b) H Q := by
  refine ⟨a, b, xs, ys, rfl, rfl, hx, hy, hl, fun e => k b H (Same.refl H) (by rw [e]; exact hy), fun _ e => k a H (Same.refl H) (by rw [e, List.append_nil]; exact hx), fun _ _ p hp => k p _ (Same.new hp) (SqT.of upd_same)⟩
theorem cut_to (xs : List V) (k : Nat) : cutV xs none (some (k : Int)) = xs.take k := by
  unfold cutV
  rw [HT.sIx_none, HT.sIx_nat, List.drop_zero, Nat.sub_zero]
  by_cases h : k ≤ xs.length
  · rw [Nat.min_eq_left h]
  · rw [Nat.min_eq_right (by omega), List.take_length, List.take_of_length_le (by omega)]
theorem cut_from (xs : List V) (k : Nat) : cutV xs (some (k : Int)) none = xs.drop k := by
  unfold cutV
  rw [HT.sIx_none, HT.sIx_nat]
  by_cases h : k ≤ xs.length
  · rw [Nat.min_eq_left h, ← List.length_drop, List.take_length]
  · rw [Nat.min_eq_right (by omega), List.drop_length, List.take_nil, List.drop_of_length_le (by omega)]
section
variable {P : Program} {w : World} {K : PySem.W.Frag} {mg : Str → Option Value} {base : Heap}
theorem ok_tu {d : D3} {C : Addr} {c : C6} {iB : Addr} {f : Addr} {fd : FuncData} (F : Fun K "turned" "Program.turned" sTu f fd) (G : PGet6 P w K mg base d C) (BB : ErrC P w K mg base "BadNumber" "value" c.b iB) (T : TxtB mg)
    (cCnt : C8.Cal P w K mg base 2 "is_count" (spCntA K) []) (cCol : CalL P w K mg base 3 "check_one_loop" (spCol K d C c)) (cWp : CalL P w K mg base 7 "with_parts" (spWp K d C c)) : FnOk P w K mg base (L2N.CX P w) 8 f fd ["self", "j"] (spTu K d C c) := by
  obtain ⟨fdb, Fb, hbb⟩ := BB.ok
  refine NN.okN F scTu (fun vs H Q E h => ?_) (fun cdv A outer s H vs Q E hr h => ?_)
  · obtain ⟨x, t, v, r, rfl, _⟩ := h
    rfl
  · obtain ⟨x, t, v, r, rfl, ip, ok, hc, k⟩ := h
    obtain ⟨pA, gA, fdA, qA, FA, bA⟩ := G.a.ex
    obtain ⟨pL, gL, fdL, qL, FL, bL⟩ := G.l.ex
    obtain ⟨pH, gH, fdH, qH, FH, bH⟩ := G.h.ex
    refine ⟨_, (C8.pss_cut (ps_if (PW.pt (pw_or (pt_not (pt_val (C8.pe_c cCnt hr (by decide) rfl (pa_cons (pv 1) pa_nil)))) (pw_or1 (PW.pt (pw_and (pt_cmpR op_notN (NX.pe_propG (pv 0) FL (hr.mono (by decide)) bL pass0 rfl) pe_non (nomark _)) (pw_and1 (pt_cmpR op_gt (pv 1) (pe_callB call_len_seq (by rfl) T.blen (by decide +kernel) (pa_cons (NX.pe_propG (pv 0) FL (hr.mono (by decide)) bL pass0 rfl) pa_nil)) (nomark _)))))))) (pss_one (L2N.ps_raise rfl (L2N.takes_of rfl rfl rfl rfl) (NN.pmkN BB.O BB.i BB.t Fb (hr.mono (by decide)) hbb pass0 rfl BB.g (pa_cons (pv 1) pa_nil)))) pss_nil)
      (pss_cons (ps_expr (pe_cL cCol hr (by decide) rfl (NN.passN (L2N.takes_of rfl rfl rfl rfl)) (pa_cons (pv 0) pa_nil)))
      (pss_cons (ps_par (i := 2) (j := 3) (by rfl) scTu.nd rfl rfl (by decide) rfl rfl (pa_cons (pe_slice sl_tupA (NX.pe_propG (pv 0) FL (hr.mono (by decide)) bL pass0 rfl) po_none (po_some (pv 1))) (pa_cons (pe_slice sl_tupA (NX.pe_propG (pv 0) FL (hr.mono (by decide)) bL pass0 rfl) (po_some (pv 1)) po_none) pa_nil)) (by rfl))
      (pss_one (ps_ret (pe_cL cWp hr (by decide) rfl (NN.passN (L2N.takes_of rfl rfl rfl rfl)) (pa_cons (pv 0) (pa_cons (pe_op op_catA (NX.pe_propG (pv 0) FA (hr.mono (by decide)) bA pass0 rfl) (pv 2)) (pa_cons (pe_op op_catA (pv 3) (pv 2)) (pa_cons (pe_op op_catA (pv 3) (NX.pe_propG (pv 0) FH (hr.mono (by decide)) bH pass0 rfl)) pa_nil)))))))))), ?_⟩
    obtain ⟨dx, fs, ix⟩ := ip.inst
    refine ⟨fun σ H' => ∃ j : Nat, r = some j ∧ ¬ (t.g.l.isSome = true ∧ (t.g.l.getD []).length < j) ∧ σ = [some (.ref x), some (.int (j : Int)), none, none] ∧ H = H', ?_, ?_⟩
    · refine ⟨_, rfl, _, r, rfl, hc, _, rfl, ?_⟩
      cases r with
      | none => exact iteT (iteT ⟨_, rfl, mkO_of BB.O BB.v fun dd H3 tl => k.num rfl dd H3 tl⟩)
      | some j =>
        have ev : v = .int (j : Int) := by cases hc; assumption
        subst ev
        refine iteF ⟨_, rfl, x, C, dx, fs, pL, rfl, ix, G.cl.cl, qL, x, t, rfl, ip, fun v1 a1 => ⟨rfl, _, rfl, ?_⟩⟩
        rw [a1.isNon]
        have e1 : t.g.at 1 = t.g.l := rfl
        rw [e1]
        cases hl : t.g.l with
        | none => exact iteF (iteF ⟨j, rfl, (fun z => by cases z.1), rfl, rfl⟩)
        | some ls =>
          refine iteT ⟨_, rfl, _, rfl, x, C, dx, fs, pL, rfl, ix, G.cl.cl, qL, x, t, rfl, ip, fun v2 a2 => ?_⟩
          have a2 : PartA K d H v2 t.g.l := a2
          rw [hl] at a2
          obtain ⟨p2, rfl, xs2, e2, al2⟩ := a2
          have l2 := al2.1
          refine ⟨p2, _, rfl, .inr e2, _, _, rfl, rfl, _, rfl, ite2 (fun h => ?_) (fun h => ?_)⟩
          · have h := of_decide_eq_true h
            rw [List.length_map] at h
            have k : Ends6 c H E _ (turF t.g (.int (j : Int)) (some j)) := k
            unfold turF at k
            dsimp only at k
            rw [hl] at k
            rw [if_pos ⟨rfl, (show ls.length < j by omega)⟩] at k
            exact ⟨_, rfl, mkO_of BB.O BB.v fun dd H3 tl => k dd H3 tl⟩
          · have h : ¬ (j : Int) > ((xs2.map V.ref).length : Int) := fun z => h (decide_eq_true z)
            rw [List.length_map] at h
            exact ⟨j, rfl, (fun z => (show ¬ ls.length < j by omega) z.2), rfl, rfl⟩
    · rintro σ H' ⟨j, rfl, no, rfl, rfl⟩
      have ev : v = .int (j : Int) := by cases hc; assumption
      subst ev
      have k : Ends6 c H E (∀ y H', Same H H' → IsP K d H' y C (t.with_ (t.g.tur j)) → Q (.ref y) H') (turF t.g (.int (j : Int)) (some j)) := k
      unfold turF at k
      dsimp only at k
      rw [if_neg no] at k
      refine ⟨_, rfl, x, t, rfl, ip, one_ends k fun h1 k => ?_⟩
      obtain ⟨⟨ls, hl⟩, hs⟩ := oneF_none h1
      have eb : t.g.b = [] := ok.shape.s hs
      have z := ok.sizes
      have el : t.g.l.getD [] = ls := by rw [hl]; rfl
      have la := z.a
      have ll := z.l
      have lh := z.h
      rw [el] at ll no
      have jl : j ≤ ls.length := by
        have : ¬ ls.length < j := fun q => no ⟨by rw [hl]; rfl, q⟩
        omega
      have low : (1000 : Nat) ≤ sizeLine := by decide
      refine ⟨_, rfl, x, C, dx, fs, pL, rfl, ix, G.cl.cl, qL, x, t, rfl, ip, fun v1 a1 => ?_⟩
      have a1 : PartA K d H v1 t.g.l := a1
      rw [hl] at a1
      obtain ⟨p1, rfl, xs1, e1, al1⟩ := a1
      have sm : ∀ {H1 : Hp} {a : Addr} {xs : List V}, Same H H1 → SqT K H a xs → SqT K H1 a xs := fun s h => sqT_same s h
      refine ⟨_, rfl, _, rfl, slT e1 fun f1 H1 s1 ef => ?_⟩
      rw [cut_to, ← List.map_take] at ef
      refine ⟨_, rfl, x, C, dx, fs, pL, rfl, s1 _ _ ix, G.cl.cl, qL, x, t, rfl, ip.same s1, fun v2 a2 => ?_⟩
      have a2 : PartA K d H1 v2 t.g.l := a2
      rw [hl] at a2
      obtain ⟨p2, rfl, xs2, e2, al2⟩ := a2
      refine ⟨_, rfl, _, rfl, ?_⟩
      dsimp only [tNoPart]
      refine slT e2 fun r1 H2 s2 er => ?_
      rw [cut_from, ← List.map_drop] at er
      refine ⟨_, _, rfl, ?_⟩
      have t2 := s1.trans s2
      have n1 := al1.1
      have n2 := al2.1
      have ef := sqT_same s2 ef
      have af := (al1.take j).same t2
      have ar := (al2.drop j).same s2
      refine ⟨_, rfl, _, rfl, x, C, dx, fs, pA, rfl, t2 _ _ ix, G.cl.cl, qA, x, t, rfl, ip.same t2, fun v0 a0 => ?_⟩
      obtain ⟨p0, rfl, xs0, e0, al0⟩ := a0
      have n0 : xs0.length = t.g.a.length := al0.1
      refine ⟨_, rfl, ctT e0 ef (by rw [List.length_map, List.length_map, List.length_take]; omega) fun q0 H3 s3 eq0 => ?_⟩
      have t3 := t2.trans s3
      refine ⟨_, rfl, _, rfl, ctT (sqT_same s3 er) (sqT_same s3 ef) (by rw [List.length_map, List.length_map, List.length_take, List.length_drop]; omega) fun q1 H4 s4 eq1 => ?_⟩
      have t4 := t3.trans s4
      refine ⟨_, rfl, _, rfl, x, C, dx, fs, pH, rfl, t4 _ _ ix, G.cl.cl, qH, x, t, rfl, ip.same t4, fun v4 a4 => ?_⟩
      obtain ⟨p4, rfl, xs4, e4, al4⟩ := a4
      have n4 : xs4.length = t.g.h.length := al4.1
      refine ctT (sqT_same s4 (sqT_same s3 er)) e4 (by rw [List.length_map, List.length_map, List.length_drop]; omega) fun q2 H5 s5 eq2 => ?_
      have t5 := t4.trans s5
      have s35 := s3.trans (s4.trans s5)
      have ep : (⟨t.g.a ++ ls.take j, some (ls.drop j ++ ls.take j), [], none, ls.drop j ++ t.g.h⟩ : Prg) = t.g.tur j := by unfold Prg.tur; rw [el]
      rw [← List.map_append] at eq0 eq1 eq2
      refine ⟨x, t, .ref q0, .ref q1, .ref q2, t.g.a ++ ls.take j, ls.drop j ++ ls.take j, ls.drop j ++ t.g.h, rfl, ip.same t5, ok, ⟨q0, _, rfl, .inr (sqT_same (s4.trans s5) eq0), (al0.same s35).app (af.same s35)⟩, ⟨q1, _, rfl, .inr (sqT_same s5 eq1), (ar.same s35).app (af.same s35)⟩, ⟨q2, _, rfl, .inr eq2, (ar.same s35).app (al4.same s5)⟩, ?_⟩
      rw [ep]
      refine ⟨tur_in, tur_v ok.v eb j, ?_⟩
      cases hm : (t.g.tur j).many with
      | none =>
        rw [hm] at k
        exact fun y H' s6 ipy => k y H' (t5.trans s6) ipy
      | some m =>
        rw [hm] at k
        exact fun dd H' tl => k dd H' (tl.old t5)
end
end K06

set_option Elab.async false
set_option linter.all false
set_option maxRecDepth 100000
set_option maxHeartbeats 4000000
/-! Rules of my own: != of two lists, of two tuples, whose items are equal by own equalities. -/
namespace NZ
open PySem PySem.SeqAt
open AutoSeq1 (wpAny_loadPart')
open MeetsSeq MeetsSeq2 MeetsSeq3 SeqRoads2
section
variable {prog : Program} {w : World} {A : Around} {R : Result → Shared → Prop}
theorem walk_ne (l b : Addr) (N : Nat) (J : Nat → Shared → Prop) (look : GQ.ListI prog w A (fun e s' => R (.error e) s') l b N J) (fin : ∀ s, J N s → R (.ok (.ret (.bool false))) s) : ∀ (left i : Nat), N - i = left → i ≤ N → ∀ s, J i s →
    wpAny (model prog w) A.in1 (Builtin.«list.__eq__.loop» ⟨[.ref l, .ref b, rawInt i, rawInt 3], []⟩) (GQ.FinOf prog w A R) (fun e s' => R (.error e) s') s := by
  intro left
  induction left with
  | zero =>
    intro i el ile s hJ
    obtain ⟨xs, ys, p, q, gl, gb, zx, zy, _⟩ := look _ _ hJ
    have done : R (.ok (.ret (.bool false))) s := fin s (by rw [show N = i by omega]; exact hJ)
    obtain ⟨hp, g, d, tk, os⟩ := s
    wp_walk using wpAny_loadPart' gl, wpAny_loadPart' gb
    rw [show xs[((i : Nat) : Int).toNat]? = none by simp; omega, show ys[((i : Nat) : Int).toNat]? = none by simp; omega]
    wp_walk using wpAny_loadPart' gl, wpAny_loadPart' gb
    show R (.ok (.ret (.bool (xs.size != ys.size)))) _
    rw [zx, zy]
    simpa using done
  | succ left ih =>
    intro i el ile s hJ
    obtain ⟨xs, ys, p, q, gl, gb, zx, zy, turn⟩ := look _ _ hJ
    have ix : i < xs.size := by omega
    have iy : i < ys.size := by omega
    have one := turn ix iy
    obtain ⟨hp, g, d, tk, os⟩ := s
    wp_walk using wpAny_loadPart' gl, wpAny_loadPart' gb
    rw [show xs[((i : Nat) : Int).toNat]? = some xs[i] by simp [ix], show ys[((i : Nat) : Int).toNat]? = some ys[i] by simp [iy]]
    refine wpAny_bind (wpAny_mono one (fun r s2 h2 => ?_) fun _ _ x => x)
    obtain ⟨er, h2⟩ := h2
    subst er
    have more := ih (i + 1) (by omega) (by omega) s2 h2
    obtain ⟨hp2, g2, d2, tk2, os2⟩ := s2
    wp_walk
    rw [show ((i : Int) + 1) = ((i + 1 : Nat) : Int) by omega]
    refine ⟨plainId_quiet plain_eq_loop _, codeAny_builtin entry_eq_loop ?_⟩
    rw [Around.under_plainId plain_eq_loop _]
    exact more
theorem lists_ne (l b : Addr) (N : Nat) (J : Nat → Shared → Prop) (look : GQ.ListI prog w A (fun e s' => R (.error e) s') l b N J) (fin : ∀ s, J N s → R (.ok (.ret (.bool false))) s) {s : Shared} (hJ : J 0 s) :
    wpAny (model prog w) A.in1 (Builtin.«list.__ne__» ⟨[.ref l, .ref b], []⟩) (GQ.FinOf prog w A R) (fun e s' => R (.error e) s') s := by
  obtain ⟨xs, ys, p, q, gl, gb, zx, zy, _⟩ := look _ _ hJ
  have more := walk_ne (A := A) (R := R) l b N J look fin _ 0 rfl (Nat.zero_le _) s hJ
  obtain ⟨hp, g, d, tk, os⟩ := s
  have f3 := AutoSeq1.sub_list_list
  have same : ¬ (xs.size != ys.size) = true := by simp [zx, zy]
  wp_walk using wpAny_loadPart' gl, wpAny_loadPart' gb
  refine ⟨plainId_quiet plain_eq_loop _, codeAny_builtin entry_eq_loop ?_⟩
  rw [Around.under_plainId plain_eq_loop _]
  exact more
theorem tuples_ne (l b : Addr) (xs ys : Array Value) (p q : Nat) (dd dd2 : Option Addr) (sl sl2 : Array (Option Value)) (zz : xs.size = ys.size) (J : Nat → Shared → Prop)
    (turn : ∀ i (h1 : i < xs.size) (h2 : i < ys.size) s, J i s → wpAny (model prog w) A.in1 (eqBool xs[i] ys[i]) (fun r s' => r = true ∧ J (i + 1) s') (fun e s' => R (.error e) s') s)
    (fin : ∀ s, J xs.size s → R (.ok (.ret (.bool false))) s) {s : Shared} (gl : s.heap.get? l = some { cls := .type "tuple", dict := dd, data := .seq xs p, slots := sl }) (gb : s.heap.get? b = some { cls := .type "tuple", dict := dd2, data := .seq ys q, slots := sl2 }) (hJ : J 0 s) :
    wpAny (model prog w) A.in1 (Builtin.«tuple.__ne__» ⟨[.ref l, .ref b], []⟩) (GQ.FinOf prog w A R) (fun e s' => R (.error e) s') s := by
  have f2 := AutoSeq1.sub_tuple_tuple
  have lz : (xs.toList.zip ys.toList).length = xs.size := by simp [zz]
  have first := hJ
  obtain ⟨hp, g, d, tk, os⟩ := s
  wp_walk using wpAny_loadPart' gl, wpAny_loadPart' gb, wpAny_forIn_list _ (fun rest b s' => b.1 = none ∧ ∃ i, rest = (xs.toList.zip ys.toList).drop i ∧ i ≤ xs.size ∧ J i s') _
  case turn =>
    rintro ⟨y, x⟩ rest b s' ⟨_, i, ez, ile, hI⟩
    have lt : i < (xs.toList.zip ys.toList).length := by
      by_cases c : i < (xs.toList.zip ys.toList).length
      · exact c
      · rw [List.drop_of_length_le (by omega)] at ez
        cases ez
    have i1 : i < xs.size := by omega
    have i2 : i < ys.size := by omega
    rw [List.drop_eq_getElem_cons lt] at ez
    obtain ⟨e1, e2⟩ := List.cons.inj ez
    obtain rfl : y = xs[i] := by have := congrArg Prod.fst e1; simpa using this
    obtain rfl : x = ys[i] := by have := congrArg Prod.snd e1; simpa using this
    refine wpAny_bind (wpAny_mono (turn i i1 i2 s' hI) (fun r s2 q2 => ?_) fun _ _ x => x)
    obtain ⟨er, q2⟩ := q2
    subst er
    wp_walk
    exact ⟨rfl, i + 1, e2, i1, q2⟩
  case fin =>
    rintro ⟨b1, b2⟩ s' ⟨eb, i, ez, ile, hI⟩
    simp only at eb
    subst eb
    have full : i = xs.size := by
      by_cases c : i < (xs.toList.zip ys.toList).length
      · rw [List.drop_eq_getElem_cons c] at ez
        cases ez
      · omega
    have done : R (.ok (.ret (.bool false))) s' := fin s' (full ▸ hI)
    wp_walk
    simpa [Builtin.Tuple.tupleCompareSizes, zz] using done
  case h => exact ⟨rfl, 0, rfl, Nat.zero_le _, first⟩
end
section
variable {prog : Program} {w : World} {A : Around} {E : Value → Shared → Prop} {s : Shared}
theorem rn_list {l b : Addr} {N : Nat} {Q : Value → Shared → Prop} (hu : A.units < cLine) (J : Nat → Shared → Prop) (look : GQ.ListI prog w A E l b N J) (fin : ∀ s, J N s → Q (.bool false) s) (hJ : J 0 s) : wpAny (model prog w) A (richCompare .NotEq (.ref l) (.ref b)) Q E s := by
  obtain ⟨xs, ys, p, q, gl, gb, _, _, _⟩ := look _ _ hJ
  refine wpAny_richCompare_same_room (op := .NotEq) ⟨_, gl, rfl⟩ ⟨_, gb, rfl⟩ F.slot_list_ne (GQ.call_here F.slot_list_ne ⟨_, gl, rfl⟩ F.entry_list_ne (F.args_list_ne_2 _ _) ?_) hu
  exact lists_ne (R := wants (fun v s' => v ≠ .notImplemented ∧ Q v s') E) l b N J look (fun s' z => ⟨nofun, fin s' z⟩) hJ
theorem rn_tup {l b : Addr} {xs ys : Array Value} {Q : Value → Shared → Prop} (zz : xs.size = ys.size) (hu : A.units < cLine) (J : Nat → Shared → Prop) (hl : s.heap.IsTuple l xs) (hb : s.heap.IsTuple b ys)
    (turn : ∀ i (h1 : i < xs.size) (h2 : i < ys.size) s, J i s → wpAny (model prog w) A.in1 (eqBool xs[i] ys[i]) (fun r s' => r = true ∧ J (i + 1) s') E s) (fin : ∀ s, J xs.size s → Q (.bool false) s) (hJ : J 0 s) : wpAny (model prog w) A (richCompare .NotEq (.ref l) (.ref b)) Q E s := by
  obtain ⟨⟨c1, d1, u1, sl1⟩, o1, k1, n1, z1⟩ := id hl
  obtain ⟨⟨c2, d2, u2, sl2⟩, o2, k2, n2, z2⟩ := id hb
  simp only at k1 z1 k2 z2
  subst k1 z1 k2 z2
  refine wpAny_richCompare_same_room (op := .NotEq) ⟨_, o1, rfl⟩ ⟨_, o2, rfl⟩ F.slot_tuple_ne (GQ.call_here F.slot_tuple_ne ⟨_, o1, rfl⟩ F.entry_tuple_ne (F.args_tuple_ne_2 _ _) ?_) hu
  exact tuples_ne (R := wants (fun v s' => v ≠ .notImplemented ∧ Q v s') E) l b xs ys n1 n2 d1 d2 sl1 sl2 zz J turn (fun s' z => ⟨nofun, fin s' z⟩) o1 o2 hJ
end
end NZ
namespace NZ
open PySem PySem.Spec PyProof.Rows L2
section
variable {X : Cx} {n : Nat} {D : Eqv}
/-- != gives False for what D says -/
def RnG (X : Cx) (n : Nat) (D : Eqv) : Prop :=
  ∀ (A : Around) (pins : List (Addr × Obj)) (s : Shared) (σ : L2.St) (H : Hp) (x y : V) (u v : Value), Sub X n A → Inv X pins σ H s → RelV x u → RelV y v → D x y H →
    wpAny (model X.prog X.w) A (richCompare .NotEq u v) (fun r s' => r = .bool false ∧ ∃ H', Inv X pins σ H' s' ∧ Ext H H') X.xe s
theorem rnG_list (hD : Mon D) (h : EqG X n D) : RnG X (n + 1) (DList D) := by
  intro A pins s σ H x y u v sb I rx ry d
  obtain ⟨a, b, xs, ys, rfl, rfl, ha, hb, p⟩ := d
  cases rx
  cases ry
  refine rn_list (N := xs.length) sb.room.units0 (fun _ s' => LoopI X pins σ H s') (fun i s' q => ?_) (fun s' q => ⟨rfl, q⟩) ⟨H, I, Ext.rfl'⟩
  obtain ⟨H1, I1, e1⟩ := id q
  obtain ⟨z1, is1, k1, r1, f1⟩ := I1.hok a _ (e1 _ _ ha)
  obtain ⟨z2, is2, k2, r2, f2⟩ := I1.hok b _ (e1 _ _ hb)
  exact ⟨is1.toArray, is2.toArray, k1, k2, f1, f2, by rw [List.size_toArray, ← r1.length], by rw [List.size_toArray, ← r2.length, ← p.1], fun h1 h2 => turnG hD h sb p r1 r2 i h1 h2 s' q⟩
theorem rnG_tup (hD : Mon D) (h : EqG X n D) : RnG X (n + 1) (DTup X.K D) := by
  intro A pins s σ H x y u v sb I rx ry d
  obtain ⟨a, b, xs, ys, rfl, rfl, ha, hb, p⟩ := d
  cases rx
  cases ry
  obtain ⟨is1, r1, f1, z1⟩ := I.tuple ha
  obtain ⟨is2, r2, f2, z2⟩ := I.tuple hb
  exact rn_tup (by rw [List.size_toArray, List.size_toArray, ← r1.length, ← r2.length]; exact p.1) sb.room.units0 (fun _ s' => LoopI X pins σ H s') f1 f2 (fun i h1 h2 s' q => turnG hD h sb p r1 r2 i h1 h2 s' q) (fun s' q => ⟨rfl, q⟩) ⟨H, I, Ext.rfl'⟩
def rNeG (D : Eqv) : R2 := fun x y H Q => D x y H ∧ ∀ H', Ext H H' → Q (.bl false) H'
theorem op_neG (h : RnG X n D) (hr : Room n X.A) : OpR X (compareOp .NotEq) (rNeG D) := by
  intro pins s σ H x y v u Q I rx ry hq
  obtain ⟨d, q⟩ := hq
  show wpAny (model X.prog X.w) X.A (richCompare .NotEq v u) (EP X pins σ Q) X.xe s
  refine wpAny_mono (h X.A pins s σ H x y v u ⟨hr, rfl⟩ I rx ry d) (fun r s' z => ?_) fun _ _ x => x
  obtain ⟨rfl, H', I', e⟩ := z
  exact ⟨.bl false, H', I', rfl, q H' e⟩
end
end NZ

set_option Elab.async false
set_option linter.all false
set_option maxRecDepth 100000
set_option maxHeartbeats 4000000
/-! The text that repr tells of made data of any kind; what is kept of data while objects are made and tables grow. -/
namespace NX
open PySem PySem.Spec PyProof.Rows L2 LamX
section
variable {X : Cx}
/-- repr(x), x any made data -/
def rReprD (K : PySem.W.Frag) : List V → Hp → VK → Prop := fun xs H Q => ∃ (v : V) (d : PyData), xs = [v] ∧ Dr K H v d ∧ d.showable = true ∧ d.depth ≤ 50 ∧ d.shown.length ≤ sizeLine ∧ (∀ i, d = .int i → i.natAbs.log2 < 1920) ∧ Q (.str d.shown) H
theorem call_reprD (hg : X.A.guards = some []) (hu : X.A.units + 64 < cLine) (S : SysB X.base) : CallR X (.builtin "repr") (rReprD X.K) := by
  intro pins s σ H xs us Q I r h
  obtain ⟨v, d, rfl, hd, hs, hdp, hl, hi, q⟩ := h
  cases hd with
  | non =>
    cases r with
    | cons r1 r2 =>
      cases r2
      cases r1
      exact PySem.P.repr_of_none ⟨.str _, H, I.tok _, ⟨_, rfl⟩, q⟩
  | bl b =>
    cases r with
    | cons r1 r2 =>
      cases r2
      cases r1
      exact PySem.P.repr_of_bool ⟨.str _, H, I.tok _, ⟨_, rfl⟩, q⟩
  | int i =>
    cases r with
    | cons r1 r2 =>
      cases r2
      obtain ⟨t, rfl⟩ := r1
      exact PySem.P.repr_of_int (hi i rfl) ⟨.str _, H, I.tok _, ⟨_, rfl⟩, q⟩
  | str x =>
    cases r with
    | cons r1 r2 =>
      cases r2
      obtain ⟨t, rfl⟩ := r1
      exact PySem.P.repr_of_str ⟨.str _, H, I.tok _, ⟨_, rfl⟩, q⟩ hl
  | lst a b => exact call_repr hg hu S pins s σ H _ us Q I r ⟨_, _, rfl, .lst a b, hs, hdp, hl, q⟩
  | tup a b => exact call_repr hg hu S pins s σ H _ us Q I r ⟨_, _, rfl, .tup a b, hs, hdp, hl, q⟩
  | dct a b => exact call_repr hg hu S pins s σ H _ us Q I r ⟨_, _, rfl, .dct a b, hs, hdp, hl, q⟩
end
theorem seqL_keep {K : PySem.W.Frag} {H H' : Hp} {a : Addr} {xs : List V} (k : ∀ o, H a = some o → (∀ ps, o ≠ .tbl ps) → H' a = some o) (h : SqL K H a xs) : SqL K H' a xs := by
  rcases h with (h | ⟨o, h⟩) | h
  · exact .inl (.inl (k _ h (by intro p e; cases e)))
  · exact .inl (.inr ⟨o, k _ h (by intro p e; cases e)⟩)
  · exact .inr h
theorem seqT_keep {K : PySem.W.Frag} {H H' : Hp} {a : Addr} {xs : List V} (k : ∀ o, H a = some o → (∀ ps, o ≠ .tbl ps) → H' a = some o) (h : SqT K H a xs) : SqT K H' a xs := by
  rcases h with (h | ⟨o, h⟩) | h
  · exact .inl (.inl (k _ h (by intro p e; cases e)))
  · exact .inl (.inr ⟨o, k _ h (by intro p e; cases e)⟩)
  · exact .inr h
mutual
theorem Dr.extN {K : PySem.W.Frag} {H H' : Hp} (s : ExtN H H') : ∀ {v : V} {d : PyData}, Dr K H v d → Dr K H' v d
  | _, _, .non => .non
  | _, _, .bl b => .bl b
  | _, _, .int i => .int i
  | _, _, .str x => .str x
  | _, _, .lst a b => .lst (seqL_keep (s _) a) (DrAll.extN s b)
  | _, _, .tup a b => .tup (seqT_keep (s _) a) (DrAll.extN s b)
  | _, _, .dct a b => .dct (s _ _ a (by intro p e; cases e)) (DrAll.extN s b)
theorem DrAll.extN {K : PySem.W.Frag} {H H' : Hp} (s : ExtN H H') : ∀ {v : List V} {d : List PyData}, DrAll K H v d → DrAll K H' v d
  | _, _, .nil => .nil
  | _, _, .cons a b => .cons (Dr.extN s a) (DrAll.extN s b)
end
/-- data whose text is short -/
def SmD (K : PySem.W.Frag) (H : Hp) (v : V) (d : PyData) : Prop := Dr K H v d ∧ d.showable = true ∧ d.depth ≤ 3 ∧ d.shown.length ≤ 100000 ∧ ∀ i, d = .int i → i.natAbs.log2 < 1920
theorem SmD.ext {K : PySem.W.Frag} {H H' : Hp} {v : V} {d : PyData} (s : ExtN H H') (h : SmD K H v d) : SmD K H' v d := ⟨h.1.extN s, h.2⟩
theorem SmD.same {K : PySem.W.Frag} {H H' : Hp} {v : V} {d : PyData} (s : Same H H') (h : SmD K H v d) : SmD K H' v d := h.ext (ExtN.of s)
/-- what repr asks of it -/
theorem SmD.ask {K : PySem.W.Frag} {H : Hp} {v : V} {d : PyData} {Q : VK} (h : SmD K H v d) (q : Q (.str d.shown) H) : rReprD K [v] H Q :=
  ⟨v, d, rfl, h.1, h.2.1, Nat.le_trans h.2.2.1 (by decide), Nat.le_trans h.2.2.2.1 (by decide), h.2.2.2.2, q⟩
/-- a pair of a short word and such -/
theorem SmD.pair {K : PySem.W.Frag} {H : Hp} {v : V} {d : PyData} {z : Str} {a : Addr} {Q : VK} (h : SmD K H v d) (hz : z.length ≤ 100) (hc : z.cps.toList.all (fun c => decide (c < 1114112)) = true) (ha : H a = some (.tup [.str z, v])) (q : Q (.str (PyData.tuple [.str z, d]).shown) H) : rReprD K [.ref a] H Q := by
  obtain ⟨h1, h2, h3, h4, _⟩ := h
  have hr : (reprText z).length ≤ 10 * z.length + 2 := StrLaws.reprText_len z (by rw [List.all_eq_true] at hc; exact fun i hi => Nat.lt_trans (of_decide_eq_true (hc i hi)) (by decide))
  refine ⟨_, _, rfl, .tup (SqT.of ha) (.cons (.str z) (.cons h1 .nil)), ?_, ?_, ?_, (fun i e => by cases e), q⟩
  · have e : (PyData.tuple [.str z, d]).showable = ((PyData.str z).showable && (d.showable && true)) := rfl
    rw [e, h2]
    rfl
  · have e : (PyData.tuple [.str z, d]).depth = max 0 (max d.depth 0) + 1 := rfl
    rw [e]
    omega
  · show (Str.ofString "(" ++ (reprText z ++ Str.ofString ", " ++ d.shown) ++ Str.ofString ")").length ≤ sizeLine
    repeat rw [Str.length_append]
    have a : (Str.ofString "(").length = 1 := by decide +kernel
    have b : (Str.ofString ", ").length = 2 := by decide +kernel
    have c : (Str.ofString ")").length = 1 := by decide +kernel
    exact Nat.le_trans (by omega : _ ≤ 300000) (by decide)
end NX

set_option Elab.async false
set_option linter.all false
set_option maxRecDepth 100000
set_option maxHeartbeats 4000000
/-! How long the texts of lists and tuples are. -/
namespace NX
open PySem PySem.Spec PyProof.Rows L2
theorem joinS_le (p : Str) : ∀ ts : List Str, (Str.join p ts).length ≤ (ts.map (·.length)).sum + ts.length * p.length
  | [] => by
    show (Str.empty : Str).length ≤ _
    have e0 : (Str.empty : Str).length = 0 := by decide +kernel
    omega
  | [x] => by
    show x.length ≤ _
    simp only [List.map_cons, List.map_nil, List.sum_cons, List.sum_nil, List.length_cons, List.length_nil]
    omega
  | x :: y :: r => by
    have h := joinS_le p (y :: r)
    show (x ++ p ++ Str.join p (y :: r)).length ≤ _
    rw [Str.length_append, Str.length_append]
    simp only [List.map_cons, List.sum_cons, List.length_cons] at h ⊢
    have e : (r.length + 1 + 1) * p.length = (r.length + 1) * p.length + p.length := Nat.succ_mul _ _
    omega
theorem tupleText_le (ts : List Str) : (tupleText ts).length ≤ (ts.map (·.length)).sum + 2 * ts.length + 3 := by
  have h := joinS_le (Str.ofString ", ") ts
  have e2 : (Str.ofString ", ").length = 2 := by decide +kernel
  have e1 : (Str.ofString "(").length = 1 := by decide +kernel
  have e3 : (Str.ofString ",)").length = 2 := by decide +kernel
  have e4 : (Str.ofString ")").length = 1 := by decide +kernel
  rw [e2] at h
  show (Str.ofString "(" ++ Str.join (Str.ofString ", ") ts ++ Str.ofString (if ts.length == 1 then ",)" else ")")).length ≤ _
  rw [Str.length_append, Str.length_append]
  split <;> omega
end NX

set_option Elab.async false
set_option linter.all false
set_option maxRecDepth 100000
set_option maxHeartbeats 4000000
/-! Ascending texts, each once: what they are is told by which they are. -/
namespace NX
open PySem PySem.Spec PyProof.Rows
def leS (a b : Str) : Prop := a.cps.toList ≤ b.cps.toList
theorem leS_trans {a b c : Str} (h1 : leS a b) (h2 : leS b c) : leS a c := List.le_trans h1 h2
theorem leS_anti {a b : Str} (h1 : leS a b) (h2 : leS b a) : a = b := by
  have e := List.le_antisymm h1 h2
  obtain ⟨⟨x⟩⟩ := a
  obtain ⟨⟨y⟩⟩ := b
  have e : x = y := e
  rw [e]
theorem rising_pw : ∀ (p : Str) (l : List Str), risingS p l = true → (p :: l).Pairwise leS
  | p, [], _ => by simp
  | p, x :: r, h => by
    have h' : (!ltCps x.cps.toList p.cps.toList && risingS x r) = true := h
    rw [Bool.and_eq_true, Bool.not_eq_true', ltCps_eq, decide_eq_false_iff_not] at h'
    have ih := rising_pw x r h'.2
    have hpx : leS p x := List.not_lt.mp h'.1
    refine List.pairwise_cons.mpr ⟨fun z hz => ?_, ih⟩
    rcases List.mem_cons.mp hz with e | e
    · rw [e]; exact hpx
    · exact leS_trans hpx ((List.pairwise_cons.mp ih).1 z e)
theorem sorted_pw {l : List Str} (h : sortedS l = true) : l.Pairwise leS := by
  cases l with
  | nil => simp
  | cons x r => exact rising_pw x r h
theorem sorted_uniq : ∀ {a b : List Str}, a.Pairwise leS → b.Pairwise leS → a.Nodup → b.Nodup → (∀ y, y ∈ a ↔ y ∈ b) → a = b
  | [], [], _, _, _, _, _ => rfl
  | [], y :: b, _, _, _, _, h => by simpa using (h y).mpr
  | x :: a, [], _, _, _, _, h => by simpa using (h x).mp
  | x :: a, y :: b, ha, hb, na, nb, h => by
    obtain ⟨a1, a2⟩ := List.pairwise_cons.mp ha
    obtain ⟨b1, b2⟩ := List.pairwise_cons.mp hb
    obtain ⟨n1, n2⟩ := List.nodup_cons.mp na
    obtain ⟨m1, m2⟩ := List.nodup_cons.mp nb
    have exy : x = y := by
      have hx := (h x).mp List.mem_cons_self
      have hy := (h y).mpr List.mem_cons_self
      rcases List.mem_cons.mp hx with e | hx
      · exact e
      · rcases List.mem_cons.mp hy with e | hy
        · exact e.symm
        · exact leS_anti (a1 y hy) (b1 x hx)
    subst exy
    congr 1
    refine sorted_uniq a2 b2 n2 m2 fun z => ?_
    have hz := h z
    by_cases e : z = x
    · subst e
      exact ⟨fun q => absurd q n1, fun q => absurd q m1⟩
    · simpa [e] using hz
end NX

set_option Elab.async false
set_option linter.all false
set_option maxRecDepth 100000
set_option maxHeartbeats 4000000
/-! == of programs of the same parts. -/
namespace K06
open PySem L2 NX NU
open PyProof.Rows (sortedS)
abbrev sPEq : Stmt := inClass (top 65) 22
theorem scPEq : FnScope ["self", "other"] ["self", "other"] (defScope sPEq) := ⟨rfl, rfl, rfl, by decide +kernel, rfl, by decide +kernel, by decide +kernel⟩
theorem weak {CX : CXT} {P : Program} {w : World} {K : PySem.W.Frag} {mg : Str → Option Value} {base : Heap} {k : Nat} {f : Addr} {fd : FuncData} {ps : List Str} {sp sp' : Sp} (F : FnOk P w K mg base CX k f fd ps sp) (i : ∀ vs H Q E, sp' vs H Q E → sp vs H Q E) : FnOk P w K mg base CX k f fd ps sp' :=
  ⟨fun vs H Q E h => F.len vs H Q E (i _ _ _ _ h), fun A outer s H args us vs Q E hr e0 hb r h => F.run A outer s H args us vs Q E hr e0 hb r (i _ _ _ _ h)⟩
/-- deeds of the same words -/
def Rd2 (d : D3) (a b : Addr) (H : Hp) : Prop := ∃ mk us ys ys', IsD d H a mk us ys ∧ IsD d H b mk us ys'
def DAct (d : D3) : Eqv := fun x y H => ∃ a b, x = .ref a ∧ y = .ref b ∧ Rd2 d a b H
theorem Rd2.kd {d : D3} {a b : Addr} {H H' : Hp} (s : NZ.KDn H H') (h : Rd2 d a b H) : Rd2 d a b H' := by
  obtain ⟨mk, us, ys, ys', h1, h2⟩ := h
  exact ⟨mk, us, ys, ys', h1.kd s, h2.kd s⟩
theorem monK_act (d : D3) : NZ.MonK (DAct d) := fun x y H H' s h => by
  obtain ⟨a, b, e1, e2, r⟩ := h
  exact ⟨a, b, e1, e2, r.kd s⟩
/-- what a part is compared by -/
def DPart (K : PySem.W.Frag) (d : D3) : Eqv := fun x y H => DTup K (DAct d) x y H ∨ DFlat x y H
theorem monK_tup {K : PySem.W.Frag} {D : Eqv} (h : NZ.MonK D) : NZ.MonK (DTup K D) := fun x y H H' s e => by
  obtain ⟨a, b, xs, ys, e1, e2, h1, h2, p⟩ := e
  exact ⟨a, b, xs, ys, e1, e2, sqT_kd s h1, sqT_kd s h2, p.1, fun i u v g1 g2 => h _ _ _ _ s (p.2 i u v g1 g2)⟩
theorem monK_part (K : PySem.W.Frag) (d : D3) : NZ.MonK (DPart K d) := fun x y H H' s e => e.imp (fun e => monK_tup (monK_act d) _ _ _ _ s e) id
theorem act_prs {d : D3} {H : Hp} {xs ys : List Addr} {as : List Act} (h : AllAt d H xs as) (k : AllAt d H ys as) : Prs (DAct d) (xs.map V.ref) (ys.map V.ref) H := by
  refine ⟨by rw [List.length_map, List.length_map, h.1, k.1], fun i x y e1 e2 => ?_⟩
  rw [List.getElem?_map] at e1 e2
  obtain ⟨a, g1, rfl⟩ := Option.map_eq_some_iff.mp e1
  obtain ⟨b, g2, rfl⟩ := Option.map_eq_some_iff.mp e2
  have lt : i < as.length := by rw [← h.1]; exact (List.getElem?_eq_some_iff.mp g1).1
  obtain ⟨ys1, i1⟩ := h.2 i a as[i] g1 (List.getElem?_eq_getElem lt)
  obtain ⟨ys2, i2⟩ := k.2 i b as[i] g2 (List.getElem?_eq_getElem lt)
  exact ⟨a, b, rfl, rfl, _, _, _, _, i1, i2⟩
theorem part_eq {K : PySem.W.Frag} {d : D3} {H : Hp} {v u : V} {o : Option (List Act)} (h : PartA K d H v o) (k : PartA K d H u o) : DPart K d v u H := by
  cases o with
  | none =>
    obtain rfl : v = .non := h
    obtain rfl : u = .non := k
    exact .inr ⟨rfl, rfl, rfl⟩
  | some as =>
    obtain ⟨p, rfl, xs, e, a⟩ := h
    obtain ⟨q, rfl, ys, f, b⟩ := k
    exact .inl ⟨p, q, _, _, rfl, rfl, e, f, act_prs a b⟩
theorem parts_eq {K : PySem.W.Frag} {d : D3} {H : Hp} {p q : Addr} {g : Prg} (h : PartsD K d H p g) (k : PartsD K d H q g) : NZ.DDict (DPart K d) (.ref p) (.ref q) H := by
  obtain ⟨v0, v1, v2, v3, v4, e, a0, a1, a2, a3, a4⟩ := h
  obtain ⟨u0, u1, u2, u3, u4, f, b0, b1, b2, b3, b4⟩ := k
  refine ⟨p, q, _, _, rfl, rfl, e, f, rfl, fun i kk u hu => ?_⟩
  match i, hu with
  | 0, hu => cases hu; exact ⟨u0, rfl, part_eq a0 b0⟩
  | 1, hu => cases hu; exact ⟨u1, rfl, part_eq a1 b1⟩
  | 2, hu => cases hu; exact ⟨u2, rfl, part_eq a2 b2⟩
  | 3, hu => cases hu; exact ⟨u3, rfl, part_eq a3 b3⟩
  | 4, hu => cases hu; exact ⟨u4, rfl, part_eq a4 b4⟩
  | n + 5, hu => cases hu
section
variable {X : Cx} {d : D3} {CD f : Addr} {fd : FuncData}
theorem eqG_act (F : FnOk X.prog X.w X.K X.mg X.base CX0 1 f fd ["self", "other"] (spDEq X.K d CD)) (hu : NX.EqC X.K d.u f) (hm : NX.EqC X.K d.m f) (hd : NX.EqC X.K d.d f) (hb : Binds X.K fd ["self", "other"] []) : EqG X 1 (DAct d) := by
  have F2 : FnOk X.prog X.w X.K X.mg X.base CX0 1 f fd ["self", "other"] (spEq (Rd2 d)) := weak F fun vs H Q E h => by
    obtain ⟨a, b, rfl, ⟨mk, us, ys, ys', h1, h2⟩, q⟩ := h
    refine ⟨a, mk, us, ys, .ref b, rfl, h1, .inl ⟨b, mk, us, ys', rfl, h2, ?_⟩⟩
    rw [decide_eq_true rfl, decide_eq_true rfl]
    exact q H Ext.rfl'
  have one : ∀ {C : Addr}, NX.EqC X.K C f → EqG X 1 (DIns C (Rd2 d)) := fun {C} e => eqG_ins (E := C8.E0) F2 e.eq e.fn hb pass0
  refine (((one hu).or (one hm)).or (one hd)).imp fun x y H h => ?_
  obtain ⟨a, b, rfl, rfl, r⟩ := h
  obtain ⟨mk, us, ys, ys', h1, h2⟩ := id r
  obtain ⟨dx, p, q, a1, _⟩ := h1.dd
  obtain ⟨dy, p', q', b1, _⟩ := h2.dd
  match mk, us, a1, b1 with
  | none, _, a1, b1 => exact .inl (.inl ⟨a, b, dx, dy, _, _, rfl, rfl, a1, b1, r⟩)
  | some _, [], a1, b1 => exact .inl (.inr ⟨a, b, dx, dy, _, _, rfl, rfl, a1, b1, r⟩)
  | some _, _ :: _, a1, b1 => exact .inr ⟨a, b, dx, dy, _, _, rfl, rfl, a1, b1, r⟩
theorem eqG_tupA (h : EqG X 1 (DAct d)) : EqG X 2 (DTup X.K (DAct d)) := eqG_tup (monK_act d).mon h
theorem eqG_part (h : EqG X 1 (DAct d)) : EqG X 2 (DPart X.K d) := (eqG_tupA h).or (eqG_flat.mono (Nat.zero_le _))
end
/-- programs of the same parts, names and prices -/
structure Like (t t' : Tol) : Prop where
  g : t.g = t'.g
  ag : t.ag = t'.ag
  us : ∀ z, z ∈ t.us ↔ z ∈ t'.us
  rs : ∀ z, z ∈ t.rs ↔ z ∈ t'.rs
/-- names, all of them names -/
structure Tol.Nm (t : Tol) : Prop where
  us : ∀ z ∈ t.us, nm z = true
  rs : ∀ z ∈ t.rs, nm z = true
  nd : (t.ag.map (·.1)).Nodup
theorem Tol.Ok.nms {t : Tol} (h : t.Ok) : t.Nm := ⟨h.us.nm_, h.rs.nm_, h.ag.nd⟩
theorem asc_same {a b us vs : List Str} (h : Asc a us) (k : Asc b vs) (e : ∀ z, z ∈ us ↔ z ∈ vs) : a = b := sorted_uniq (sorted_pw h.1) (sorted_pw k.1) h.2.1 k.2.1 fun y => (h.2.2 y).trans ((e y).trans (k.2.2 y).symm)
/-- what is asked to know that an object is a program -/
structure PTy (K : PySem.W.Frag) (C : Addr) : Prop where
  sp : PySem.W.specialIn K (.builtin "object.__class__") "__get__" = some (some (.builtin "getset_descriptor.__get__"))
  tk : PySem.W.takesIn K (.builtin "object.__class__") = some true
  c1 : PySem.W.findIn K (.ref C) "__class__" = some (some (.builtin "object.__class__"))
  c2 : PySem.W.mroIn K C (.type "object") = some true
  k : PySem.W.kitOne K (.ref C) (.ref C) = some true
theorem PTy.ty {K : PySem.W.Frag} {C : Addr} (p : PTy K C) (pc : PCls K C) {d : D3} {H : Hp} {x : Addr} {t : Tol} (ip : IsP K d H x C t) : TyX K H (.ref x) (.ref C) := by
  obtain ⟨dx, fs, ix⟩ := ip.inst
  exact .base (.ins ix pc.cl p.c1 p.sp p.tk p.c2)
def spPEq (K : PySem.W.Frag) (d : D3) (C : Addr) : Sp := fun vs H Q _ => ∃ (x y : Addr) (t t' : Tol), vs = [.ref x, .ref y] ∧ IsP K d H x C t ∧ IsP K d H y C t' ∧ Like t t' ∧ t.Nm ∧ ∀ H', Same H H' → Q (.bl true) H'
theorem val_ag {l : List (Str × Int)} (nd : (l.map (·.1)).Nodup) : ∀ p ∈ agK l, valV (agK l) p.1 = some p.2 ∧ flatB p.2 = true := fun p hp => by
  have n2 : ((agK l).map (·.1)).Nodup := by
    rw [agKeys]
    exact nd.map _ fun a b h => fun e => h (by injection e)
  refine ⟨val_nodup n2 p hp, ?_⟩
  unfold agK at hp
  obtain ⟨q, _, rfl⟩ := List.mem_map.mp hp
  rfl
section
variable {P : Program} {w : World} {K : PySem.W.Frag} {mg : Str → Option Value} {base : Heap}
theorem ok_peq {d : D3} {C CD fD : Addr} {f : Addr} {fd fdD : FuncData} (F : Fun K "__eq__" "Program.__eq__" sPEq f fd) (T : TxtB mg) (pc : PCls K C) (gP : mg "Program" = some (.ref C)) (pt : PTy K C) (FD : FnOk P w K mg base CX0 1 fD fdD ["self", "other"] (spDEq K d CD)) (hu : NX.EqC K d.u fD) (hm : NX.EqC K d.m fD) (hd : NX.EqC K d.d fD) (hb : Binds K fdD ["self", "other"] []) :
    FnOk P w K mg base CX0 5 f fd ["self", "other"] (spPEq K d C) := by
  refine F.ok scPEq (fun vs H Q E h => ?_) (fun cdv A outer s H vs Q E hr h => ?_)
  · obtain ⟨x, y, t, t', rfl, _⟩ := h
    rfl
  · obtain ⟨x, y, t, t', rfl, ix, iy, lk, nms, q⟩ := h
    refine ⟨_, (pss_one (ps_ret (pe_and (pe_callB call_isi (by rfl) T.bisinstance (by decide +kernel) (pa_cons (pv 1) (pa_cons (C8.pe_gc (v := .ref C) rfl ⟨_, gP, rfl⟩) pa_nil)))
      (pe_and (pe_cmpR (op_eqG (NZ.rcG_dict (monK_part K d) (eqG_part (eqG_act FD hu hm hd hb))) (hr.mono (by decide))) (pe_fld (pv 0) rfl) (pe_fld (pv 1) rfl) (nomark _))
      (pe_and (pe_cmpR (op_eqD hr.units) (pe_fld (pv 0) rfl) (pe_fld (pv 1) rfl) (nomark _))
      (pe_and (pe_cmpR (op_eq_dictA hr.units0) (pe_fld (pv 0) rfl) (pe_fld (pv 1) rfl) (nomark _))
      (pe_one (pe_cmpR (op_eqD hr.units) (pe_fld (pv 0) rfl) (pe_fld (pv 1) rfl) (nomark _))))))))), ?_⟩
    have ty := pt.ty pc iy
    obtain ⟨dx, nt, Pd, gt, ag, rt, ns, gs, rs, a, b, c, e, f, g, h1, h2, h3⟩ := ix.ex
    obtain ⟨dy, nt', Pd', gt', ag', rt', ns', gs', rs', a', b', c', e', f', g', h1', h2', h3'⟩ := iy.ex
    have eg : gs = gs' := asc_same h2 h2' lk.us
    have er : rs = rs' := asc_same h3 h3' lk.rs
    subst eg er
    rw [← lk.g] at c'
    rw [← lk.ag] at f'
    refine ⟨_, rfl, _, _, _, _, true, rfl, .own C, ty, pt.k, true, rfl, iteT ?_⟩
    refine ⟨_, rfl, x, C, dx, _, _, rfl, a, pc.cl, pc.n2, rfl, _, rfl, y, C, dy, _, _, rfl, a', pc.cl, pc.n2, rfl, parts_eq c c', fun H1 s1 => ?_⟩
    have s1 : Same H H1 := s1
    refine ⟨true, rfl, iteT ?_⟩
    have a := s1 _ _ a
    have a' := s1 _ _ a'
    refine ⟨_, rfl, x, C, dx, _, _, rfl, a, pc.cl, pc.n3, rfl, _, rfl, y, C, dy, _, _, rfl, a', pc.cl, pc.n3, rfl, _, _, .tup (SqT.of (s1 _ _ e)) (dpTup gs), .tup (SqT.of (s1 _ _ e')) (dpTup gs), shapedTup (fun z hz => nms.us z ((h2.2.2 z).mp hz)), shapedTup (fun z hz => nms.us z ((h2.2.2 z).mp hz)), ?_⟩
    rw [eqvTup, decide_eq_true rfl]
    refine ⟨true, rfl, iteT ?_⟩
    refine ⟨_, rfl, x, C, dx, _, _, rfl, a, pc.cl, pc.n4, rfl, _, rfl, y, C, dy, _, _, rfl, a', pc.cl, pc.n4, rfl, ag, ag', _, _, rfl, rfl, s1 _ _ f, s1 _ _ f', rfl, val_ag nms.nd, ?_⟩
    refine ⟨true, rfl, iteT ?_⟩
    refine ⟨_, rfl, x, C, dx, _, _, rfl, a, pc.cl, pc.n5, rfl, _, rfl, y, C, dy, _, _, rfl, a', pc.cl, pc.n5, rfl, _, _, .tup (SqT.of (s1 _ _ g)) (dpTup rs), .tup (SqT.of (s1 _ _ g')) (dpTup rs), shapedTup (fun z hz => nms.rs z ((h3.2.2 z).mp hz)), shapedTup (fun z hz => nms.rs z ((h3.2.2 z).mp hz)), ?_⟩
    rw [eqvTup, decide_eq_true rfl]
    exact q H1 s1
end
end K06

set_option Elab.async false
set_option linter.all false
set_option maxRecDepth 100000
set_option maxHeartbeats 4000000
/-! A rule of my own: isinstance of a kept error that has no fields. -/
namespace NZ
open PySem PySem.Spec PyProof.Rows L2 NX
def rBare (K : PySem.W.Frag) : List V → Hp → VK → Prop := fun xs H Q => ∃ (a D : Addr) (c : V) (u : Value) (b : Bool), xs = [.ref a, c] ∧ ClsV c u ∧ H a = some (Kept a (.ref D) none) ∧ ExcC K D ∧ PySem.W.kitOne K (.ref D) u = some b ∧ Q (.bl b) H
section
variable {X : Cx}
theorem call_isBare : CallR X (.builtin "isinstance") (rBare X.K) := by
  intro pins s σ H xs us Q I r h
  obtain ⟨a, D, c, u, b, rfl, hc, ha, E, k, q⟩ := h
  obtain ⟨w1, w2, rfl, r1, r2⟩ := vals2 r
  have same := hc.eq r2
  subst same
  obtain rfl : w1 = Value.ref a := r1
  have x : ObjOk X.prog X.w H s.heap a (.ext fun h => ∃ o vs, h.get? a = some o ∧ o.cls = .ref D ∧ o.dict = none ∧ o.data = .fields vs) := I.hok a _ ha
  obtain ⟨⟨o, vs, e1, e2, e3, e4⟩, _, _⟩ := x
  have J : PySem.W.InstAt s.heap a o D none := ⟨e1, e2, by unfold PySem.W.notCls; rw [e4] <;> rfl, by rw [e3]; exact trivial⟩
  have hcl : (PySem.W.clsIn X.K D).isSome = true := by
    cases z : PySem.W.clsIn X.K D with
    | some cd => rfl
    | none =>
      have y := E.hd
      unfold PySem.W.hasDictIn at y
      rw [z] at y
      cases y
  exact PySem.W.kia_one (PySem.W.kitx_exc hcl E.hg E.hk E.hs E.ha E.hn E.ht E.hm) I.kIn J k (fun z => nomatch z) fun tk => ⟨.bl b, H, I.tok tk, rfl, q⟩
end
end NZ

set_option Elab.async false
set_option linter.all false
set_option maxRecDepth 100000
set_option maxHeartbeats 4000000
/-! xs.count(x) of a list of flat values. -/
namespace NC
open PySem PySem.Spec PyProof.Rows L2
/-- is the value equal to x -/
def like (x : V) (u : Value) : Bool := match absV u with
  | some y => eqV y x
  | none => false
theorem abs_flat {y : V} {u : Value} (r : RelV y u) (f : flatV y = true) : absV u = some y := by
  cases y with
  | non => cases r; rfl
  | bl b => cases r; rfl
  | int i => obtain ⟨t, rfl⟩ := r; rfl
  | str s => obtain ⟨t, rfl⟩ := r; rfl
  | _ => cases f
theorem like_at {x y : V} {u : Value} (r : RelV y u) (f : flatV y = true) : like x u = eqV y x := by
  unfold like
  rw [abs_flat r f]
theorem vals_has : ∀ {ys : List V} {us : List Value}, Vals ys us → ∀ {u : Value}, u ∈ us → ∃ y ∈ ys, RelV y u
  | _, _, .nil, _, h => by cases h
  | _, _, .cons r t, u, h => by
    rcases List.mem_cons.mp h with e | e
    · exact ⟨_, List.mem_cons_self, e ▸ r⟩
    · obtain ⟨y, hy, q⟩ := vals_has t e
      exact ⟨y, List.mem_cons_of_mem _ hy, q⟩
theorem like_count {x : V} : ∀ {ys : List V} {us : List Value}, Vals ys us → ys.all flatV = true → us.countP (like x) = ys.countP fun y => eqV y x
  | _, _, .nil, _ => rfl
  | _, _, .cons r t, f => by
    rw [List.all_cons, Bool.and_eq_true] at f
    rw [List.countP_cons, List.countP_cons, like_count t f.2, like_at r f.1]
def rCnt (K : PySem.W.Frag) : V → List V → Hp → VK → Prop := fun o xs H Q => ∃ (p : Addr) (ys : List V) (x : V), o = .ref p ∧ xs = [x] ∧ SqL K H p ys ∧ ys.all flatV = true ∧ flatV x = true ∧ Q (.int ((ys.countP fun y => eqV y x : Nat) : Int)) H
section
variable {X : Cx}
theorem mt_cnt : MtR X "list.count" (rCnt X.K) := by
  intro pins s σ H o xs v us Q I ro rxs h
  obtain ⟨p, ys, x, rfl, rfl, at_, fl, fx, q⟩ := h
  cases ro
  obtain ⟨u, rfl, ru⟩ := rxs.one
  obtain ⟨its, rv, ⟨⟨cls, dd, data, sl⟩, n, ho, hc, hdn, hd⟩, low⟩ := I.list at_
  simp only at hc hd
  subst hc hd
  have each : ∀ (A : Around) (t : Shared), ∀ y ∈ its, SeqAt.EqAt A t y u (like x y) := fun A t y hy => by
    obtain ⟨z, hz, rz⟩ := vals_has rv hy
    have fz := List.all_eq_true.mp fl z hz
    rw [like_at rz fz]
    exact eqAt_V rz ru fz fx
  refine call_meets PySem.F.slot_list_count ⟨_, ho, rfl⟩ PySem.F.entry_list_count (PySem.F.args_list_count_2 _ _)
    (SeqAt.list_countAt p its.toArray n dd sl u (like x)) ⟨ho, fun y hy => each _ _ y (by simpa using hy), ?_⟩
  refine ⟨.int ((ys.countP fun y => eqV y x : Nat) : Int), H, I.tok _, ⟨s.toks, ?_⟩, q⟩
  show Value.int ((its.toArray.toList.countP (like x) : Nat) : Int) s.toks = _
  rw [show its.toArray.toList = its from rfl, like_count rv fl]
end
end NC

set_option Elab.async false
set_option linter.all false
set_option maxRecDepth 100000
set_option maxHeartbeats 4000000
/-! _law_heard. -/
namespace K06
open PySem L2 NX NU LamX
open PyProof.Rows (sortedS)
abbrev sHeard : Stmt := top 81
abbrev NHeard : List Str := ["_law_ask", "_law_caught", "error", "_law_kinds"]
theorem scHeard : FnScope NHeard ["_law_ask"] (defScope sHeard) := ⟨rfl, rfl, rfl, by decide +kernel, rfl, by decide +kernel, by decide +kernel⟩
/-- what the written part says of an error class -/
structure KErr6 (K : PySem.W.Frag) (c : C6) (CS C : Addr) (b0 b1 b2 b3 : Bool) : Prop where
  e : PySem.W.exmOne K (.ref C) (.ref CS) = some true
  ec : ExcC K C
  k0 : PySem.W.kitOne K (.ref C) (.ref c.b) = some b0
  k1 : PySem.W.kitOne K (.ref C) (.ref c.m) = some b1
  k2 : PySem.W.kitOne K (.ref C) (.ref c.n) = some b2
  k3 : PySem.W.kitOne K (.ref C) (.ref c.t) = some b3
  ve : PySem.W.kitOne K (.ref C) (.type "ValueError") = some true
structure ErrK6 (K : PySem.W.Frag) (mg : Str → Option Value) (c : C6) (CS : Addr) : Prop where
  gS : mg "StowError" = some (.ref CS)
  gB : mg "BadNumber" = some (.ref c.b)
  gM : mg "TooMany" = some (.ref c.m)
  gN : mg "NoLoop" = some (.ref c.n)
  gT : mg "TwoLoops" = some (.ref c.t)
  b : KErr6 K c CS c.b true false false false
  m : KErr6 K c CS c.m false true false false
  n : KErr6 K c CS c.n false false true false
  t : KErr6 K c CS c.t false false false true
  xb : XfC K c.b
  xm : XfC K c.m
  vb : PySem.W.findIn K (.ref c.b) "value" = some none
  vm : PySem.W.findIn K (.ref c.m) "most" = some none
  ve : mg "ValueError" = none
def F6.word : F6 → Str
  | .num _ => "number"
  | .many _ => "many"
  | .none => "none"
  | .two => "two"
def F6.val : F6 → V
  | .num v => v
  | .many m => .int (m : Nat)
  | .none => .non
  | .two => .non
def ErrIs (c : C6) : F6 → Value → Option Addr → Hp → Prop
  | .num v, cls, d, H => cls = .ref c.b ∧ ∃ dd, d = some dd ∧ H dd = some (.xd [("value", v)])
  | .many m, cls, d, H => cls = .ref c.m ∧ ∃ dd, d = some dd ∧ H dd = some (.xd [("most", .int (m : Nat))])
  | .none, cls, d, _ => cls = .ref c.n ∧ d = Option.none
  | .two, cls, d, _ => cls = .ref c.t ∧ d = Option.none
def HErr6 (c : C6) (Q : VK) : XK := fun cls d H' => ∃ f : F6, ErrIs c f cls d H' ∧ ∀ p H'', Same H' H'' → H'' p = some (.tup [.str f.word, f.val]) → Q (.ref p) H''
/-- what _law_heard makes of what it asks -/
def THeard6 (c : C6) : (XK → Hp → VK → Prop) → Hp → VK → Prop := fun tl H Q => ∀ R : VK, (∀ v H1, Q .non H1 → R v H1) → tl (HErr6 c Q) H R
theorem ends_heard {c : C6} {H : Hp} {Q : VK} {ok : Prop} {r : Option F6} (k0 : r = none → ok) (k1 : ∀ f, r = some f → ∀ p H'', Same H H'' → H'' p = some (.tup [.str f.word, f.val]) → Q (.ref p) H'') : Ends6 c H (HErr6 c Q) ok r := by
  cases r with
  | none => exact k0 rfl
  | some f =>
    have k1 := k1 f rfl
    cases f with
    | num v => exact fun d H' t => ⟨.num v, ⟨rfl, d, rfl, t.2.2⟩, fun p H'' s g => k1 p H'' (t.1.trans s) g⟩
    | many m => exact fun d H' t => ⟨.many m, ⟨rfl, d, rfl, t.2.2⟩, fun p H'' s g => k1 p H'' (t.1.trans s) g⟩
    | none => exact fun H' s0 => ⟨.none, ⟨rfl, rfl⟩, fun p H'' s g => k1 p H'' (s0.trans s) g⟩
    | two => exact fun H' s0 => ⟨.two, ⟨rfl, rfl⟩, fun p H'' s g => k1 p H'' (s0.trans s) g⟩
section
variable {X : Cx}
theorem takesLen {X : Cx} {W : WX} (h : Takes X W) : Takes X (fun cls d σ H => σ.length = X.N.length → W cls d σ H) := fun u s' ⟨a, B, sI, pins, σ, H, cls, d, e1, I, e2, e3, e4, e5, e6, e7, w⟩ => h u s' ⟨a, B, sI, pins, σ, H, cls, d, e1, I, e2, e3, e4, e5, e6, e7, w I.len⟩
theorem heard_gives {q : Str} {g CS : Addr} {c : C6} {cdg : Value} (T : TxtB X.mg) (E : ErrK6 X.K X.mg c CS) :
    GivesTo X NHeard "_law_heard" (defScope sHeard) g cdg (defBody sHeard) "_law_ask" q (THeard6 c) := by
  intro f c' s H Q tl act hc h
  refine ⟨_, (pss_cons (ps_set (i := 1) scHeard.nd rfl (Or.inl rfl) pe_non)
      (pss_cons (ps_try_keep (X := (cxOf C8.CX0 X.prog X.w X.K X.mg X.base NHeard "_law_heard" (defScope sHeard) g cdg X.A X.stack s H C8.E0).nox) (c := .ref CS) (i := 2)
      (tb := fun W D σ H => ∃ Ech : XK, (∀ cls d σ' H', Ech cls d H' → σ'.length = 4 → W cls d σ' H') ∧ σ[0]? = some (some (.ref f)) ∧ H c' = some (CodeO c' q) ∧ tl Ech H fun _ H1 => D.nx σ H1)
      rfl rfl scHeard.nd rfl rfl rfl ⟨rfl, by decide, .inl E.gS⟩ L2.takes0 (fun W pn xe tk _ => ?_) (fun a oe cls d pn _ _ => pss_one (ps_set (i := 1) scHeard.nd rfl (Or.inl rfl) (pv 2))))
      (pss_cons (ps_if (pt_cmpR op_isN (pv 1) pe_non (nomark _)) (pss_one (ps_ret pe_non)) pss_nil)
      (pss_cons (ps_set (i := 3) scHeard.nd rfl (Or.inl rfl) (pe_lst (pa_cons (pe_callB (CallR.or call_isKept NZ.call_isBare) (by rfl) T.bisinstance (by decide +kernel) (pa_cons (pv 1) (pa_cons (C8.pe_gc (v := .ref c.b) rfl ⟨_, E.gB, rfl⟩) pa_nil))) (pa_cons (pe_callB (CallR.or call_isKept NZ.call_isBare) (by rfl) T.bisinstance (by decide +kernel) (pa_cons (pv 1) (pa_cons (C8.pe_gc (v := .ref c.m) rfl ⟨_, E.gM, rfl⟩) pa_nil))) (pa_cons (pe_callB (CallR.or call_isKept NZ.call_isBare) (by rfl) T.bisinstance (by decide +kernel) (pa_cons (pv 1) (pa_cons (C8.pe_gc (v := .ref c.n) rfl ⟨_, E.gN, rfl⟩) pa_nil))) pa_nil)))))
      (pss_cons (ps_if (PW.pt (pw_or (pt_cmpR op_ne (pe_op op_add (pe_bm PySem.F.plainAttrs_list PySem.F.slot_list_count PySem.F.type_list_count NC.mt_cnt (pv 3) (pa_cons pe_bl pa_nil)) (pe_callTy call_int1 (by rfl) T.bint (by decide +kernel) (pa_cons (pe_callB (CallR.or call_isKept NZ.call_isBare) (by rfl) T.bisinstance (by decide +kernel) (pa_cons (pv 1) (pa_cons (C8.pe_gc (v := .ref c.t) rfl ⟨_, E.gT, rfl⟩) pa_nil))) pa_nil))) pe_int (nomark _)) (pw_or1 (pt_not (pt_val (pe_callB (CallR.or call_isKept NZ.call_isBare) (by rfl) T.bisinstance (by decide +kernel) (pa_cons (pv 1) (pa_cons (pe_bltn (v := .ty "ValueError") (by rfl) E.ve (by decide +kernel) rfl) pa_nil)))))))) (pss_one (ps_ret (pe_tup (pa_cons pe_str (pa_cons pe_non pa_nil))))) pss_nil)
      (pss_cons (ps_if (pt_val (pe_ix ix_list (pv 3) pe_int (fun _ _ => rfl))) (pss_one (ps_ret (pe_tup (pa_cons pe_str (pa_cons (pe_kept (pv 1)) pa_nil))))) pss_nil)
      (pss_cons (ps_if (pt_val (pe_ix ix_list (pv 3) pe_int (fun _ _ => rfl))) (pss_one (ps_ret (pe_tup (pa_cons pe_str (pa_cons (pe_kept (pv 1)) pa_nil))))) pss_nil)
      (pss_one (ps_ret (pe_ifExp (pt_val (pe_ix ix_list (pv 3) pe_int (fun _ _ => rfl))) (pe_tup (pa_cons pe_str (pa_cons pe_non pa_nil))) (pe_tup (pa_cons pe_str (pa_cons pe_non pa_nil))))))))))))), ?_⟩
  · refine ⟨fun pins s' σ H' D I h' => ?_⟩
    obtain ⟨Ech, hW, h1, h2, h3⟩ := h'
    exact (pss_one (ps_expr (act (fun cls d σ H => σ.length = 4 → W cls d σ H) pn xe Ech _ _ (takesLen tk) hW))).run pins s' σ H' D I ⟨h1, h2, h3⟩
  · refine ⟨HErr6 c Q, fun cls d σ' H' hx hlen => ?_, rfl, hc, ?_⟩
    · obtain ⟨fa, er, k⟩ := hx
      match σ', hlen with
      | [x0, x1, x2, x3], _ =>
      have low : (3 : Nat) ≤ sizeLine := by decide
      cases fa with
      | num u0 =>
        obtain ⟨rfl, dd, rfl, hdd⟩ := er
        refine ⟨true, E.b.e, (fun h => by cases h), fun _ a ha => ?_⟩
        have hd' : upd H' a (Kept a (.ref c.b) (some dd)) dd = some (.xd [("value", u0)]) := (upd_ne (ne_of_none hdd ha)).trans hdd
        have s1 : Same H' (upd H' a (Kept a (.ref c.b) (some dd))) := Same.new ha
        have hk : upd H' a (Kept a (.ref c.b) (some dd)) a = some (Kept a (.ref c.b) (some dd)) := upd_same
        refine ⟨_, rfl, _, rfl, rfl, _, rfl, iteF ?_⟩
        refine ⟨_, rfl, .inl ⟨a, _, dd, _, _, _, true, rfl, .own c.b, hk, hd', E.b.ec, E.b.k0, ?_⟩⟩
        refine ⟨_, rfl, .inl ⟨a, _, dd, _, _, _, false, rfl, .own c.m, hk, hd', E.b.ec, E.b.k1, ?_⟩⟩
        refine ⟨_, rfl, .inl ⟨a, _, dd, _, _, _, false, rfl, .own c.n, hk, hd', E.b.ec, E.b.k2, ?_⟩⟩
        refine ⟨low, fun l hl => ?_⟩
        have hd2 := (upd_ne (o := .lst [.bl true, .bl false, .bl false]) (ne_of_none hd' hl)).trans hd'
        have hk2 := (upd_ne (o := .lst [.bl true, .bl false, .bl false]) (ne_of_none hk hl)).trans hk
        have gl : upd (upd H' a (Kept a (.ref c.b) (some dd))) l (.lst [.bl true, .bl false, .bl false]) l = some (.lst [.bl true, .bl false, .bl false]) := upd_same
        have s2 : Same H' (upd (upd H' a (Kept a (.ref c.b) (some dd))) l (.lst [.bl true, .bl false, .bl false])) := s1.trans (Same.new hl)
        refine ⟨_, rfl, .inl ⟨rfl, _, SqL.of gl⟩, l, _, .bl true, rfl, rfl, SqL.of gl, rfl, rfl, ?_⟩
        refine ⟨_, rfl, .inl ⟨a, _, dd, _, _, _, false, rfl, .own c.t, hk2, hd2, E.b.ec, E.b.k3, ?_⟩⟩
        refine .inr ⟨false, rfl, _, _, rfl, rfl, rfl, false, rfl, iteF ?_⟩
        refine ⟨_, rfl, .inl ⟨a, _, dd, _, _, _, true, rfl, .ty "ValueError", hk2, hd2, E.b.ec, E.b.ve, ?_⟩⟩
        refine ⟨true, rfl, iteF ?_⟩
        exact ⟨_, rfl, l, _, ((0 : Nat) : Int), .bl true, rfl, rfl, SqL.of gl, atI_nat rfl, true, rfl, iteT ⟨_, rfl, a, _, dd, _, _, rfl, hk2, hd2, E.xb, E.vb, rfl, by show 2 ≤ sizeLine; decide, fun p hp => k p _ (s2.trans (Same.new hp)) upd_same⟩⟩
      | many m0 =>
        obtain ⟨rfl, dd, rfl, hdd⟩ := er
        refine ⟨true, E.m.e, (fun h => by cases h), fun _ a ha => ?_⟩
        have hd' : upd H' a (Kept a (.ref c.m) (some dd)) dd = some (.xd [("most", .int (m0 : Nat))]) := (upd_ne (ne_of_none hdd ha)).trans hdd
        have s1 : Same H' (upd H' a (Kept a (.ref c.m) (some dd))) := Same.new ha
        have hk : upd H' a (Kept a (.ref c.m) (some dd)) a = some (Kept a (.ref c.m) (some dd)) := upd_same
        refine ⟨_, rfl, _, rfl, rfl, _, rfl, iteF ?_⟩
        refine ⟨_, rfl, .inl ⟨a, _, dd, _, _, _, false, rfl, .own c.b, hk, hd', E.m.ec, E.m.k0, ?_⟩⟩
        refine ⟨_, rfl, .inl ⟨a, _, dd, _, _, _, true, rfl, .own c.m, hk, hd', E.m.ec, E.m.k1, ?_⟩⟩
        refine ⟨_, rfl, .inl ⟨a, _, dd, _, _, _, false, rfl, .own c.n, hk, hd', E.m.ec, E.m.k2, ?_⟩⟩
        refine ⟨low, fun l hl => ?_⟩
        have hd2 := (upd_ne (o := .lst [.bl false, .bl true, .bl false]) (ne_of_none hd' hl)).trans hd'
        have hk2 := (upd_ne (o := .lst [.bl false, .bl true, .bl false]) (ne_of_none hk hl)).trans hk
        have gl : upd (upd H' a (Kept a (.ref c.m) (some dd))) l (.lst [.bl false, .bl true, .bl false]) l = some (.lst [.bl false, .bl true, .bl false]) := upd_same
        have s2 : Same H' (upd (upd H' a (Kept a (.ref c.m) (some dd))) l (.lst [.bl false, .bl true, .bl false])) := s1.trans (Same.new hl)
        refine ⟨_, rfl, .inl ⟨rfl, _, SqL.of gl⟩, l, _, .bl true, rfl, rfl, SqL.of gl, rfl, rfl, ?_⟩
        refine ⟨_, rfl, .inl ⟨a, _, dd, _, _, _, false, rfl, .own c.t, hk2, hd2, E.m.ec, E.m.k3, ?_⟩⟩
        refine .inr ⟨false, rfl, _, _, rfl, rfl, rfl, false, rfl, iteF ?_⟩
        refine ⟨_, rfl, .inl ⟨a, _, dd, _, _, _, true, rfl, .ty "ValueError", hk2, hd2, E.m.ec, E.m.ve, ?_⟩⟩
        refine ⟨true, rfl, iteF ?_⟩
        exact ⟨_, rfl, l, _, ((0 : Nat) : Int), .bl false, rfl, rfl, SqL.of gl, atI_nat rfl, false, rfl, iteF ⟨_, rfl, l, _, ((1 : Nat) : Int), .bl true, rfl, rfl, SqL.of gl, atI_nat rfl, true, rfl, iteT ⟨_, rfl, a, _, dd, _, _, rfl, hk2, hd2, E.xm, E.vm, rfl, by show 2 ≤ sizeLine; decide, fun p hp => k p _ (s2.trans (Same.new hp)) upd_same⟩⟩⟩
      | none =>
        obtain ⟨rfl, rfl⟩ := er
        refine ⟨true, E.n.e, (fun h => by cases h), fun _ a ha => ?_⟩
        have s1 : Same H' (upd H' a (Kept a (.ref c.n) none)) := Same.new ha
        have hk : upd H' a (Kept a (.ref c.n) none) a = some (Kept a (.ref c.n) none) := upd_same
        refine ⟨_, rfl, _, rfl, rfl, _, rfl, iteF ?_⟩
        refine ⟨_, rfl, .inr ⟨a, _, _, _, false, rfl, .own c.b, hk, E.n.ec, E.n.k0, ?_⟩⟩
        refine ⟨_, rfl, .inr ⟨a, _, _, _, false, rfl, .own c.m, hk, E.n.ec, E.n.k1, ?_⟩⟩
        refine ⟨_, rfl, .inr ⟨a, _, _, _, true, rfl, .own c.n, hk, E.n.ec, E.n.k2, ?_⟩⟩
        refine ⟨low, fun l hl => ?_⟩
        have hk2 := (upd_ne (o := .lst [.bl false, .bl false, .bl true]) (ne_of_none hk hl)).trans hk
        have gl : upd (upd H' a (Kept a (.ref c.n) none)) l (.lst [.bl false, .bl false, .bl true]) l = some (.lst [.bl false, .bl false, .bl true]) := upd_same
        have s2 : Same H' (upd (upd H' a (Kept a (.ref c.n) none)) l (.lst [.bl false, .bl false, .bl true])) := s1.trans (Same.new hl)
        refine ⟨_, rfl, .inl ⟨rfl, _, SqL.of gl⟩, l, _, .bl true, rfl, rfl, SqL.of gl, rfl, rfl, ?_⟩
        refine ⟨_, rfl, .inr ⟨a, _, _, _, false, rfl, .own c.t, hk2, E.n.ec, E.n.k3, ?_⟩⟩
        refine .inr ⟨false, rfl, _, _, rfl, rfl, rfl, false, rfl, iteF ?_⟩
        refine ⟨_, rfl, .inr ⟨a, _, _, _, true, rfl, .ty "ValueError", hk2, E.n.ec, E.n.ve, ?_⟩⟩
        refine ⟨true, rfl, iteF ?_⟩
        exact ⟨_, rfl, l, _, ((0 : Nat) : Int), .bl false, rfl, rfl, SqL.of gl, atI_nat rfl, false, rfl, iteF ⟨_, rfl, l, _, ((1 : Nat) : Int), .bl false, rfl, rfl, SqL.of gl, atI_nat rfl, false, rfl, iteF ⟨_, rfl, l, _, ((2 : Nat) : Int), .bl true, rfl, rfl, SqL.of gl, atI_nat rfl, true, rfl, iteT ⟨by show 2 ≤ sizeLine; decide, fun p hp => k p _ (s2.trans (Same.new hp)) upd_same⟩⟩⟩⟩
      | two =>
        obtain ⟨rfl, rfl⟩ := er
        refine ⟨true, E.t.e, (fun h => by cases h), fun _ a ha => ?_⟩
        have s1 : Same H' (upd H' a (Kept a (.ref c.t) none)) := Same.new ha
        have hk : upd H' a (Kept a (.ref c.t) none) a = some (Kept a (.ref c.t) none) := upd_same
        refine ⟨_, rfl, _, rfl, rfl, _, rfl, iteF ?_⟩
        refine ⟨_, rfl, .inr ⟨a, _, _, _, false, rfl, .own c.b, hk, E.t.ec, E.t.k0, ?_⟩⟩
        refine ⟨_, rfl, .inr ⟨a, _, _, _, false, rfl, .own c.m, hk, E.t.ec, E.t.k1, ?_⟩⟩
        refine ⟨_, rfl, .inr ⟨a, _, _, _, false, rfl, .own c.n, hk, E.t.ec, E.t.k2, ?_⟩⟩
        refine ⟨low, fun l hl => ?_⟩
        have hk2 := (upd_ne (o := .lst [.bl false, .bl false, .bl false]) (ne_of_none hk hl)).trans hk
        have gl : upd (upd H' a (Kept a (.ref c.t) none)) l (.lst [.bl false, .bl false, .bl false]) l = some (.lst [.bl false, .bl false, .bl false]) := upd_same
        have s2 : Same H' (upd (upd H' a (Kept a (.ref c.t) none)) l (.lst [.bl false, .bl false, .bl false])) := s1.trans (Same.new hl)
        refine ⟨_, rfl, .inl ⟨rfl, _, SqL.of gl⟩, l, _, .bl true, rfl, rfl, SqL.of gl, rfl, rfl, ?_⟩
        refine ⟨_, rfl, .inr ⟨a, _, _, _, true, rfl, .own c.t, hk2, E.t.ec, E.t.k3, ?_⟩⟩
        refine .inr ⟨true, rfl, _, _, rfl, rfl, rfl, false, rfl, iteF ?_⟩
        refine ⟨_, rfl, .inr ⟨a, _, _, _, true, rfl, .ty "ValueError", hk2, E.t.ec, E.t.ve, ?_⟩⟩
        refine ⟨true, rfl, iteF ?_⟩
        exact ⟨_, rfl, l, _, ((0 : Nat) : Int), .bl false, rfl, rfl, SqL.of gl, atI_nat rfl, false, rfl, iteF ⟨_, rfl, l, _, ((1 : Nat) : Int), .bl false, rfl, rfl, SqL.of gl, atI_nat rfl, false, rfl, iteF ⟨_, rfl, l, _, ((2 : Nat) : Int), .bl false, rfl, rfl, SqL.of gl, atI_nat rfl, false, rfl, iteF ⟨by show 2 ≤ sizeLine; decide, fun p hp => k p _ (s2.trans (Same.new hp)) upd_same⟩⟩⟩⟩
    · exact h _ fun v H1 k => ⟨_, rfl, rfl, _, rfl, iteT k⟩
end
end K06

set_option Elab.async false
set_option linter.all false
set_option maxRecDepth 100000
set_option maxHeartbeats 4000000
/-! What the law says is due. -/
namespace K06
open PySem L2 NX NU LamX
open PyProof.Rows (sortedS)
abbrev sMn : Stmt := top 82
abbrev sWr : Stmt := top 83
abbrev sPd : Stmt := top 84
abbrev sUd : Stmt := top 85
abbrev sTd : Stmt := top 86
theorem scMn : FnScope ["_law_site_here", "_law_part"] ["_law_site_here", "_law_part"] (defScope sMn) := ⟨rfl, rfl, rfl, by decide +kernel, rfl, by decide +kernel, by decide +kernel⟩
theorem scWr : FnScope ["_law_site_here", "_law_value", "_law_least", "_law_most", "_law_is_whole"] ["_law_site_here", "_law_value", "_law_least", "_law_most"] (defScope sWr) := ⟨rfl, rfl, rfl, by decide +kernel, rfl, by decide +kernel, by decide +kernel⟩
theorem scPd : FnScope ["_law_site_here", "_law_at", "_law_wrong_here"] ["_law_site_here", "_law_at"] (defScope sPd) := ⟨rfl, rfl, rfl, by decide +kernel, rfl, by decide +kernel, by decide +kernel⟩
theorem scUd : FnScope ["_law_site_here", "_law_at", "_law_wrong_here", "_law_many_here"] ["_law_site_here", "_law_at"] (defScope sUd) := ⟨rfl, rfl, rfl, by decide +kernel, rfl, by decide +kernel, by decide +kernel⟩
theorem scTd : FnScope ["_law_site_here", "_law_at", "_law_wrong_here", "_law_last"] ["_law_site_here", "_law_at"] (defScope sTd) := ⟨rfl, rfl, rfl, by decide +kernel, rfl, by decide +kernel, by decide +kernel⟩
theorem PtI.or {K : PySem.W.Frag} {H : Hp} {v : V} {σ : L2.St} {Q : VK} {o : Option (List Act)} (h : PtI H v o) (q : ∀ L H', Same H H' → LotsAt H' L (o.getD []) → Q (.ref L) H') : ∃ k, TruV K v H k ∧ if k = true then Q v H else tLst tNil σ H Q := by
  have emp : tLst tNil σ H fun x H' => (o.getD [] = [] → Q x H') := ⟨by show 0 ≤ sizeLine; decide, fun t ht e => by
    refine q t _ (Same.new ht) ?_
    rw [e]
    exact lots0 upd_same⟩
  cases o with
  | none =>
    obtain rfl : v = .non := h
    exact ⟨false, rfl, iteF ⟨emp.1, fun t ht => emp.2 t ht rfl⟩⟩
  | some as =>
    obtain ⟨L, rfl, ⟨ts, g, lt⟩, _⟩ := h
    refine ⟨!(ts.map V.ref).isEmpty, .inl ⟨_, SqL.of g, rfl⟩, ?_⟩
    cases ts with
    | nil =>
      have ea : as = [] := List.length_eq_zero_iff.mp lt.1.symm
      exact iteF ⟨emp.1, fun t ht => emp.2 t ht ea⟩
    | cons x r => exact iteT (q L H (Same.refl H) ⟨_, g, lt⟩)
theorem ptIsNon {H : Hp} {v : V} {o : Option (List Act)} (h : PtI H v o) : decide (v = V.non) = o.isNone := by
  cases o with
  | none => rw [show v = .non from h]; rfl
  | some as =>
    obtain ⟨L, rfl, _⟩ := h
    exact decide_eq_false (fun e => nomatch e)
/-- which whole number a value is, if any -/
def Wv (K : PySem.W.Frag) (H : Hp) (v : V) : Option Int → Prop
  | some k => v = .int k
  | none => (∃ b, v = .bl b) ∨ NoInt K H v
def DueV (H : Hp) (u : V) : Option F6 → Prop
  | none => u = .non
  | some f => ∃ p, u = .ref p ∧ H p = some (.tup [.str f.word, f.val])
theorem DueV.same {H H' : Hp} {u : V} (s : Same H H') : ∀ {r : Option F6}, DueV H u r → DueV H' u r
  | none, h => h
  | some _, ⟨p, e, g⟩ => ⟨p, e, s _ _ g⟩
theorem DueV.isNon {H : Hp} {u : V} {r : Option F6} (h : DueV H u r) : decide (u = V.non) = r.isNone := by
  cases r with
  | none => rw [show u = .non from h]; rfl
  | some f =>
    obtain ⟨p, rfl, _⟩ := h
    exact decide_eq_false (fun e => nomatch e)
/-- beyond the bounds -/
def off (k least : Int) : Option Int → Bool
  | none => decide (k < least)
  | some m => decide (k < least) || decide (m < k)
def wrF (g : Prg) (v : V) (least : Int) (most : Option Int) : Option Int → Option F6
  | none => some (.num v)
  | some k => if off k least most = true then some (.num v) else oneF g
def MostV (mv : V) : Option Int → Prop
  | none => mv = .non
  | some m => mv = .int m
def spMn : Sp := fun vs H Q _ => ∃ (S : Addr) (t : Tol) (i : Nat) (z : Str), vs = [.ref S, .str z] ∧ SiteG H S t ∧ t.Ok ∧ partN[i]? = some z ∧ ∀ H', Same H H' → Q (.int (((t.g.at i).getD []).length : Nat)) H'
def spWr (K : PySem.W.Frag) : Sp := fun vs H Q _ => ∃ (S : Addr) (t : Tol) (v mv : V) (least : Int) (most n : Option Int), vs = [.ref S, v, .int least, mv] ∧ SiteG H S t ∧ t.Ok ∧ Wv K H v n ∧ MostV mv most ∧ ∀ u H', Same H H' → DueV H' u (wrF t.g v least most n) → Q u H'
section
variable {P : Program} {w : World} {K : PySem.W.Frag} {mg : Str → Option Value} {base : Heap}
theorem ok_mn {f : Addr} {fd : FuncData} (F : Fun K "_law_many" "_law_many" sMn f fd) (T : TxtB mg) : FnOk P w K mg base CX0 1 f fd ["_law_site_here", "_law_part"] spMn := by
  refine F.ok scMn (fun vs H Q E h => ?_) (fun cdv A outer s H vs Q E hr h => ?_)
  · obtain ⟨S, t, i, z, rfl, _⟩ := h
    rfl
  · obtain ⟨S, t, i, z, rfl, hS, ok, hz, k⟩ := h
    have hu := hu_of hr
    refine ⟨_, (pss_one (ps_ret (pe_callB call_len_seq (by rfl) T.blen (by decide +kernel) (pa_cons (pe_orT (pe_dget hu (pv 0) (pv 1) (fun _ _ => rfl)) (pe_one (pe_lst pa_nil))) pa_nil)))), ?_⟩
    obtain ⟨v, dg, pi⟩ := hS.part ok hz
    refine ⟨_, rfl, _, rfl, S, v, rfl, dg, pi.or fun L H1 s1 lots => ?_⟩
    obtain ⟨ts, g, l1, _⟩ := lots
    refine ⟨L, _, rfl, .inl (SqL.of g), ?_⟩
    rw [List.length_map, l1]
    exact k H1 s1
theorem ok_wr {f : Addr} {fd : FuncData} (F : Fun K "_law_wrong" "_law_wrong" sWr f fd) (T : TxtB mg) (N : TxtP mg) : FnOk P w K mg base CX0 1 f fd ["_law_site_here", "_law_value", "_law_least", "_law_most"] (spWr K) := by
  refine F.ok scWr (fun vs H Q E h => ?_) (fun cdv A outer s H vs Q E hr h => ?_)
  · obtain ⟨S, t, v, mv, least, most, n, rfl, _⟩ := h
    rfl
  · obtain ⟨S, t, v, mv, least, most, n, rfl, hS, ok, hw, hm, k⟩ := h
    have hu := hu_of hr
    refine ⟨_, (pss_cons (ps_set (i := 4) scWr.nd rfl (Or.inl rfl) (pe_and (pe_callB call_isi (by rfl) T.bisinstance (by decide +kernel) (pa_cons (pv 1) (pa_cons (pe_bltn (v := .ty "int") (by rfl) T.bint (by decide +kernel) rfl) pa_nil)))
        (pe_one (pe_not (pe_callB call_isi (by rfl) T.bisinstance (by decide +kernel) (pa_cons (pv 1) (pa_cons (pe_bltn (v := .ty "bool") (by rfl) N.bbool (by decide +kernel) rfl) pa_nil)))))))
      (C8.pss_cut (ps_if (PW.pt (pw_or (pt_not (pt_val (pv 4))) (pw_or (pt_cmpR op_lt (pv 1) (pv 2) (nomark _)) (pw_or1 (PW.pt (pw_and (pt_cmpR op_notN (pv 3) pe_non (nomark _)) (pw_and1 (pt_cmpR op_gt (pv 1) (pv 3) (nomark _))))))))) (pss_one (ps_ret (pe_tup (pa_cons pe_str (pa_cons (pv 1) pa_nil))))) pss_nil)
      (pss_cons (ps_if (pt_cmpR op_isN (pe_dget hu (pv 0) pe_str (fun _ _ => rfl)) pe_non (nomark _)) (pss_one (ps_ret (pe_tup (pa_cons pe_str (pa_cons pe_non pa_nil))))) pss_nil)
      (pss_one (ps_ret (pe_ifExp (pt_cmpR op_notN (pe_dget hu (pv 0) pe_str (fun _ _ => rfl)) pe_non (nomark _)) (pe_tup (pa_cons pe_str (pa_cons pe_non pa_nil))) pe_non)))))), ?_⟩
    have two : 2 ≤ sizeLine := by decide
    have after : ∀ b : Bool, b = n.isSome → ∃ R : L2.St → Hp → Prop, True := fun _ _ => ⟨fun _ _ => True, trivial⟩
    clear after
    have num : wrF t.g v least most n = some (.num v) → ∀ p, H p = none → Q (.ref p) (upd H p (.tup [.str (Str.ofString "number"), v])) := fun e p hp => k _ _ (Same.new hp) (by rw [e]; exact ⟨p, rfl, upd_same⟩)
    cases n with
    | none =>
      have num := num rfl
      rcases hw with ⟨b, rfl⟩ | ⟨ty, h1, h2⟩
      · refine ⟨_, rfl, _, _, _, _, true, rfl, .ty "int", .base (.bl _), kit_ty (by decide +kernel), true, rfl, ?_⟩
        refine iteT ⟨_, rfl, _, _, _, _, true, rfl, .ty "bool", .base (.bl _), kit_ty (by decide +kernel), true, rfl, ?_⟩
        refine ⟨fun _ _ => False, ⟨_, rfl, false, rfl, iteT ⟨_, rfl, two, num⟩⟩, fun _ _ f => f.elim⟩
      · refine ⟨_, rfl, _, _, _, _, false, rfl, .ty "int", h1, h2, false, rfl, iteF ?_⟩
        refine ⟨fun _ _ => False, ⟨_, rfl, false, rfl, iteT ⟨_, rfl, two, num⟩⟩, fun _ _ f => f.elim⟩
    | some k0 =>
      obtain rfl : v = .int k0 := hw
      refine ⟨_, rfl, _, _, _, _, true, rfl, .ty "int", .base (.int _), kit_ty (by decide +kernel), true, rfl, ?_⟩
      refine iteT ⟨_, rfl, _, _, _, _, false, rfl, .ty "bool", .base (.int _), kit_ty (by decide +kernel), false, rfl, ?_⟩
      refine ⟨fun σ H' => off k0 least most = false ∧ σ = [some (.ref S), some (.int k0), some (.int least), some mv, some (.bl true)] ∧ H = H', ?_, ?_⟩
      · refine ⟨_, rfl, true, rfl, iteF ?_⟩
        have num : off k0 least most = true → _ := fun e => num (if_pos e)
        refine ⟨_, rfl, _, rfl, _, _, rfl, rfl, _, rfl, ?_⟩
        cases hl : decide (k0 < least) with
        | true => exact iteT ⟨_, rfl, two, num (by unfold off; cases most <;> simp [hl])⟩
        | false =>
          refine iteF ⟨_, rfl, rfl, _, rfl, ?_⟩
          cases most with
          | none =>
            obtain rfl : mv = .non := hm
            exact iteF (iteF ⟨hl, rfl, rfl⟩)
          | some m =>
            obtain rfl : mv = .int m := hm
            refine iteT ⟨_, rfl, _, rfl, _, _, rfl, rfl, _, rfl, ?_⟩
            cases hg : decide (m < k0) with
            | true => exact iteT ⟨_, rfl, two, num (by show (decide (k0 < least) || decide (m < k0)) = true; rw [hl, hg]; rfl)⟩
            | false => exact iteF ⟨by show (decide (k0 < least) || decide (m < k0)) = false; rw [hl, hg]; rfl, rfl, rfl⟩
      · rintro σ H' ⟨ho, rfl, rfl⟩
        have k : ∀ u H', Same H H' → DueV H' u (oneF t.g) → Q u H' := fun u H' s e => k u H' s (by rw [show wrF t.g (.int k0) least most (some k0) = oneF t.g from if_neg (by rw [ho]; exact Bool.false_ne_true)]; exact e)
        obtain ⟨v1, d1, p1⟩ := hS.part ok (j := 1) (z := "loop") rfl
        obtain ⟨v3, d3, p3⟩ := hS.part ok (j := 3) (z := "second") rfl
        have i1 := ptIsNon p1
        have i3 := ptIsNon p3
        have e1 : t.g.at 1 = t.g.l := rfl
        have e3 : t.g.at 3 = t.g.s := rfl
        rw [e1] at i1
        rw [e3] at i3
        refine ⟨_, rfl, S, v1, rfl, d1, rfl, _, rfl, ?_⟩
        rw [i1]
        unfold oneF at k
        cases hl : t.g.l with
        | none =>
          rw [hl] at k
          exact iteT ⟨two, fun p hp => k _ _ (Same.new hp) ⟨p, rfl, upd_same⟩⟩
        | some as =>
          rw [hl] at k
          have iN : (!decide (v3 = V.non)) = t.g.s.isSome := by
            rw [i3]
            cases t.g.s <;> rfl
          refine iteF ⟨_, rfl, S, v3, rfl, d3, rfl, _, rfl, ?_⟩
          rw [iN]
          cases hs : t.g.s with
          | none =>
            rw [hs] at k
            exact iteF (k _ H (Same.refl H) rfl)
          | some bs =>
            rw [hs] at k
            exact iteT ⟨two, fun p hp => k _ _ (Same.new hp) ⟨p, rfl, upd_same⟩⟩
end
end K06

set_option Elab.async false
set_option linter.all false
set_option maxRecDepth 100000
set_option maxHeartbeats 4000000
/-! What is due of powers, unrolled and turned loops. -/
namespace K06
open PySem L2 NX NU LamX
open PyProof.Rows (sortedS)
theorem Cn.wv {K : PySem.W.Frag} {H : Hp} {v : V} {r : Option Nat} (h : Cn K H v r) : ∃ n : Option Int, Wv K H v n ∧ ((∃ j : Nat, r = some j ∧ n = some (j : Int) ∧ v = .int (j : Int)) ∨ (r = none ∧ (n = none ∨ ∃ k : Int, n = some k ∧ k < 0))) := by
  cases h with
  | yes n e => exact ⟨some n, e, .inl ⟨n, rfl, rfl, e⟩⟩
  | neg n e l => exact ⟨some n, e, .inr ⟨rfl, .inr ⟨n, rfl, l⟩⟩⟩
  | bl b e => exact ⟨none, .inl ⟨b, e⟩, .inr ⟨rfl, .inl rfl⟩⟩
  | odd h => exact ⟨none, .inr h, .inr ⟨rfl, .inl rfl⟩⟩
theorem wr_bad {g : Prg} {v : V} {most : Option Int} {n : Option Int} (h : n = none ∨ ∃ k : Int, n = some k ∧ k < 0) : wrF g v 0 most n = some (.num v) := by
  rcases h with rfl | ⟨k, rfl, l⟩
  · rfl
  · exact if_pos (by cases most <;> simp [off, l])
def spPd (K : PySem.W.Frag) : Sp := fun vs H Q _ => ∃ (S : Addr) (t : Tol) (j : Nat), vs = [.ref S, .int (j : Int)] ∧ SiteG H S t ∧ t.Ok ∧ ∀ u H', Same H H' → DueV H' u (powF t.g j) → Q u H'
def spUd (K : PySem.W.Frag) : Sp := fun vs H Q _ => ∃ (S : Addr) (t : Tol) (v : V) (r : Option Nat), vs = [.ref S, v] ∧ SiteG H S t ∧ t.Ok ∧ Cn K H v r ∧ ∀ u H', Same H H' → DueV H' u (unrF t.g v r) → Q u H'
def spTd (K : PySem.W.Frag) : Sp := fun vs H Q _ => ∃ (S : Addr) (t : Tol) (v : V) (r : Option Nat), vs = [.ref S, v] ∧ SiteG H S t ∧ t.Ok ∧ Cn K H v r ∧ ∀ u H', Same H H' → DueV H' u (turF t.g v r) → Q u H'
section
variable {P : Program} {w : World} {K : PySem.W.Frag} {mg : Str → Option Value} {base : Heap}
theorem ok_pd {f : Addr} {fd : FuncData} (F : Fun K "_law_power_due" "_law_power_due" sPd f fd) (cWr : C8.Cal P w K mg base 1 "_law_wrong" (spWr K) []) (cMn : C8.Cal P w K mg base 1 "_law_many" spMn []) : FnOk P w K mg base CX0 2 f fd ["_law_site_here", "_law_at"] (spPd K) := by
  refine F.ok scPd (fun vs H Q E h => ?_) (fun cdv A outer s H vs Q E hr h => ?_)
  · obtain ⟨S, t, j, rfl, _⟩ := h
    rfl
  · obtain ⟨S, t, j, rfl, hS, ok, k⟩ := h
    refine ⟨_, (pss_cons (ps_set (i := 2) scPd.nd rfl (Or.inl rfl) (C8.pe_c cWr hr (by decide) rfl (pa_cons (pv 0) (pa_cons (pv 1) (pa_cons pe_int (pa_cons pe_non pa_nil))))))
      (pss_cons (ps_if (pt_cmpR op_notN (pv 2) pe_non (nomark _)) (pss_one (ps_ret (pv 2))) pss_nil)
      (pss_one (ps_ret (pe_ifExp (pt_cmpR op_gt (pe_op op_mul (pv 1) (C8.pe_c cMn hr (by decide) rfl (pa_cons (pv 0) (pa_cons pe_str pa_nil)))) pe_int (nomark _)) (pe_tup (pa_cons pe_str (pa_cons pe_int pa_nil))) pe_non))))), ?_⟩
    have two : 2 ≤ sizeLine := by decide
    refine ⟨_, rfl, _, rfl, S, t, .int (j : Int), .non, 1, none, some (j : Int), rfl, hS, ok, rfl, rfl, fun u H1 s1 du => ?_⟩
    have hS := hS.same s1
    refine ⟨_, rfl, rfl, _, rfl, ?_⟩
    rw [du.isNon]
    unfold powF at k
    have ew : wrF t.g (.int (j : Int)) 1 none (some (j : Int)) = if j = 0 then some (.num (.int (j : Int))) else oneF t.g := by
      show (if decide ((j : Int) < 1) = true then _ else _) = _
      by_cases j0 : j = 0
      · rw [if_pos (decide_eq_true (by omega)), if_pos j0]
      · rw [if_neg (by rw [decide_eq_false (by omega)]; exact Bool.false_ne_true), if_neg j0]
    rw [ew] at du ⊢
    by_cases j0 : j = 0
    · subst j0
      rw [if_pos rfl] at du k ⊢
      exact iteT ⟨_, rfl, k u H1 s1 du⟩
    · rw [if_neg j0] at du k ⊢
      cases h1 : oneF t.g with
      | some f =>
        rw [h1] at du k
        exact iteT ⟨_, rfl, k u H1 s1 du⟩
      | none =>
        rw [h1] at k
        refine iteF ⟨_, rfl, _, rfl, S, t, 1, _, rfl, hS, ok, rfl, fun H2 s2 => ?_⟩
        have z := ok.sizes.l
        have el : ((t.g.at 1).getD []).length = (t.g.l.getD []).length := rfl
        refine ⟨_, _, rfl, rfl, .inr ⟨by omega, by omega⟩, _, 24, rfl, rfl, _, rfl, ?_⟩
        have e2 : ((j : Int) * (((t.g.at 1).getD []).length : Int)) = ((j * (t.g.l.getD []).length : Nat) : Int) := by rw [el, Int.natCast_mul]
        rw [e2]
        by_cases big : j * (t.g.l.getD []).length ≤ 24
        · rw [if_pos big] at k
          rw [decide_eq_false (by omega)]
          exact iteF (k _ H2 (s1.trans s2) rfl)
        · rw [if_neg big] at k
          rw [decide_eq_true (by omega)]
          exact iteT ⟨two, fun p hp => k _ _ (s1.trans (s2.trans (Same.new hp))) ⟨p, rfl, upd_same⟩⟩
theorem ok_ud {f : Addr} {fd : FuncData} (F : Fun K "_law_unrolled_due" "_law_unrolled_due" sUd f fd) (cWr : C8.Cal P w K mg base 1 "_law_wrong" (spWr K) []) (cMn : C8.Cal P w K mg base 1 "_law_many" spMn []) : FnOk P w K mg base CX0 2 f fd ["_law_site_here", "_law_at"] (spUd K) := by
  refine F.ok scUd (fun vs H Q E h => ?_) (fun cdv A outer s H vs Q E hr h => ?_)
  · obtain ⟨S, t, v, r, rfl, _⟩ := h
    rfl
  · obtain ⟨S, t, v, r, rfl, hS, ok, hc, k⟩ := h
    refine ⟨_, (pss_cons (ps_set (i := 2) scUd.nd rfl (Or.inl rfl) (C8.pe_c cWr hr (by decide) rfl (pa_cons (pv 0) (pa_cons (pv 1) (pa_cons pe_int (pa_cons pe_non pa_nil))))))
      (pss_cons (ps_if (pt_cmpR op_notN (pv 2) pe_non (nomark _)) (pss_one (ps_ret (pv 2))) pss_nil)
      (pss_cons (ps_set (i := 3) scUd.nd rfl (Or.inl rfl) (pe_op op_add (C8.pe_c cMn hr (by decide) rfl (pa_cons (pv 0) (pa_cons pe_str pa_nil))) (C8.pe_c cMn hr (by decide) rfl (pa_cons (pv 0) (pa_cons pe_str pa_nil)))))
      (pss_one (ps_ret (pe_ifExp (pt_cmpR op_gt (pe_op op_add (pv 3) (pe_op op_mul (pv 1) (C8.pe_c cMn hr (by decide) rfl (pa_cons (pv 0) (pa_cons pe_str pa_nil))))) pe_int (nomark _)) (pe_tup (pa_cons pe_str (pa_cons pe_int pa_nil))) pe_non)))))), ?_⟩
    have two : 2 ≤ sizeLine := by decide
    obtain ⟨n, hw, hn⟩ := hc.wv
    refine ⟨_, rfl, _, rfl, S, t, v, .non, 0, none, n, rfl, hS, ok, hw, rfl, fun u H1 s1 du => ?_⟩
    have hS := hS.same s1
    refine ⟨_, rfl, rfl, _, rfl, ?_⟩
    rw [du.isNon]
    rcases hn with ⟨j, rfl, rfl, rfl⟩ | ⟨rfl, bad⟩
    · have ew : wrF t.g (.int (j : Int)) 0 none (some (j : Int)) = oneF t.g := by
        show (if decide ((j : Int) < 0) = true then some (F6.num (.int (j : Int))) else oneF t.g) = oneF t.g
        rw [decide_eq_false (by omega)]
        rfl
      rw [ew] at du ⊢
      have k : ∀ u H', Same H H' → DueV H' u (match oneF t.g with
        | some f => some f
        | none => if t.g.a.length + j * (t.g.l.getD []).length + t.g.h.length ≤ 200 then none else some (.many 200)) → Q u H' := k
      cases h1 : oneF t.g with
      | some f =>
        rw [h1] at du k
        exact iteT ⟨_, rfl, k u H1 s1 du⟩
      | none =>
        rw [h1] at k
        refine iteF ⟨_, rfl, S, t, 0, _, rfl, hS, ok, rfl, fun H2 s2 => ?_⟩
        have hS := hS.same s2
        refine ⟨_, rfl, S, t, 4, _, rfl, hS, ok, rfl, fun H3 s3 => ?_⟩
        have hS := hS.same s3
        refine ⟨_, _, rfl, rfl, ?_⟩
        refine ⟨_, rfl, _, rfl, _, rfl, S, t, 1, _, rfl, hS, ok, rfl, fun H4 s4 => ?_⟩
        have z := ok.sizes
        have la := z.a
        have ll := z.l
        have lh := z.h
        have el : ((t.g.at 1).getD []).length = (t.g.l.getD []).length := rfl
        have ea : ((t.g.at 0).getD []).length = t.g.a.length := rfl
        have eh : ((t.g.at 4).getD []).length = t.g.h.length := rfl
        refine ⟨_, _, rfl, rfl, .inr ⟨by omega, by omega⟩, _, _, rfl, rfl, _, 200, rfl, rfl, _, rfl, ?_⟩
        have e2 : (((t.g.at 0).getD []).length : Int) + (((t.g.at 4).getD []).length : Int) + (j : Int) * (((t.g.at 1).getD []).length : Int) = ((t.g.a.length + j * (t.g.l.getD []).length + t.g.h.length : Nat) : Int) := by
          rw [el, ea, eh]
          have : ((j * (t.g.l.getD []).length : Nat) : Int) = (j : Int) * ((t.g.l.getD []).length : Int) := Int.natCast_mul _ _
          omega
        rw [e2]
        have s14 := s1.trans (s2.trans (s3.trans s4))
        by_cases big : t.g.a.length + j * (t.g.l.getD []).length + t.g.h.length ≤ 200
        · rw [if_pos big] at k
          rw [decide_eq_false (by omega)]
          exact iteF (k _ H4 s14 rfl)
        · rw [if_neg big] at k
          rw [decide_eq_true (by omega)]
          exact iteT ⟨two, fun p hp => k _ _ (s14.trans (Same.new hp)) ⟨p, rfl, upd_same⟩⟩
    · rw [wr_bad bad] at du ⊢
      exact iteT ⟨_, rfl, k u H1 s1 du⟩
theorem tur_many {g : Prg} (z : g.Sizes) {j : Nat} (jl : j ≤ (g.l.getD []).length) : (g.tur j).many = if 200 < g.a.length + j then some 200 else if 24 < (g.l.getD []).length - j + g.h.length then some 24 else if 200 < g.a.length + j + ((g.l.getD []).length - j + g.h.length) then some 200 else none := by
  have la : (g.tur j).a.length = g.a.length + j := by
    show (g.a ++ (g.l.getD []).take j).length = _
    rw [List.length_append, List.length_take]
    omega
  have ll : ((g.tur j).l.getD []).length = (g.l.getD []).length := by
    show ((g.l.getD []).drop j ++ (g.l.getD []).take j).length = _
    rw [List.length_append, List.length_take, List.length_drop]
    omega
  have lh : (g.tur j).h.length = (g.l.getD []).length - j + g.h.length := by
    show ((g.l.getD []).drop j ++ g.h).length = _
    rw [List.length_append, List.length_drop]
  have eb : (g.tur j).b.length = 0 := rfl
  have es : ((g.tur j).s.getD []).length = 0 := rfl
  have zl := z.l
  unfold Prg.many
  rw [la, ll, lh, eb, es, if_pos zl, if_pos (Nat.zero_le _), if_pos (Nat.zero_le _), Nat.add_zero]
  by_cases c1 : 200 < g.a.length + j
  · rw [if_pos c1, if_neg (by omega)]
  · rw [if_neg c1, if_pos (by omega)]
    by_cases c2 : 24 < (g.l.getD []).length - j + g.h.length
    · rw [if_pos c2, if_neg (by omega)]
    · rw [if_neg c2, if_pos (by omega)]
      by_cases c3 : 200 < g.a.length + j + ((g.l.getD []).length - j + g.h.length)
      · rw [if_pos c3, if_neg (by omega)]
      · rw [if_neg c3, if_pos (by omega)]
theorem ok_td {f : Addr} {fd : FuncData} (F : Fun K "_law_turned_due" "_law_turned_due" sTd f fd) (T : TxtB mg) (cWr : C8.Cal P w K mg base 1 "_law_wrong" (spWr K) []) (cMn : C8.Cal P w K mg base 1 "_law_many" spMn []) : FnOk P w K mg base CX0 2 f fd ["_law_site_here", "_law_at"] (spTd K) := by
  refine F.ok scTd (fun vs H Q E h => ?_) (fun cdv A outer s H vs Q E hr h => ?_)
  · obtain ⟨S, t, v, r, rfl, _⟩ := h
    rfl
  · obtain ⟨S, t, v, r, rfl, hS, ok, hc, k⟩ := h
    have hu := hu_of hr
    refine ⟨_, (C8.pss_cut (ps_set (i := 2) scTd.nd rfl (Or.inl rfl) (C8.pe_c cWr hr (by decide) rfl (pa_cons (pv 0) (pa_cons (pv 1) (pa_cons pe_int (pa_cons (pe_ifExp (pt_cmpR op_isN (pe_dget hu (pv 0) pe_str (fun _ _ => rfl)) pe_non (nomark _)) pe_non (pe_callB call_len_seq (by rfl) T.blen (by decide +kernel) (pa_cons (pe_dget hu (pv 0) pe_str (fun _ _ => rfl)) pa_nil))) pa_nil))))))
      (pss_cons (ps_if (pt_cmpR op_notN (pv 2) pe_non (nomark _)) (pss_one (ps_ret (pv 2))) pss_nil)
      (pss_cons (ps_if (pt_cmpR op_gt (pe_op op_add (C8.pe_c cMn hr (by decide) rfl (pa_cons (pv 0) (pa_cons pe_str pa_nil))) (pv 1)) pe_int (nomark _)) (pss_one (ps_ret (pe_tup (pa_cons pe_str (pa_cons pe_int pa_nil))))) pss_nil)
      (pss_cons (ps_set (i := 3) scTd.nd rfl (Or.inl rfl) (pe_op op_add (pe_op op_sub (C8.pe_c cMn hr (by decide) rfl (pa_cons (pv 0) (pa_cons pe_str pa_nil))) (pv 1)) (C8.pe_c cMn hr (by decide) rfl (pa_cons (pv 0) (pa_cons pe_str pa_nil)))))
      (pss_cons (ps_if (pt_cmpR op_gt (pv 3) pe_int (nomark _)) (pss_one (ps_ret (pe_tup (pa_cons pe_str (pa_cons pe_int pa_nil))))) pss_nil)
      (pss_one (ps_ret (pe_ifExp (pt_cmpR op_gt (pe_op op_add (pe_op op_add (C8.pe_c cMn hr (by decide) rfl (pa_cons (pv 0) (pa_cons pe_str pa_nil))) (pv 1)) (pv 3)) pe_int (nomark _)) (pe_tup (pa_cons pe_str (pa_cons pe_int pa_nil))) pe_non)))))))), ?_⟩
    have two : 2 ≤ sizeLine := by decide
    obtain ⟨n, hw, hn⟩ := hc.wv
    obtain ⟨v1, d1, p1⟩ := hS.part ok (j := 1) (z := "loop") rfl
    have i1 := ptIsNon p1
    have e1 : t.g.at 1 = t.g.l := rfl
    rw [e1] at i1 p1
    -- the greatest place
    obtain ⟨most, em⟩ : ∃ most : Option Int, most = t.g.l.map fun as => (as.length : Int) := ⟨_, rfl⟩
    refine ⟨fun σ H' => ∃ u, σ = [some (.ref S), some v, some u, none] ∧ Same H H' ∧ DueV H' u (wrF t.g v 0 most n), ?_, ?_⟩
    · refine ⟨_, rfl, _, rfl, ?_⟩
      refine ⟨_, rfl, S, v1, rfl, d1, rfl, _, rfl, ?_⟩
      rw [i1]
      cases hl : t.g.l with
      | none =>
        rw [hl] at em
        refine iteT ⟨S, t, v, .non, 0, most, n, rfl, hS, ok, hw, by rw [em]; rfl, fun u H1 s1 du => ⟨u, rfl, s1, du⟩⟩
      | some as =>
        rw [hl] at em p1
        obtain ⟨L, rfl, ⟨ts, g, lt, _⟩, _⟩ := p1
        refine iteF ⟨_, rfl, S, _, rfl, d1, L, _, rfl, .inl (SqL.of g), ?_⟩
        exact ⟨S, t, v, _, 0, most, n, rfl, hS, ok, hw, by rw [em, List.length_map, lt]; rfl, fun u H1 s1 du => ⟨u, rfl, s1, du⟩⟩
    · rintro σ H1 ⟨u, rfl, s1, du⟩
      have hS := hS.same s1
      refine ⟨_, rfl, rfl, _, rfl, ?_⟩
      rw [du.isNon]
      rcases hn with ⟨j, rfl, rfl, rfl⟩ | ⟨rfl, bad⟩
      case inr =>
        rw [wr_bad bad] at du ⊢
        exact iteT ⟨_, rfl, k u H1 s1 du⟩
      have ew : wrF t.g (.int (j : Int)) 0 most (some (j : Int)) = if t.g.l.isSome = true ∧ (t.g.l.getD []).length < j then some (.num (.int (j : Int))) else oneF t.g := by
        show (if off (j : Int) 0 most = true then some (F6.num (.int (j : Int))) else oneF t.g) = _
        rw [em]
        cases hl : t.g.l with
        | none =>
          rw [if_neg (by show ¬ decide ((j : Int) < 0) = true; rw [decide_eq_false (by omega)]; exact Bool.false_ne_true), if_neg (fun z => by cases z.1)]
        | some as =>
          have eo : off (j : Int) 0 (some (as.length : Int)) = decide (as.length < j) := by
            show (decide ((j : Int) < 0) || decide ((as.length : Int) < (j : Int))) = _
            rw [decide_eq_false (show ¬ (j : Int) < 0 by omega), Bool.false_or]
            by_cases c : as.length < j
            · rw [decide_eq_true c, decide_eq_true (by omega)]
            · rw [decide_eq_false c, decide_eq_false (by omega)]
          show (if off (j : Int) 0 (some (as.length : Int)) = true then _ else _) = _
          rw [eo]
          by_cases c : as.length < j
          · rw [if_pos (decide_eq_true c), if_pos ⟨rfl, c⟩]
          · rw [if_neg (by rw [decide_eq_false c]; exact Bool.false_ne_true), if_neg (fun z => c z.2)]
      have k : ∀ u H', Same H H' → DueV H' u (if t.g.l.isSome = true ∧ (t.g.l.getD []).length < j then some (.num (.int (j : Int))) else match oneF t.g with
        | some f => some f
        | none => (t.g.tur j).many.map F6.many) → Q u H' := k
      rw [ew] at du ⊢
      by_cases c0 : t.g.l.isSome = true ∧ (t.g.l.getD []).length < j
      · rw [if_pos c0] at du k ⊢
        exact iteT ⟨_, rfl, k u H1 s1 du⟩
      rw [if_neg c0] at du k ⊢
      cases h1 : oneF t.g with
      | some f =>
        rw [h1] at du k
        exact iteT ⟨_, rfl, k u H1 s1 du⟩
      | none =>
        rw [h1] at k
        obtain ⟨⟨ls, hl⟩, hs⟩ := oneF_none h1
        have z := ok.sizes
        have jl : j ≤ (t.g.l.getD []).length := by
          have : ¬ (t.g.l.getD []).length < j := fun q => c0 ⟨by rw [hl]; rfl, q⟩
          omega
        have tm := tur_many z jl
        have la := z.a
        have ll := z.l
        have lh := z.h
        have ea : (((t.g.at 0).getD []).length : Int) = (t.g.a.length : Int) := rfl
        have el : (((t.g.at 1).getD []).length : Int) = ((t.g.l.getD []).length : Int) := rfl
        have eh : (((t.g.at 4).getD []).length : Int) = (t.g.h.length : Int) := rfl
        refine iteF ⟨_, rfl, S, t, 0, _, rfl, hS, ok, rfl, fun H2 s2 => ?_⟩
        have hS := hS.same s2
        have t2 := s1.trans s2
        refine ⟨_, rfl, _, _, rfl, rfl, _, 200, rfl, rfl, _, rfl, ?_⟩
        rw [ea]
        by_cases c1 : 200 < t.g.a.length + j
        · rw [tm, if_pos c1] at k
          rw [decide_eq_true (by omega)]
          exact iteT ⟨two, fun p hp => k _ _ (t2.trans (Same.new hp)) ⟨p, rfl, upd_same⟩⟩
        rw [decide_eq_false (by omega)]
        rw [if_neg c1] at tm
        refine iteF ⟨_, rfl, S, t, 1, _, rfl, hS, ok, rfl, fun H3 s3 => ?_⟩
        have hS := hS.same s3
        refine ⟨_, rfl, _, _, rfl, rfl, ?_⟩
        refine ⟨_, rfl, S, t, 4, _, rfl, hS, ok, rfl, fun H4 s4 => ?_⟩
        have hS := hS.same s4
        have t4 := t2.trans (s3.trans s4)
        refine ⟨_, _, rfl, rfl, ?_⟩
        refine ⟨_, rfl, _, 24, rfl, rfl, _, rfl, ?_⟩
        rw [el, eh]
        have e3 : ((t.g.l.getD []).length : Int) - (j : Int) + (t.g.h.length : Int) = (((t.g.l.getD []).length - j + t.g.h.length : Nat) : Int) := by omega
        rw [e3]
        by_cases c2 : 24 < (t.g.l.getD []).length - j + t.g.h.length
        · rw [tm, if_pos c2] at k
          rw [decide_eq_true (by omega)]
          exact iteT ⟨two, fun p hp => k _ _ (t4.trans (Same.new hp)) ⟨p, rfl, upd_same⟩⟩
        rw [decide_eq_false (by omega)]
        rw [if_neg c2] at tm
        refine iteF ⟨_, rfl, S, t, 0, _, rfl, hS, ok, rfl, fun H5 s5 => ?_⟩
        have t5 := t4.trans s5
        refine ⟨_, rfl, _, _, rfl, rfl, _, rfl, _, _, rfl, rfl, _, 200, rfl, rfl, _, rfl, ?_⟩
        rw [ea]
        by_cases c3 : 200 < t.g.a.length + j + ((t.g.l.getD []).length - j + t.g.h.length)
        · rw [tm, if_pos c3] at k
          rw [decide_eq_true (by omega)]
          exact iteT ⟨two, fun p hp => k _ _ (t5.trans (Same.new hp)) ⟨p, rfl, upd_same⟩⟩
        · rw [tm, if_neg c3] at k
          rw [decide_eq_false (by omega)]
          exact iteF (k _ H5 t5 rfl)
end
end K06

set_option Elab.async false
set_option linter.all false
set_option maxRecDepth 100000
set_option maxHeartbeats 4000000
/-! _law_is_kept, _law_power. -/
namespace K06
open PySem L2 NX NU LamX
open PyProof.Rows (sortedS)
abbrev sKp : Stmt := top 87
abbrev sLp : Stmt := top 88
theorem scKp : FnScope ["_law_thing", "_law_other", "_law_first"] ["_law_thing", "_law_other"] (defScope sKp) := ⟨rfl, rfl, rfl, by decide +kernel, rfl, by decide +kernel, by decide +kernel⟩
theorem scLp : FnScope ["_law_thing", "_law_at"] ["_law_thing", "_law_at"] (defScope sLp) := ⟨rfl, rfl, rfl, by decide +kernel, rfl, by decide +kernel, by decide +kernel⟩
/-- what a list of a program's properties is compared by -/
def DKp (K : PySem.W.Frag) : Eqv := fun x y H => DTup K DFlat x y H ∨ (NZ.DDict DFlat x y H ∨ DFlat x y H)
theorem mon_dict {D : Eqv} (h : Mon D) : Mon (NZ.DDict D) := fun x y H H' e d => by
  obtain ⟨a, b, ks, ls, e1, e2, g1, g2, l, k⟩ := d
  exact ⟨a, b, ks, ls, e1, e2, e _ _ g1, e _ _ g2, l, fun i kk u hu => (k i kk u hu).imp fun v q => ⟨q.1, h _ _ _ _ e q.2⟩⟩
theorem mon_kp (K : PySem.W.Frag) : Mon (DKp K) := (mon_tup mon_flat).or ((mon_dict mon_flat).or mon_flat)
theorem eqG_kp {X : Cx} : EqG X 1 (DKp X.K) := (eqG_tup mon_flat eqG_flat).or ((NZ.eqG_dict (fun _ _ _ _ _ d => d) eqG_flat).or (eqG_flat.mono (Nat.zero_le _)))
theorem flat_str (z : Str) (H : Hp) : DFlat (.str z) (.str z) H := ⟨rfl, rfl, by unfold eqV; simp⟩
theorem flat_int (n : Int) (H : Hp) : DFlat (.int n) (.int n) H := ⟨rfl, rfl, by unfold eqV; simp⟩
theorem kp_tup {K : PySem.W.Frag} {H : Hp} {p q : Addr} {ns : List Str} (h : H p = some (.tup (ns.map V.str))) (k : H q = some (.tup (ns.map V.str))) : DKp K (.ref p) (.ref q) H := by
  refine .inl ⟨p, q, _, _, rfl, rfl, SqT.of h, SqT.of k, rfl, fun i x y e1 e2 => ?_⟩
  rw [List.getElem?_map] at e1 e2
  obtain ⟨a, g1, rfl⟩ := Option.map_eq_some_iff.mp e1
  obtain ⟨b, g2, rfl⟩ := Option.map_eq_some_iff.mp e2
  rw [g1] at g2
  cases g2
  exact flat_str a H
theorem kp_dict {K : PySem.W.Frag} {H : Hp} {p q : Addr} {l : List (Str × Int)} (nd : (l.map (·.1)).Nodup) (h : H p = some (.dK (agK l))) (k : H q = some (.dK (agK l))) : DKp K (.ref p) (.ref q) H := by
  refine .inr (.inl ⟨p, q, _, _, rfl, rfl, h, k, rfl, fun i kk u hu => ?_⟩)
  have hm := List.mem_of_getElem? hu
  have v := (val_ag nd _ hm).1
  refine ⟨u, v, ?_⟩
  unfold agK at hm
  obtain ⟨z, _, e⟩ := List.mem_map.mp hm
  cases e
  exact flat_int z.2 H
def spKp (K : PySem.W.Frag) (d : D3) (C : Addr) : Sp := fun vs H Q _ => ∃ (x y : Addr) (t t' : Tol), vs = [.ref x, .ref y] ∧ IsP K d H x C t ∧ IsP K d H y C t' ∧ (∀ z, z ∈ t.us ↔ z ∈ t'.us) ∧ t.ag = t'.ag ∧ (∀ z, z ∈ t.rs ↔ z ∈ t'.rs) ∧ (∀ z, z ∈ t.words ↔ z ∈ t'.words) ∧ t.loops = 1 ∧ (t.ag.map (·.1)).Nodup ∧ ∀ H', Same H H' → Q (.bl true) H'
def menuJ : List Nat := [0, 1, 2, 3, 4, 5, 6, 8, 12, 24, 25, 64]
def spLp (K : PySem.W.Frag) (d : D3) (C : Addr) (c : C6) : Sp := fun vs H Q E => ∃ (x : Addr) (t : Tol) (j : Nat), vs = [.ref x, .int (j : Int)] ∧ j ∈ menuJ ∧ IsP K d H x C t ∧ t.Ok ∧ Ends6 c H E (∀ y H', Same H H' → IsP K d H' y C (t.with_ (t.g.pow j)) → Q (.ref y) H') (powF t.g j)
section
variable {P : Program} {w : World} {K : PySem.W.Frag} {mg : Str → Option Value} {base : Heap}
theorem ok_kp {d : D3} {C : Addr} {f : Addr} {fd : FuncData} (F : Fun K "_law_is_kept" "_law_is_kept" sKp f fd) (G : PGet6 P w K mg base d C) : FnOk P w K mg base CX0 4 f fd ["_law_thing", "_law_other"] (spKp K d C) := by
  refine F.ok scKp (fun vs H Q E h => ?_) (fun cdv A outer s H vs Q E hr h => ?_)
  · obtain ⟨x, y, t, t', rfl, _⟩ := h
    rfl
  · obtain ⟨x, y, t, t', rfl, ix, iy, eu, ea, er, ew, l1, nd, k⟩ := h
    obtain ⟨pG, gG, fdG, qG, FG, bG⟩ := G.gv.ex
    obtain ⟨pA, gA, fdA, qA, FA, bA⟩ := G.ag.ex
    obtain ⟨pR, gR, fdR, qR, FR, bR⟩ := G.rs.ex
    obtain ⟨pN, gN, fdN, qN, FN, bN⟩ := G.ns.ex
    obtain ⟨pL, gL, fdL, qL, FL, bL⟩ := G.lp.ex
    refine ⟨_, (pss_cons (ps_set (i := 2) scKp.nd rfl (Or.inl rfl) (pe_lst (pa_cons (NX.pe_propG (pv 0) FG (hr.mono (by decide)) bG pass0 rfl) (pa_cons (NX.pe_propG (pv 0) FA (hr.mono (by decide)) bA pass0 rfl) (pa_cons (NX.pe_propG (pv 0) FR (hr.mono (by decide)) bR pass0 rfl) (pa_cons (NX.pe_propG (pv 0) FN (hr.mono (by decide)) bN pass0 rfl) (pa_cons (NX.pe_propG (pv 0) FL (hr.mono (by decide)) bL pass0 rfl) pa_nil)))))))
      (pss_one (ps_ret (pe_cmpR (op_eqG (rcG_list (mon_kp _) eqG_kp) (hr.mono (by decide))) (pv 2) (pe_lst (pa_cons (NX.pe_propG (pv 1) FG (hr.mono (by decide)) bG pass0 rfl) (pa_cons (NX.pe_propG (pv 1) FA (hr.mono (by decide)) bA pass0 rfl) (pa_cons (NX.pe_propG (pv 1) FR (hr.mono (by decide)) bR pass0 rfl) (pa_cons (NX.pe_propG (pv 1) FN (hr.mono (by decide)) bN pass0 rfl) (pa_cons pe_int pa_nil)))))) (nomark _))))), ?_⟩
    obtain ⟨dx, fx, ex⟩ := ix.inst
    obtain ⟨dy, fy, ey⟩ := iy.inst
    refine ⟨_, rfl, x, C, dx, fx, pG, rfl, ex, G.cl.cl, qG, x, t, rfl, ix, fun g1 gs1 eg1 ag1 => ?_⟩
    refine ⟨_, rfl, x, C, dx, fx, pA, rfl, ex, G.cl.cl, qA, x, t, rfl, ix, fun a1 ha1 => ?_⟩
    have s1 : Same H (upd H a1 (.dK (agK t.ag))) := Same.new ha1
    have ea1 : (upd H a1 (.dK (agK t.ag))) a1 = some (.dK (agK t.ag)) := upd_same
    have eg1 := s1 _ _ eg1
    have ix := ix.same s1
    have iy := iy.same s1
    have ex := s1 _ _ ex
    have ey := s1 _ _ ey
    generalize (upd H a1 (.dK (agK t.ag))) = H1 at *
    refine ⟨_, rfl, x, C, dx, fx, pR, rfl, ex, G.cl.cl, qR, x, t, rfl, ix, fun r1 rs1 er1 ar1 => ?_⟩
    refine ⟨_, rfl, x, C, dx, fx, pN, rfl, ex, G.cl.cl, qN, x, t, rfl, ix, fun n1 ns1 en1 an1 => ?_⟩
    refine ⟨_, rfl, x, C, dx, fx, pL, rfl, ex, G.cl.cl, qL, x, t, rfl, ix, fun H2 s2 => ?_⟩
    rw [l1]
    refine ⟨by show 5 ≤ sizeLine; decide, fun L1 hL1 => ?_⟩
    have s3 : Same H2 (upd H2 L1 (.lst [.ref g1, .ref a1, .ref r1, .ref n1, .int ((1 : Nat) : Int)])) := Same.new hL1
    have gL1 : (upd H2 L1 (.lst [.ref g1, .ref a1, .ref r1, .ref n1, .int ((1 : Nat) : Int)])) L1 = _ := upd_same
    have s23 := s2.trans s3
    have eg1 := s23 _ _ eg1
    have ea1 := s23 _ _ ea1
    have er1 := s23 _ _ er1
    have en1 := s23 _ _ en1
    have iy := iy.same s23
    have ey := s23 _ _ ey
    have s13 := s1.trans s23
    clear s1 s2 s3 s23 ex ix
    generalize (upd H2 L1 (.lst [.ref g1, .ref a1, .ref r1, .ref n1, .int ((1 : Nat) : Int)])) = H3 at *
    refine ⟨_, rfl, ?_⟩
    refine ⟨_, rfl, y, C, dy, fy, pG, rfl, ey, G.cl.cl, qG, y, t', rfl, iy, fun g2 gs2 eg2 ag2 => ?_⟩
    refine ⟨_, rfl, y, C, dy, fy, pA, rfl, ey, G.cl.cl, qA, y, t', rfl, iy, fun a2 ha2 => ?_⟩
    have s4 : Same H3 (upd H3 a2 (.dK (agK t'.ag))) := Same.new ha2
    have ea2 : (upd H3 a2 (.dK (agK t'.ag))) a2 = some (.dK (agK t'.ag)) := upd_same
    have eg2 := s4 _ _ eg2
    have eg1 := s4 _ _ eg1
    have ea1 := s4 _ _ ea1
    have er1 := s4 _ _ er1
    have en1 := s4 _ _ en1
    have gL1 := s4 _ _ gL1
    have iy := iy.same s4
    have ey := s4 _ _ ey
    have s14 := s13.trans s4
    clear s4 s13
    generalize (upd H3 a2 (.dK (agK t'.ag))) = H4 at *
    refine ⟨_, rfl, y, C, dy, fy, pR, rfl, ey, G.cl.cl, qR, y, t', rfl, iy, fun r2 rs2 er2 ar2 => ?_⟩
    refine ⟨_, rfl, y, C, dy, fy, pN, rfl, ey, G.cl.cl, qN, y, t', rfl, iy, fun n2 ns2 en2 an2 => ?_⟩
    refine ⟨by show 5 ≤ sizeLine; decide, fun L2 hL2 => ?_⟩
    have s5 : Same H4 (upd H4 L2 (.lst [.ref g2, .ref a2, .ref r2, .ref n2, .int 1])) := Same.new hL2
    have gL2 : (upd H4 L2 (.lst [.ref g2, .ref a2, .ref r2, .ref n2, .int 1])) L2 = _ := upd_same
    have e1 := asc_same ag1 ag2 eu
    have e2 := asc_same ar1 ar2 er
    have e3 := asc_same an1 an2 ew
    subst e1 e2 e3
    rw [← ea] at ea2
    refine ⟨⟨L1, L2, _, _, rfl, rfl, s5 _ _ gL1, gL2, ?_⟩, fun H6 s6 => k H6 (s14.trans (s5.trans s6))⟩
    exact .cons (kp_tup (s5 _ _ eg1) (s5 _ _ eg2)) (.cons (kp_dict nd (s5 _ _ ea1) (s5 _ _ ea2)) (.cons (kp_tup (s5 _ _ er1) (s5 _ _ er2)) (.cons (kp_tup (s5 _ _ en1) (s5 _ _ en2)) (.cons (.inr (.inr (flat_int 1 _))) .nil))))
theorem ok_lp {d : D3} {C fp : Addr} {c : C6} {fdp : FuncData} {f : Addr} {fd : FuncData} (F : Fun K "_law_power" "_law_power" sLp f fd) (Fp : FnOk P w K mg base (L2N.CX P w) 8 fp fdp ["self", "other"] (spPw K d C c)) (hb : Binds K fdp ["self", "other"] []) (T : NZ.PowC K C fp) : FnOk P w K mg base (L2N.CX P w) 9 f fd ["_law_thing", "_law_at"] (spLp K d C c) := by
  refine NN.okN F scLp (fun vs H Q E h => ?_) (fun cdv A outer s H vs Q E hr h => ?_)
  · obtain ⟨x, t, j, rfl, _⟩ := h
    rfl
  · obtain ⟨x, t, j, rfl, hj, ip, ok, k⟩ := h
    refine ⟨_, (pss_cons (ps_if (pt_cmpR op_lt (pv 1) pe_int (nomark _)) (pss_one (ps_ret (pe_ifExp (pt_cmpR op_eq (pv 1) pe_int (nomark _)) (pe_op (NZ.op_pow Fp hb (NN.passN (L2N.takes_of rfl rfl rfl rfl)) (hr.mono (by decide))) (pv 0) pe_int) (pe_op (NZ.op_pow Fp hb (NN.passN (L2N.takes_of rfl rfl rfl rfl)) (hr.mono (by decide))) (pv 0) pe_int)))) pss_nil)
      (pss_cons (ps_if (pt_cmpR op_lt (pv 1) pe_int (nomark _)) (pss_one (ps_ret (pe_ifExp (pt_cmpR op_eq (pv 1) pe_int (nomark _)) (pe_op (NZ.op_pow Fp hb (NN.passN (L2N.takes_of rfl rfl rfl rfl)) (hr.mono (by decide))) (pv 0) pe_int) (pe_op (NZ.op_pow Fp hb (NN.passN (L2N.takes_of rfl rfl rfl rfl)) (hr.mono (by decide))) (pv 0) pe_int)))) pss_nil)
      (pss_cons (ps_if (pt_cmpR op_lt (pv 1) pe_int (nomark _)) (pss_one (ps_ret (pe_ifExp (pt_cmpR op_eq (pv 1) pe_int (nomark _)) (pe_op (NZ.op_pow Fp hb (NN.passN (L2N.takes_of rfl rfl rfl rfl)) (hr.mono (by decide))) (pv 0) pe_int) (pe_op (NZ.op_pow Fp hb (NN.passN (L2N.takes_of rfl rfl rfl rfl)) (hr.mono (by decide))) (pv 0) pe_int)))) pss_nil)
      (pss_cons (ps_if (pt_cmpR op_lt (pv 1) pe_int (nomark _)) (pss_one (ps_ret (pe_ifExp (pt_cmpR op_eq (pv 1) pe_int (nomark _)) (pe_op (NZ.op_pow Fp hb (NN.passN (L2N.takes_of rfl rfl rfl rfl)) (hr.mono (by decide))) (pv 0) pe_int) (pe_op (NZ.op_pow Fp hb (NN.passN (L2N.takes_of rfl rfl rfl rfl)) (hr.mono (by decide))) (pv 0) pe_int)))) pss_nil)
      (pss_cons (ps_if (pt_cmpR op_lt (pv 1) pe_int (nomark _)) (pss_one (ps_ret (pe_ifExp (pt_cmpR op_eq (pv 1) pe_int (nomark _)) (pe_op (NZ.op_pow Fp hb (NN.passN (L2N.takes_of rfl rfl rfl rfl)) (hr.mono (by decide))) (pv 0) pe_int) (pe_op (NZ.op_pow Fp hb (NN.passN (L2N.takes_of rfl rfl rfl rfl)) (hr.mono (by decide))) (pv 0) pe_int)))) pss_nil)
      (pss_one (ps_ret (pe_ifExp (pt_cmpR op_eq (pv 1) pe_int (nomark _)) (pe_op (NZ.op_pow Fp hb (NN.passN (L2N.takes_of rfl rfl rfl rfl)) (hr.mono (by decide))) (pv 0) pe_int) (pe_op (NZ.op_pow Fp hb (NN.passN (L2N.takes_of rfl rfl rfl rfl)) (hr.mono (by decide))) (pv 0) pe_int))))))))), ?_⟩
    obtain ⟨dx, fx, ex⟩ := ip.inst
    have fin : ∀ i : Nat, i = j → NZ.rPow K fp (spPw K d C c) E (.ref x) (.int (i : Int)) H Q := fun i e => by
      subst e
      refine ⟨x, C, dx, fx, _, rfl, rfl, ex, T, x, t, i, rfl, ip, ok, ?_⟩
      cases hm : powF t.g i with
      | none => rw [hm] at k; exact fun y H' s iy => ⟨y, rfl, k y H' s iy⟩
      | some f => rw [hm] at k; cases f <;> exact k
    simp only [menuJ, List.mem_cons, List.not_mem_nil, or_false] at hj
    rcases hj with rfl | rfl | rfl | rfl | rfl | rfl | rfl | rfl | rfl | rfl | rfl | rfl
    · exact ⟨_, rfl, _, _, rfl, rfl, _, rfl, iteT ⟨_, rfl, rfl, _, rfl, iteT ⟨_, rfl, fin 0 rfl⟩⟩⟩
    · exact ⟨_, rfl, _, _, rfl, rfl, _, rfl, iteT ⟨_, rfl, rfl, _, rfl, iteF ⟨_, rfl, fin 1 rfl⟩⟩⟩
    · exact ⟨_, rfl, _, _, rfl, rfl, _, rfl, iteF ⟨_, rfl, _, _, rfl, rfl, _, rfl, iteT ⟨_, rfl, rfl, _, rfl, iteT ⟨_, rfl, fin 2 rfl⟩⟩⟩⟩
    · exact ⟨_, rfl, _, _, rfl, rfl, _, rfl, iteF ⟨_, rfl, _, _, rfl, rfl, _, rfl, iteT ⟨_, rfl, rfl, _, rfl, iteF ⟨_, rfl, fin 3 rfl⟩⟩⟩⟩
    · exact ⟨_, rfl, _, _, rfl, rfl, _, rfl, iteF ⟨_, rfl, _, _, rfl, rfl, _, rfl, iteF ⟨_, rfl, _, _, rfl, rfl, _, rfl, iteT ⟨_, rfl, rfl, _, rfl, iteT ⟨_, rfl, fin 4 rfl⟩⟩⟩⟩⟩
    · exact ⟨_, rfl, _, _, rfl, rfl, _, rfl, iteF ⟨_, rfl, _, _, rfl, rfl, _, rfl, iteF ⟨_, rfl, _, _, rfl, rfl, _, rfl, iteT ⟨_, rfl, rfl, _, rfl, iteF ⟨_, rfl, fin 5 rfl⟩⟩⟩⟩⟩
    · exact ⟨_, rfl, _, _, rfl, rfl, _, rfl, iteF ⟨_, rfl, _, _, rfl, rfl, _, rfl, iteF ⟨_, rfl, _, _, rfl, rfl, _, rfl, iteF ⟨_, rfl, _, _, rfl, rfl, _, rfl, iteT ⟨_, rfl, rfl, _, rfl, iteT ⟨_, rfl, fin 6 rfl⟩⟩⟩⟩⟩⟩
    · exact ⟨_, rfl, _, _, rfl, rfl, _, rfl, iteF ⟨_, rfl, _, _, rfl, rfl, _, rfl, iteF ⟨_, rfl, _, _, rfl, rfl, _, rfl, iteF ⟨_, rfl, _, _, rfl, rfl, _, rfl, iteT ⟨_, rfl, rfl, _, rfl, iteF ⟨_, rfl, fin 8 rfl⟩⟩⟩⟩⟩⟩
    · exact ⟨_, rfl, _, _, rfl, rfl, _, rfl, iteF ⟨_, rfl, _, _, rfl, rfl, _, rfl, iteF ⟨_, rfl, _, _, rfl, rfl, _, rfl, iteF ⟨_, rfl, _, _, rfl, rfl, _, rfl, iteF ⟨_, rfl, _, _, rfl, rfl, _, rfl, iteT ⟨_, rfl, rfl, _, rfl, iteT ⟨_, rfl, fin 12 rfl⟩⟩⟩⟩⟩⟩⟩
    · exact ⟨_, rfl, _, _, rfl, rfl, _, rfl, iteF ⟨_, rfl, _, _, rfl, rfl, _, rfl, iteF ⟨_, rfl, _, _, rfl, rfl, _, rfl, iteF ⟨_, rfl, _, _, rfl, rfl, _, rfl, iteF ⟨_, rfl, _, _, rfl, rfl, _, rfl, iteT ⟨_, rfl, rfl, _, rfl, iteF ⟨_, rfl, fin 24 rfl⟩⟩⟩⟩⟩⟩⟩
    · exact ⟨_, rfl, _, _, rfl, rfl, _, rfl, iteF ⟨_, rfl, _, _, rfl, rfl, _, rfl, iteF ⟨_, rfl, _, _, rfl, rfl, _, rfl, iteF ⟨_, rfl, _, _, rfl, rfl, _, rfl, iteF ⟨_, rfl, _, _, rfl, rfl, _, rfl, iteF ⟨_, rfl, rfl, _, rfl, iteT ⟨_, rfl, fin 25 rfl⟩⟩⟩⟩⟩⟩⟩
    · exact ⟨_, rfl, _, _, rfl, rfl, _, rfl, iteF ⟨_, rfl, _, _, rfl, rfl, _, rfl, iteF ⟨_, rfl, _, _, rfl, rfl, _, rfl, iteF ⟨_, rfl, _, _, rfl, rfl, _, rfl, iteF ⟨_, rfl, _, _, rfl, rfl, _, rfl, iteF ⟨_, rfl, rfl, _, rfl, iteF ⟨_, rfl, fin 64 rfl⟩⟩⟩⟩⟩⟩⟩
end
end K06

set_option Elab.async false
set_option linter.all false
set_option maxRecDepth 100000
set_option maxHeartbeats 4000000
/-! A rule of my own: o.m(k=e, ..), a method called by keywords alone. -/
namespace NZ
open PySem PySem.Spec PyProof.Rows L2
section
variable {X : Cx} {CX : CXT} {lv : Nat} {C g : Addr} {gd : FuncData} {names ks : List Str} {sp : Sp} {E : XK} {m : Str} {apos pos : Pos} {kws : List Keyword} {t : TA} {ta : TE} {o : Expr}
/-- how the keywords' values stand behind self -/
def SelfKw (fd : FuncData) (ps ks : List Str) : Prop := ∀ (s : Shared) (us : List Value), us.length = ps.length → BindsTo s fd ⟨us.take 1, ks.zip (us.drop 1)⟩ (ps.zip us)
theorem pe_methKw {pl : Sem Bool} (recv : PE X o ta) (cl : Cls X.K C) (me : Meth X.K C m g) (F : FnOk X.prog X.w X.K X.mg X.base CX lv g gd names sp) (room : Room lv X.A)
    (bd : SelfKw gd names ks) (out : Passes CX X E) (vals : PK X kws t)
    (named : (backToKw pos (keywordEach kws X.env)).all (·.1.isSome) = true := by rfl) (which : (backToKw pos (keywordEach kws X.env)).filterMap (·.1) = ks := by rfl)
    (plain : ((backTo pos (starEach [] X.env)).any (·.1) || (backToKw pos (keywordEach kws X.env)).any (·.1.isNone)) = false := by rfl)
    (how : eval (.Call (.Attribute o m apos) [] kws pos) X.env = (do
      let ov ← eval o X.env
      standAt apos.atName
      let (f, first) ← holding [ov] (getMethod ov m pl)
      callWith pos f first (backTo pos (starEach [] X.env)) (backToKw pos (keywordEach kws X.env))) := by rfl) :
    PE X (.Call (.Attribute o m apos) [] kws pos) (tMeth C m sp [] E ta t) := by
  refine ⟨fun pins s σ H Q I ask => PySem.W.methodCall_KW (pl := pl) (thn (recv.run pins s σ H _ I ask) fun u s1 ⟨x, H1, I1, rx, a, dx, fs, ex, ea, l, more⟩ => ?_) how⟩
  subst ex
  obtain rfl : u = Value.ref a := rx
  refine getmeth_ok I1 ea cl me l (PySem.W.callWith_KW0 (first := [.ref a]) (h₀ := X.base) I.ok.mod.kin me.kp named (thn (vals.run pos pins s1 σ H1 _ I1 more) fun us s2 ⟨vs, H2, I2, r, q⟩ => ⟨I2.kIn, ?_⟩) plain)
  rw [which]
  have q : sp (.ref a :: vs) H2 Q E := by simpa using q
  have rel : Vals (.ref a :: vs) (.ref a :: us) := .cons rfl r
  have long : (Value.ref a :: us).length = names.length := by rw [← F.len _ _ _ _ q, rel.length]
  refine wpAny_call (codeAny_mono (F.run X.A X.stack s2 H2 ⟨[.ref a] ++ [], ks.zip us⟩ (.ref a :: us) (.ref a :: vs) Q E room I2.env0 (bd s2 (.ref a :: us) long) rel q) fun z s3 hz => ?_)
  match z, hz with
  | .error e, hz => exact out pins σ H2 s2 e s3 I2 hz
  | .ok (.ret u), hz => exact I2.after hz
end
end NZ

set_option Elab.async false
set_option linter.all false
set_option maxRecDepth 100000
set_option maxHeartbeats 4000000
/-! What stays while tables of code grow; what is heard, as text. -/
namespace K06
open PySem L2 NX NU LamX
open PyProof.Rows (sortedS)
theorem L2passOf {X : Cx} {E : XK} (tk : Takes X (fun cls d _ H => E cls d H)) : Passes (L2.CX X.prog X.w) X E := fun pins σ H s e s' I h => passAt tk σ pins H s e s' I h
section
variable {K : PySem.W.Frag} {d : D3} {H H' : Hp}
theorem Dd.ext {x C : Addr} {us ys : List Str} {v : V} (s : ExtN H H') (h : Dd H x C us v ys) : Dd H' x C us v ys := by
  obtain ⟨dx, p, q, a, b, c⟩ := h
  exact ⟨dx, p, q, s _ _ a nofun, s _ _ b nofun, s _ _ c nofun⟩
theorem IsD.ext {x : Addr} {mk : Option Str} {us ys : List Str} (s : ExtN H H') (h : IsD d H x mk us ys) : IsD d H' x mk us ys := ⟨h.dd.ext s, h.nu, h.nm_, h.few, h.asc⟩
theorem AllAt.ext {xs : List Addr} {as : List Act} (s : ExtN H H') (h : AllAt d H xs as) : AllAt d H' xs as := ⟨h.1, fun i x a e1 e2 => (h.2 i x a e1 e2).imp fun _ q => q.ext s⟩
theorem Deeds.ext {p : Addr} {as : List Act} (s : ExtN H H') (h : Deeds K d H p as) : Deeds K d H' p as := h.imp fun _ q => ⟨seqT_keep (s _) q.1, q.2.ext s⟩
theorem PartA.ext {v : V} (s : ExtN H H') : ∀ {o : Option (List Act)}, PartA K d H v o → PartA K d H' v o
  | none, h => h
  | some _, ⟨p, e, h⟩ => ⟨p, e, h.ext s⟩
theorem PartsD.ext {P : Addr} {g : Prg} (s : ExtN H H') (h : PartsD K d H P g) : PartsD K d H' P g := by
  obtain ⟨v0, v1, v2, v3, v4, e, h0, h1, h2, h3, h4⟩ := h
  exact ⟨v0, v1, v2, v3, v4, s _ _ e nofun, h0.ext s, h1.ext s, h2.ext s, h3.ext s, h4.ext s⟩
theorem IsP.ext {x C : Addr} {t : Tol} (s : ExtN H H') (h : IsP K d H x C t) : IsP K d H' x C t := by
  obtain ⟨dx, nt, P, gt, ag, rt, ns, gs, rs, a, b, c, e, f, g, h1, h2, h3⟩ := h.ex
  exact ⟨dx, nt, P, gt, ag, rt, ns, gs, rs, s _ _ a nofun, s _ _ b nofun, c.ext s, s _ _ e nofun, s _ _ f nofun, s _ _ g nofun, h1, h2, h3⟩
theorem LotsT.ext {ts : List Addr} {as : List Act} (s : ExtN H H') (h : LotsT H ts as) : LotsT H' ts as := ⟨h.1, fun i t a e1 e2 => (h.2 i t a e1 e2).imp fun _ q => ⟨s _ _ q.1 nofun, s _ _ q.2 nofun⟩⟩
theorem LotsAt.ext {L : Addr} {as : List Act} (s : ExtN H H') (h : LotsAt H L as) : LotsAt H' L as := h.imp fun _ q => ⟨s _ _ q.1 nofun, q.2.ext s⟩
theorem PtI.ext {v : V} (s : ExtN H H') : ∀ {o : Option (List Act)}, PtI H v o → PtI H' v o
  | none, h => h
  | some _, ⟨L, e, l, a, b⟩ => ⟨L, e, l.ext s, a, b⟩
theorem SiteG.ext {S : Addr} {t : Tol} (s : ExtN H H') (h : SiteG H S t) : SiteG H' S t := by
  obtain ⟨gv, ag, r, vl, vb, vx, vh, vL, e, e1, e2, e6, p1, p2, p3, p4, p5⟩ := h.ex
  exact ⟨gv, ag, r, vl, vb, vx, vh, vL, s _ _ e nofun, s _ _ e1 nofun, s _ _ e2 nofun, s _ _ e6 nofun, p1.ext s, p2.ext s, p3.ext s, p4.ext s, p5.ext s⟩
theorem DueV.ext {u : V} (s : ExtN H H') : ∀ {r : Option F6}, DueV H u r → DueV H' u r
  | none, h => h
  | some _, ⟨p, e, g⟩ => ⟨p, e, s _ _ g nofun⟩
theorem NoInt.ext {x : V} (s : ExtN H H') (h : NoInt K H x) : NoInt K H' x := let ⟨t, a, b⟩ := h; ⟨t, NI.tyX_ext s a, b⟩
theorem Cn.ext {v : V} {r : Option Nat} (s : ExtN H H') (h : Cn K H v r) : Cn K H' v r := by
  cases h with
  | yes n e => exact .yes n e
  | neg n e l => exact .neg n e l
  | bl b e => exact .bl b e
  | odd h => exact .odd (h.ext s)
end
/-- what is heard of an ask, told as what is due -/
theorem askH {c : C6} {H : Hp} {Q R : VK} {φ : Addr → Hp → Prop} {r : Option F6} (hR : ∀ v H1, Q .non H1 → R v H1) (k : ∀ v H', Same H H' → DueV H' v r → Q v H') : Ends6 c H (HErr6 c Q) (∀ y H', Same H H' → φ y H' → R (.ref y) H') r :=
  ends_heard (fun e y H' s _ => hR _ _ (k .non H' s (by rw [e]; rfl))) (fun f e p H'' s g => k _ _ s (by rw [e]; exact ⟨p, rfl, g⟩))
def SmO (K : PySem.W.Frag) (H : Hp) (r : Option F6) : Prop := ∀ f, r = some f → ∃ dv, SmD K H f.val dv
theorem sm_int {K : PySem.W.Frag} {H : Hp} (n : Nat) (h : n ≤ 1000) : SmD K H (.int (n : Int)) (.int (n : Int)) := by
  have all : ∀ m : Fin 1001, (PyData.int ((m.1 : Nat) : Int)).showable = true ∧ (PyData.int ((m.1 : Nat) : Int)).depth ≤ 3 ∧ (PyData.shown (.int ((m.1 : Nat) : Int))).length ≤ 100000 ∧ (((m.1 : Nat) : Int).natAbs).log2 < 1920 := by decide +kernel
  obtain ⟨h1, h2, h3, h4⟩ := all ⟨n, by omega⟩
  exact ⟨.int _, h1, h2, h3, fun i e => by cases e; exact h4⟩
theorem sm_non {K : PySem.W.Frag} {H : Hp} : SmD K H .non .none := ⟨.non, rfl, by decide, by decide +kernel, nofun⟩
theorem F6.word_ok (f : F6) : f.word.length ≤ 100 ∧ f.word.cps.toList.all (fun c => decide (c < 1114112)) = true := by
  have h : ∀ z : Str, (z = "number" ∨ z = "many" ∨ z = "none" ∨ z = "two") → z.length ≤ 100 ∧ z.cps.toList.all (fun c => decide (c < 1114112)) = true := fun z h => by
    rcases h with rfl | rfl | rfl | rfl <;> exact ⟨by decide +kernel, by decide +kernel⟩
  cases f with
  | num v => exact h _ (.inl rfl)
  | many m => exact h _ (.inr (.inl rfl))
  | none => exact h _ (.inr (.inr (.inl rfl)))
  | two => exact h _ (.inr (.inr (.inr rfl)))
theorem dueText {K : PySem.W.Frag} {H : Hp} {r : Option F6} (sm : SmO K H r) : ∃ z : Str, ∀ H', ExtN H H' → ∀ u, DueV H' u r → ∀ Q : VK, Q (.str z) H' → rReprD K [u] H' Q := by
  cases r with
  | none =>
    refine ⟨PyData.shown .none, fun H' e u h Q q => ?_⟩
    obtain rfl : u = .non := h
    exact sm_non.ask q
  | some f =>
    obtain ⟨dv, sd⟩ := sm f rfl
    refine ⟨(PyData.tuple [.str f.word, dv]).shown, fun H' e u h Q q => ?_⟩
    obtain ⟨p, rfl, g⟩ := h
    exact SmD.pair (sd.ext e) f.word_ok.1 f.word_ok.2 g q
theorem smO_one {K : PySem.W.Frag} {H : Hp} {g : Prg} : SmO K H (oneF g) := fun f e => by
  unfold oneF at e
  split at e
  · cases e; exact ⟨_, sm_non⟩
  · split at e
    · cases e; exact ⟨_, sm_non⟩
    · cases e
theorem smO_pow {K : PySem.W.Frag} {H : Hp} {g : Prg} {j : Nat} : SmO K H (powF g j) := fun f e => by
  unfold powF at e
  split at e
  · cases e; exact ⟨_, sm_int 0 (by decide)⟩
  · cases h : oneF g with
    | some f2 =>
      rw [h] at e
      exact smO_one f (h.trans e)
    | none =>
      rw [h] at e
      dsimp only at e
      split at e
      · cases e
      · cases e; exact ⟨_, sm_int 24 (by decide)⟩
end K06

set_option Elab.async false
set_option linter.all false
set_option maxRecDepth 100000
set_option maxHeartbeats 8000000
/-! What the law asks of powers. -/
namespace K06
open PySem L2 NX NU LamX
open PyProof.Rows (sortedS)
abbrev sPr : Stmt := top 89
abbrev NPr : List Str := ["_law_site_here", "_law_thing", "_law_at", "_law_due", "_law_other", "_law_few", "_law_n"]
theorem scPr : FnScope NPr ["_law_site_here", "_law_thing", "_law_at"] (defScope sPr) := ⟨rfl, rfl, rfl, by decide +kernel, rfl, by decide +kernel, by decide +kernel⟩
theorem pe_cW {X : Cx} {k j : Nat} {x : Str} {sp : Sp} {E : XK} {e : Expr} {es : List Expr} {t : TA} {p pos : Pos} (c : CalL X.prog X.w X.K X.mg X.base k x sp) (hr : Room j X.A) (hk : k ≤ j) (hg : Gl X x) (hx : Passes (L2.CX X.prog X.w) X E) (ha : PA X (e :: es) t)
    (hdb : (x == ("__debug__" : Str)) = false := by decide) (he : starEach (e :: es) X.env = (false, eval e X.env) :: starEach es X.env := by rfl) (hpl : (backTo pos (starEach es X.env)).any (·.1) = false := by rfl) :
    PE X (.Call (.Name x p) (e :: es) [] pos) (tCall sp [] E t) := by
  obtain ⟨f, fd, ps, F, hm, kp, b⟩ := c.ex
  exact pe_call (NN.fnOk_less F) (hr.mono hk) hg hm kp b .nil hx ha hdb he hpl
/-- a method of ours that may raise -/
structure MetW (P : Program) (w : World) (K : PySem.W.Frag) (mg : Str → Option Value) (base : Heap) (k : Nat) (C : Addr) (m : Str) (sp : Sp) (dvs : List V) : Prop where
  ex : ∃ (f : Addr) (fd : FuncData) (ps : List Str) (ds : List Value), Cls K C ∧ Meth K C m f ∧ FnOk P w K mg base (L2N.CX P w) k f fd ps sp ∧ Binds K fd ps ds ∧ Vals dvs ds
theorem pe_mW {X : Cx} {k j : Nat} {C : Addr} {m : Str} {sp : Sp} {dvs : List V} {E : XK} {o e : Expr} {es : List Expr} {ta : TE} {t : TA} {apos pos : Pos} {pl : Sem Bool} (c : MetW X.prog X.w X.K X.mg X.base k C m sp dvs) (hr : Room j X.A) (hk : k ≤ j) (hx : Passes (L2.CX X.prog X.w) X E) (he : PE X o ta) (ha : PA X (e :: es) t)
    (hst : starEach (e :: es) X.env = (false, eval e X.env) :: starEach es X.env := by rfl) (hpl : (backTo pos (starEach es X.env)).any (·.1) = false := by rfl)
    (ht : eval (.Call (.Attribute o m apos) (e :: es) [] pos) X.env = (do
      let ov ← eval o X.env
      standAt apos.atName
      let (f, first) ← holding [ov] (getMethod ov m pl)
      callWith pos f first (backTo pos (starEach (e :: es) X.env)) (backToKw pos (keywordEach [] X.env))) := by rfl) :
    PE X (.Call (.Attribute o m apos) (e :: es) [] pos) (tMeth C m sp dvs E ta t) := by
  obtain ⟨f, fd, ps, ds, hc, hm, F, b, d⟩ := c.ex
  exact pe_meth (pl := pl) he hc hm (NN.fnOk_less F) (hr.mono hk) b d hx ha hst hpl ht
/-- what the three use -/
structure RT6 (P : Program) (w : World) (K : PySem.W.Frag) (mg : Str → Option Value) (base : Heap) (d : D3) (c : C6) (C CS fEq fH : Addr) (fdEq fdH : FuncData) : Prop where
  T : TxtB mg
  S : SysB base
  E : ErrK6 K mg c CS
  G : PGet6 P w K mg base d C
  FH : Fun K "_law_heard" "_law_heard" sHeard fH fdH
  gH : mg "_law_heard" = some (.ref fH)
  hbH : Binds K fdH ["_law_ask"] []
  st : MetW P w K mg base 7 C "straight" (spSt K d C c) [.int 0]
  eq : NX.EqC K C fEq
  FEq : FnOk P w K mg base CX0 5 fEq fdEq ["self", "other"] (spPEq K d C)
  hbE : Binds K fdEq ["self", "other"] []
  ty : PTy K C
  nf : PySem.W.notFirst K C (.ref C) = true
  kp : C8.Cal P w K mg base 4 "_law_is_kept" (spKp K d C) []
theorem tabs_put {TT : List (Addr × Str)} {H : Hp} {D : Addr} {xs ys : List V} (t : Tabs TT H) (g : H D = some (.lst xs)) : Tabs TT (upd H D (.lst ys)) := fun p hp => by
  obtain ⟨ps, a, b, e⟩ := t p hp
  refine ⟨ps, (upd_ne (fun z => by rw [z, g] at a; cases a)).trans a, b, fun pos cv hc => (e pos cv hc).imp fun c0 q => ⟨q.1, (upd_ne (fun z => ?_)).trans q.2⟩⟩
  have q2 := q.2
  rw [z, g] at q2
  unfold CodeO at q2
  cases q2
/-- the rounds that are asked about: those few that fit -/
theorem lcFew {v : Nat} {σ : L2.St} {H : Hp} {tt : TT} {Q : VK} {TT : List (Addr × Str)} (ok : Nat → Prop) (hv : v < σ.length) (hT : Tabs TT H)
    (htt : ∀ (n : Nat) H2 (R : Bool → Hp → Prop), n < 4 → ExtN H H2 → Tabs TT H2 → (∀ b H3, ExtN H2 H3 → Tabs TT H3 → (b = true → ok n) → R b H3) → tt ((wipe σ [v]).set v (some (.int (n : Int)))) H2 R)
    (k : ∀ D (ns : List Nat) H', H' D = some (.lst (ns.map fun (n : Nat) => V.int (n : Int))) → (∀ n ∈ ns, n < 4 ∧ ok n) → ns.length ≤ 4 → ExtN H H' → Tabs TT H' → Q (.ref D) H') :
    tLc (iRng1 (tCons (tC (.int 4)) tNil)) (gName v) tt (tVar v) [v] σ H Q := by
  refine ⟨4, rfl, by decide, by decide, fun D hD => ?_⟩
  have sN := Same.new (o := HO.lst []) hD
  have low : (100 : Nat) ≤ sizeLine := by decide
  refine lc_range (lo := 0) (n := 4) (fun i H' => ExtN H H' ∧ Tabs TT H' ∧ ∃ ns : List Nat, H' D = some (.lst (ns.map fun (n : Nat) => V.int (n : Int))) ∧ ns.length ≤ i ∧ ∀ n ∈ ns, n < 4 ∧ ok n) ⟨ExtN.of sN, hT.ext sN, [], upd_same, Nat.le_refl _, nofun⟩ ?_ ?_
  · rintro i H2 hi ⟨e2, t2, ns, gD, ln, hm⟩
    have e0 : (0 : Int) + (i : Int) = (i : Int) := Int.zero_add _
    rw [e0]
    have ln2 : ns.length ≤ 4 := by omega
    refine ⟨?_, htt i H2 _ hi e2 t2 fun b H3 e3 t3 hb => ?_⟩
    · show ((σ.set v none).set v _).set v none = σ.set v none
      rw [List.set_set, List.set_set]
    · have gD3 := e3 _ _ gD nofun
      have e23 := e2.trans e3
      cases b with
      | false => exact iteF ⟨e23, t3, ns, gD3, by omega, hm⟩
      | true =>
        refine iteT ⟨.int (i : Int), ?_, _, gD3, by rw [List.length_map]; omega, fun b o hb n => (upd_ne (ne_of_none hb hD)).trans (e23 b o hb n), tabs_put t3 gD3, ns ++ [i], by rw [upd_same, List.map_append]; rfl, by rw [List.length_append]; show ns.length + 1 ≤ i + 1; omega, fun n hn => ?_⟩
        · show ((σ.set v none).set v (some (V.int (i : Int))))[v]? = _
          rw [List.getElem?_set_self (by rw [List.length_set]; exact hv)]
        · rcases List.mem_append.mp hn with q | q
          · exact hm n q
          · rw [List.mem_singleton.mp q]
            exact ⟨hi, hb rfl⟩
  · rintro H2 ⟨e2, t2, ns, gD, ln, hm⟩
    exact k D ns H2 gD hm ln e2 t2
/-- none of them is picked -/
theorem lcNone {K : PySem.W.Frag} {v : Nat} {σ : L2.St} {H : Hp} {l : Addr} {ns : List Nat} {tt : TT} {Q : VK} (gl : H l = some (.lst (ns.map fun (n : Nat) => V.int (n : Int))))
    (htt : ∀ n ∈ ns, ∀ H2 (R : Bool → Hp → Prop), Same H H2 → (∀ H3, Same H2 H3 → R false H3) → tt ((wipe σ [v]).set v (some (.int (n : Int)))) H2 R)
    (k : ∀ D H', H' D = some (.lst []) → Same H H' → Q (.ref D) H') : tLc (fun _ H R => R (Itl K l) H) (gName v) tt (tVar v) [v] σ H Q := by
  intro D hD
  refine lc_list (xs := ns.map fun (n : Nat) => V.int (n : Int)) (fun _ H' => Same H H' ∧ H' D = some (.lst [])) ⟨Same.new hD, upd_same⟩ (fun j H' _ z => SqL.of (z.1 _ _ gl)) ?_ ?_
  · rintro i x H2 hx ⟨s2, gD⟩
    rw [List.getElem?_map] at hx
    obtain ⟨n, hn, rfl⟩ := Option.map_eq_some_iff.mp hx
    refine ⟨?_, htt n (List.mem_of_getElem? hn) H2 _ s2 fun H3 s3 => iteF ⟨s2.trans s3, s3 _ _ gD⟩⟩
    show ((σ.set v none).set v _).set v none = σ.set v none
    rw [List.set_set, List.set_set]
  · rintro H2 ⟨s2, gD⟩
    exact k D H2 gD s2
/-- a program made of a program with one loop, n rounds of which are f n rounds of that -/
structure Made6 (t : Tol) (g' : Prg) (f : Nat → Nat) : Prop where
  ok : (t.with_ g').Ok
  l1 : (t.with_ g').loops = 1
  ls : g'.l.isSome = true
  words : ∀ z, z ∈ (t.with_ g').words ↔ z ∈ t.words
  flat : ∀ n, g'.flat n 0 = t.g.flat (f n) 0
theorem made_of {t : Tol} {g' : Prg} {f : Nat → Nat} (ok : t.Ok) (hb : g'.b = []) (hs : g'.s = none) (hl : g'.l.isSome = true) (m : g'.many = none) (sub : ∀ a ∈ g'.acts, a ∈ t.g.acts) (sup : ∀ a ∈ t.g.acts, a ∈ g'.acts) (v : g'.VOk (t.us ++ t.ag.map (·.1)) (t.ag.map (·.1)) t.rs) (fl : ∀ n, g'.flat n 0 = t.g.flat (f n) 0) : Made6 t g' f := by
  have hw : ∀ z, z ∈ (t.with_ g').words ↔ z ∈ t.words := fun z => by
    show z ∈ t.us ++ t.ag.map (·.1) ++ t.rs ++ actsN g'.acts ↔ z ∈ t.us ++ t.ag.map (·.1) ++ t.rs ++ actsN t.g.acts
    exact (List.mem_append.trans (or_congr Iff.rfl ⟨actsN_mem sub z, actsN_mem sup z⟩)).trans List.mem_append.symm
  obtain ⟨pool, hp, h6⟩ := ok.six
  have lu : t.us.length ≤ 6 := Nat.le_trans (nodupLen ok.us.nr fun z hz => hp z (by unfold Tol.words; simp [hz])) h6
  have lr : t.rs.length ≤ 6 := Nat.le_trans (nodupLen ok.rs.nr fun z hz => hp z (by unfold Tol.words; simp [hz])) h6
  have la := ok.ag.few
  have lg := few_of hb hs m
  refine ⟨⟨⟨fun e => ?_, fun _ => hb⟩, many_sizes m, ok.us, ok.ag, ok.rs, ⟨pool, fun z hz => hp z ((hw z).mp hz), h6⟩, ?_, v⟩, ?_, hl, hw, fl⟩
  · have e : g'.l = none := e
    rw [e] at hl
    cases hl
  · show t.us.length + t.ag.length + t.rs.length + 4 * g'.acts.length ≤ 1000
    omega
  · show (if g'.l.isSome then 1 else 0) + (if g'.s.isSome then 1 else 0) = 1
    rw [hl, hs]
    rfl
section
variable {t : Tol} {j : Nat}
theorem made_pow (ok : t.Ok) (one : oneF t.g = none) (j0 : 0 < j) (hj : j * (t.g.l.getD []).length ≤ 24) : Made6 t (t.g.pow j) (fun n => j * n) := by
  obtain ⟨⟨ls, hl⟩, hs⟩ := oneF_none one
  have eb := ok.shape.s hs
  refine made_of ok rfl rfl rfl (pow_many ok.sizes eb hj) pow_in (fun a h => ?_) (pow_v ok.v eb j) (fun n => ?_)
  · rw [acts_mem] at h ⊢
    show a ∈ t.g.a ∨ a ∈ rep j (t.g.l.getD []) ∨ a ∈ ([] : List Act) ∨ a ∈ ([] : List Act) ∨ a ∈ t.g.h
    rw [eb, hs] at h
    rcases h with h | h | h | h | h
    · exact .inl h
    · obtain ⟨i, rfl⟩ := Nat.exists_eq_add_of_lt j0
      refine .inr (.inl ?_)
      rw [show 0 + i + 1 = i + 1 by omega, rep_succ]
      exact List.mem_append_left _ h
    · cases h
    · cases h
    · exact .inr (.inr (.inr (.inr h)))
  · unfold Prg.flat
    show Prg.mk (t.g.a ++ rep n (rep j (t.g.l.getD [])) ++ [] ++ [] ++ t.g.h) none [] none [] = Prg.mk (t.g.a ++ rep (j * n) (t.g.l.getD []) ++ t.g.b ++ [] ++ t.g.h) none [] none []
    rw [rep_mul, eb]
theorem made_unr (ok : t.Ok) (one : oneF t.g = none) (hj : t.g.a.length + j * (t.g.l.getD []).length + t.g.h.length ≤ 200) : Made6 t (t.g.unr j) (fun n => n + j) := by
  obtain ⟨⟨ls, hl⟩, hs⟩ := oneF_none one
  have eb := ok.shape.s hs
  refine made_of ok rfl rfl rfl (by rw [unr_many ok.sizes, if_pos hj]) unr_in (fun a h => ?_) (unr_v ok.v eb j) (fun n => ?_)
  · rw [acts_mem] at h ⊢
    show a ∈ t.g.a ++ rep j (t.g.l.getD []) ∨ a ∈ t.g.l.getD [] ∨ a ∈ ([] : List Act) ∨ a ∈ ([] : List Act) ∨ a ∈ t.g.h
    rw [eb, hs] at h
    rcases h with h | h | h | h | h
    · exact .inl (List.mem_append_left _ h)
    · exact .inr (.inl h)
    · cases h
    · cases h
    · exact .inr (.inr (.inr (.inr h)))
  · unfold Prg.flat
    show Prg.mk (t.g.a ++ rep j (t.g.l.getD []) ++ rep n (t.g.l.getD []) ++ [] ++ [] ++ t.g.h) none [] none [] = Prg.mk (t.g.a ++ rep (n + j) (t.g.l.getD []) ++ t.g.b ++ [] ++ t.g.h) none [] none []
    rw [Nat.add_comm n j, rep_add, eb, List.append_assoc t.g.a]
theorem made_tur (ok : t.Ok) (one : oneF t.g = none) (hm : (t.g.tur j).many = none) : Made6 t (t.g.tur j) (fun n => n + 1) := by
  obtain ⟨⟨ls, hl⟩, hs⟩ := oneF_none one
  have eb := ok.shape.s hs
  have cut : (t.g.l.getD []).take j ++ (t.g.l.getD []).drop j = t.g.l.getD [] := List.take_append_drop _ _
  refine made_of ok rfl rfl rfl hm tur_in (fun a h => ?_) (tur_v ok.v eb j) (fun n => ?_)
  · rw [acts_mem] at h ⊢
    show a ∈ t.g.a ++ (t.g.l.getD []).take j ∨ a ∈ (t.g.l.getD []).drop j ++ (t.g.l.getD []).take j ∨ a ∈ ([] : List Act) ∨ a ∈ ([] : List Act) ∨ a ∈ (t.g.l.getD []).drop j ++ t.g.h
    rw [eb, hs] at h
    rcases h with h | h | h | h | h
    · exact .inl (List.mem_append_left _ h)
    · rw [← cut, List.mem_append] at h
      refine .inr (.inl ?_)
      rw [List.mem_append]
      exact h.symm
    · cases h
    · cases h
    · exact .inr (.inr (.inr (.inr (List.mem_append_right _ h))))
  · unfold Prg.flat
    show Prg.mk (t.g.a ++ (t.g.l.getD []).take j ++ rep n ((t.g.l.getD []).drop j ++ (t.g.l.getD []).take j) ++ [] ++ [] ++ ((t.g.l.getD []).drop j ++ t.g.h)) none [] none [] = Prg.mk (t.g.a ++ rep (n + 1) (t.g.l.getD []) ++ t.g.b ++ [] ++ t.g.h) none [] none []
    have e := rep_turn ((t.g.l.getD []).take j) ((t.g.l.getD []).drop j) n
    rw [cut] at e
    rw [← e, eb]
    simp only [List.append_assoc, List.nil_append, List.append_nil]
end
/-- != of programs of the same parts -/
theorem neSame {K : PySem.W.Frag} {d : D3} {C fEq x y : Addr} {t t' : Tol} {H : Hp} {Q : VK} {E : XK} (pc : PCls K C) (eq : NX.EqC K C fEq) (pty : PTy K C) (nf : PySem.W.notFirst K C (.ref C) = true) (ix : IsP K d H x C t) (iy : IsP K d H y C t') (lk : Like t t') (nm : t.Nm) (k : ∀ H', Same H H' → Q (.bl false) H') : rOwn K fEq (spPEq K d C) E true (.ref x) (.ref y) H Q := by
  obtain ⟨dx, fx, ex⟩ := ix.inst
  exact ⟨x, C, dx, fx, .ref C, rfl, ex, eq, nf, pty.ty pc iy, x, y, t, t', rfl, ix, iy, lk, nm, fun H' s => ⟨true, rfl, k H' s⟩⟩
theorem pow_fine {g : Prg} {j : Nat} (h : powF g j = none) : 0 < j ∧ oneF g = none ∧ j * (g.l.getD []).length ≤ 24 := by
  unfold powF at h
  split at h
  · cases h
  · rename_i j0
    cases e : oneF g with
    | some f => rw [e] at h; cases h
    | none =>
      rw [e] at h
      dsimp only at h
      split at h
      · rename_i l
        exact ⟨Nat.pos_of_ne_zero j0, rfl, l⟩
      · cases h
theorem menu_le {j : Nat} (h : j ∈ menuJ) : j ≤ 64 := by
  simp only [menuJ, List.mem_cons, List.not_mem_nil, or_false] at h
  omega
theorem endsOk {c : C6} {H : Hp} {E : XK} {ok : Prop} {r : Option F6} (e : r = none) (h : ok) : Ends6 c H E ok r := by
  subst e
  exact h
theorem manyNo {m : Option Nat} (h : m = none) : m.map F6.many = none := by rw [h]; rfl
theorem opE {r : R2} {ta tb : TE} {σ : L2.St} {H : Hp} {Q : VK} (h : ta σ H fun x H1 => tb σ H1 fun y H2 => r x y H2 Q) : tOp r ta tb σ H Q := h
theorem IsP.instL {K : PySem.W.Frag} {d : D3} {H : Hp} {x C : Addr} {t : Tol} {m : Str} (ip : IsP K d H x C t) (hm : ∀ v1 v2 v3 v4 v5 : V, [(("_names" : Str), v1), ("_parts", v2), ("_given", v3), ("_again", v4), ("_results", v5)].lookup m = none) : ∃ dx fs, H x = some (.ins C dx fs) ∧ fs.lookup m = none := by
  obtain ⟨dx, nt, P, gt, ag, rt, ns, gs, rs, a, _⟩ := ip.ex
  exact ⟨dx, _, a, hm _ _ _ _ _⟩
theorem fitsIf {H : Hp} {v : V} {m : Option Nat} (h : DueV H v (m.map F6.many)) (e : decide (v = .non) = true) : m = none := by
  rw [h.isNon] at e
  cases m with
  | none => rfl
  | some _ => cases e
theorem dueSh {K : PySem.W.Frag} {H : Hp} {u : V} {z : Str} (h : ∀ Q : VK, Q (.str z) H → rReprD K [u] H Q) : ∃ dd : PyData, Dr K H u dd ∧ dd.showable = true ∧ dd.depth ≤ 50 ∧ dd.shown.length ≤ sizeLine ∧ (∀ i, dd = .int i → i.natAbs.log2 < 1920) ∧ dd.shown = z := by
  obtain ⟨v, dd, e, g1, g2, g3, g4, g5, g6⟩ := h (fun x _ => x = .str z) rfl
  cases e
  exact ⟨dd, g1, g2, g3, g4, g5, by injection g6⟩
def spPr (K : PySem.W.Frag) (d : D3) (C : Addr) (TT : List (Addr × Str)) : Sp := fun vs H Q _ => ∃ (S x : Addr) (t : Tol) (j : Nat), vs = [.ref S, .ref x, .int (j : Int)] ∧ j ∈ menuJ ∧ SiteG H S t ∧ IsP K d H x C t ∧ t.Ok ∧ Tabs TT H ∧ ∀ H', ExtN H H' → Tabs TT H' → Q (.bl true) H'
section
variable {P : Program} {w : World} {K : PySem.W.Frag} {mg : Str → Option Value} {base : Heap}
theorem ok_pr {d : D3} {c : C6} {C CS fEq fH cc Pc : Addr} {fdEq fdH : FuncData} {TT : List (Addr × Str)} {f : Addr} {fd : FuncData} (F : FunC K "_law_power_right" sPr f fd cc) (R : RT6 P w K mg base d c C CS fEq fH fdEq fdH)
    (cPd : C8.Cal P w K mg base 2 "_law_power_due" (spPd K) []) (cLp : CalL P w K mg base 9 "_law_power" (spLp K d C c)) (TB : TabB base mg cc Pc)
    (hmT : (Pc, Str.ofString "_law_power_right.<locals>.<lambda>") ∈ TT) (hu2 : ∀ p ∈ TT, p.1 = Pc → p.2 = Str.ofString "_law_power_right.<locals>.<lambda>") : FnG P w K mg base 12 f fd ["_law_site_here", "_law_thing", "_law_at"] (spPr K d C TT) := by
  obtain ⟨T, S, E, G, FH, gH, hbH, mSt, eqC, FEq, hbE, pty, nf, cKp⟩ := R
  obtain ⟨oc, od, kV, doc, pm, an, ct, osl, rfl, lk, hcd⟩ := F.ex
  obtain ⟨ocH, odH, kVH, docH, pmH, anH, cdvH, ctH, oslH, rfl, lkH, hcH⟩ := FH.ex
  obtain ⟨pL, gL, fdL, qL, FL, bL⟩ := G.l.ex
  refine ⟨fun vs H Q E h => ?_, fun A st s H args us vs Q gd hr0 e0 hb rv h => ?_⟩
  · obtain ⟨Sx, x, t, j, rfl, _⟩ := h
    rfl
  · obtain ⟨Sx, x, t, j, rfl, hj, hS, ip, ok, hTb, k⟩ := h
    refine run_ofS (k := 11) (N := NPr) (ps := ["_law_site_here", "_law_thing", "_law_at"]) lk hcd scPr hr0 e0 hb rv rfl fun hr => ?_
    have gd : (A.deeper (PyProof.Rows.envOfC "_law_power_right" (defScope sPr) s.heap.objs.size f (.ref cc))).guards = some [] := gd
    refine ⟨_, PSs.nox (pss_cons (ps_set (i := 3) scPr.nd rfl (Or.inl rfl) (C8.pe_c cPd hr (by decide) rfl (pa_cons (pv 0) (pa_cons (pv 2) pa_nil))))
      (pss_cons (ps_if (pt_cmpR op_ne (pe_callB (call_reprD gd hr.units S) (by rfl) T.brepr (by decide +kernel) (pa_cons (pe_lamcall (T := TT) (TT := THeard6 c) (c := cc) (P := Pc) (Ng := NHeard) (a := "_law_ask") (t := fun E => tCall (spLp K d C c) [] E (tCons (tVar 1) (tCons (tVar 2) tNil))) rfl gH FH.kp lkH hcH hbH scHeard rfl (Or.inl rfl) (heard_gives T E) TB rfl hmT hu2 (k := 9) (hr.mono (by decide)) (lamS_by (sc := defScope sPr) (by decide +kernel)) rfl (fun _ _ _ _ _ => rfl)
            (fun A outer s H E f c2 hr2 => pe_cW cLp hr2 (by decide) rfl (L2passOf (takes_of rfl rfl rfl rfl)) (pa_cons (pv 1) (pa_cons (pv 2) pa_nil)))) pa_nil)) (pe_callB (call_reprD gd hr.units S) (by rfl) T.brepr (by decide +kernel) (pa_cons (pv 3) pa_nil)) (nomark _)) (pss_one (ps_ret pe_bl)) pss_nil)
      (pss_cons (ps_if (pt_cmpR op_notN (pv 3) pe_non (nomark _)) (pss_one (ps_ret pe_bl)) pss_nil)
      (pss_cons (ps_set (i := 4) scPr.nd rfl (Or.inr rfl) (pe_cW (E := C8.E0) cLp hr (by decide) rfl passL (pa_cons (pv 1) (pa_cons (pv 2) pa_nil))))
      (pss_cons (ps_if (PW.pt (pw_or (pt_cmpR op_ne (pe_callB call_len_seq (by rfl) T.blen (by decide +kernel) (pa_cons (NX.pe_propG (pv 4) FL (hr.mono (by decide)) bL pass0 rfl) pa_nil)) (pe_mul (pv 2) (pe_callB call_len_seq (by rfl) T.blen (by decide +kernel) (pa_cons (NX.pe_propG (pv 1) FL (hr.mono (by decide)) bL pass0 rfl) pa_nil))) (nomark _)) (pw_or1 (pt_not (pt_val (C8.pe_c cKp hr (by decide) rfl (pa_cons (pv 4) (pa_cons (pv 1) pa_nil)))))))) (pss_one (ps_ret pe_bl)) pss_nil)
      (pss_cons (ps_setLc (i := 5) (own := [("_law_n", 6)]) (g := gName 6) rfl scPr.nd rfl rfl (sw_true rfl rfl rfl (by decide +kernel)) (pi_range1 (by rfl) T.brange (pa_cons pe_int pa_nil)) (blkOk_by (own := [("_law_n", 6)]) (N := NPr) (sc := defScope sPr) (by decide +kernel)) (fun _ _ _ _ _ => pg_name (i := 6) scPr.nd rfl (Or.inr rfl))
          (fun _ _ _ _ _ => pts_one (show PT _ _ (tTest (tOp (fun x y H Q => y = V.non ∧ Q (.bl (decide (x = V.non))) H) (tLam TT (THeard6 c) (fun E => tMeth C "straight" (spSt K d C c) [.int 0] E (tVar 1) (tCons (tMul (tVar 2) (tVar 6)) tNil))) (tC .non))) from
            pt_cmpR op_isN (pe_lamcall (T := TT) (TT := THeard6 c) (c := cc) (P := Pc) (Ng := NHeard) (a := "_law_ask") rfl gH FH.kp lkH hcH hbH scHeard rfl (Or.inl rfl) (heard_gives T E) TB rfl hmT hu2 (k := 9) (hr.mono (by decide)) (lamS_by (by rfl)) rfl (fun _ _ _ _ _ => rfl)
              (fun A outer s H E f c2 hr2 => pe_mW mSt hr2 (by decide) (L2passOf (takes_of rfl rfl rfl rfl)) (pv 1) (pa_cons (pe_mul (pv 2) (pv 6)) pa_nil))) pe_non (nomark _))) (fun _ _ _ _ _ => pv 6))
      (pss_one (ps_ret (pe_cmpR (op_eqD hr.units) (pe_lc (own := [("_law_n", 6)]) (g := gName 6) rfl scPr.nd (pi_list (pv 5)) (blkOk_by (own := [("_law_n", 6)]) (N := NPr) (sc := defScope sPr) (by decide +kernel)) (fun _ _ _ _ _ => pg_name (i := 6) scPr.nd rfl (Or.inl rfl))
          (fun _ _ _ _ _ => pts_one (show PT _ _ (tTest (tOp (rOwn K fEq (spPEq K d C) C8.E0 true) (tMeth C "straight" (spSt K d C c) [.int 0] C8.E0 (tVar 4) (tCons (tVar 6) tNil)) (tMeth C "straight" (spSt K d C c) [.int 0] C8.E0 (tVar 1) (tCons (tMul (tVar 2) (tVar 6)) tNil)))) from pt_cmpR (op_neOwn (E := C8.E0) (n := 5) FEq hbE pass0 (hr.mono (by decide))) (pe_mW (E := C8.E0) mSt hr (by decide) passL (pv 4) (pa_cons (pv 6) pa_nil)) (pe_mW (E := C8.E0) mSt hr (by decide) passL (pv 1) (pa_cons (pe_mul (pv 2) (pv 6)) pa_nil)) (nomark _))) (fun _ _ _ _ _ => pv 6)) (pe_lst pa_nil) (nomark _)))))))))), ?_⟩
    refine ⟨_, rfl, _, rfl, Sx, t, j, rfl, hS, ok, fun u H1 s1 du => ?_⟩
    have hS1 := hS.same s1
    have j64 := menu_le hj
    have ip1 := ip.same s1
    have hT1 := hTb.ext s1
    obtain ⟨z, hz⟩ := dueText (K := K) (H := H1) (r := powF t.g j) smO_pow
    refine ⟨hT1, fun H2 e2 hT2 R hR => ?_⟩
    refine ⟨_, rfl, _, rfl, x, t, j, rfl, hj, ip1.ext e2, ok, askH hR fun v H3 s3 dv => ?_⟩
    have z23 := e2.trans (.of s3)
    obtain ⟨da, f1, f2, f3, f4, f5, f6⟩ := dueSh (hz H3 z23 v dv)
    obtain ⟨db, g1, g2, g3, g4, g5, g6⟩ := dueSh (hz H3 z23 u (du.ext z23))
    refine ⟨v, da, rfl, f1, f2, f3, f4, f5, _, rfl, u, db, rfl, g1, g2, g3, g4, g5, rfl, _, rfl, ite2 (fun hne => absurd hne (by rw [f6, g6]; simp)) (fun _ => ?_)⟩
    clear f1 f2 f3 f4 f5 f6 g1 g2 g3 g4 g5 g6
    have hT3 := hT2.ext s3
    have ip3 := (ip1.ext e2).same s3
    have e03 := (ExtN.of s1).trans z23
    have du3 := du.ext z23
    clear hz dv hR R
    refine ⟨_, rfl, rfl, _, rfl, ?_⟩
    rw [du3.isNon]
    cases hp : powF t.g j with
    | some fa => exact iteT (k H3 e03 hT3)
    | none =>
      obtain ⟨j0, one, jl⟩ := pow_fine hp
      have M := made_pow ok one j0 jl
      obtain ⟨⟨ls, hl⟩, hs⟩ := oneF_none one
      refine iteF ⟨_, rfl, _, rfl, x, t, j, rfl, hj, ip3, ok, ?_⟩
      rw [hp]
      intro y H4 s4 iy
      have hT4 := hT3.ext s4
      have e04 := e03.trans (.of s4)
      have ip4 := ip3.same s4
      clear du3 hp ip3 hT3 e03
      obtain ⟨dx, fx, ex⟩ := ip4.inst
      obtain ⟨dy, fy, ey⟩ := iy.inst
      refine ⟨_, rfl, y, C, dy, fy, pL, rfl, ey, G.cl.cl, qL, y, t.with_ (t.g.pow j), rfl, iy, fun v1 a1 => ?_⟩
      obtain ⟨p1, rfl, xs1, q1, al1⟩ := (show PartA K d H4 v1 (some (rep j (t.g.l.getD []))) from a1)
      refine ⟨p1, _, rfl, .inr q1, ?_⟩
      refine ⟨_, rfl, _, rfl, x, C, dx, fx, pL, rfl, ex, G.cl.cl, qL, x, t, rfl, ip4, fun v2 a2 => ?_⟩
      have a2 : PartA K d H4 v2 t.g.l := a2
      rw [hl] at a2
      obtain ⟨p2, rfl, xs2, q2, al2⟩ := a2
      have e12 : ((xs1.map V.ref).length : Int) = (j : Int) * ((xs2.map V.ref).length : Int) := by
        rw [List.length_map, List.length_map, al1.1, al2.1, rep_len, hl]
        exact Int.natCast_mul _ _
      refine ⟨p2, _, rfl, .inr q2, _, _, rfl, rfl, ⟨by omega, by omega⟩, rfl, _, rfl, ?_⟩
      rw [e12]
      refine ite2 (fun hne => absurd hne (by simp)) (fun _ => ?_)
      clear q1 q2 al1 al2 e12
      refine ⟨_, rfl, _, rfl, y, x, t.with_ (t.g.pow j), t, rfl, iy, ip4, fun _ => Iff.rfl, rfl, fun _ => Iff.rfl, M.words, M.l1, ok.ag.nd, fun H5 s5 => ⟨true, rfl, iteF ?_⟩⟩
      have hT5 := hT4.ext s5
      have e05 := e04.trans (.of s5)
      have ip5 := ip4.same s5
      have iy5 := iy.same s5
      clear iy ip4 hT4 e04 ex ey
      refine sqA (lcFew (TT := TT) (fun n => (t.g.flat (j * n) 0).many = none) ?_ hT5 (fun n H6 R6 n4 e6 t6 kk => ?_) (fun D ns H6 gD hns l4 e6 t6 => ?_))
      · exact (by decide : 6 < 7)
      · refine ⟨t6, fun H7 e7 t7 R7 hR7 => ?_⟩
        obtain ⟨dx, fx, ex, lx⟩ := (ip5.ext (e6.trans e7)).instL (m := "straight") (fun _ _ _ _ _ => rfl)
        refine ⟨_, rfl, x, dx, fx, rfl, ex, lx, _, rfl, _, rfl, (j : Int), (n : Int), rfl, rfl, ⟨by omega, by omega⟩, ?_⟩
        rw [← Int.natCast_mul]
        refine ⟨x, t, j * n, 0, rfl, ip5.ext (e6.trans e7), ok, fun _ => by rw [hl]; rfl, fun h => absurd h (Nat.lt_irrefl _), askH hR7 fun v H8 s8 dv => ?_⟩
        exact ⟨rfl, _, rfl, kk _ H8 (e7.trans (.of s8)) (t7.ext s8) (fitsIf dv)⟩
      · refine opE (lcOf ⟨_, rfl, D, rfl, ⟨_, SqL.of gD⟩, ?_⟩)
        refine lcNone gD (fun n hn H7 R7 s7 kk => ?_) (fun L H7 gL s7 => ?_)
        · obtain ⟨n4, hm⟩ := hns n hn
          have e07 := e6.trans (.of s7)
          obtain ⟨dy, fy, ey, ly⟩ := (iy5.ext e07).instL (m := "straight") (fun _ _ _ _ _ => rfl)
          refine ⟨_, rfl, y, dy, fy, rfl, ey, ly, _, rfl, y, t.with_ (t.g.pow j), n, 0, rfl, iy5.ext e07, M.ok, fun _ => M.ls, fun h => absurd h (Nat.lt_irrefl _), endsOk (manyNo ((congrArg Prg.many (M.flat n)).trans hm)) fun z1 H8 s8 i1 => ?_⟩
          have e08 := e07.trans (.of s8)
          obtain ⟨dx, fx, ex, lx⟩ := (ip5.ext e08).instL (m := "straight") (fun _ _ _ _ _ => rfl)
          refine ⟨_, rfl, x, dx, fx, rfl, ex, lx, _, rfl, _, rfl, (j : Int), (n : Int), rfl, rfl, ⟨by omega, by omega⟩, ?_⟩
          rw [← Int.natCast_mul]
          refine ⟨x, t, j * n, 0, rfl, ip5.ext e08, ok, fun _ => by rw [hl]; rfl, fun h => absurd h (Nat.lt_irrefl _), endsOk (manyNo hm) fun z2 H9 s9 i2 => ?_⟩
          refine neSame G.cl eqC pty nf (i1.same s9) i2 ⟨M.flat n, rfl, fun _ => Iff.rfl, fun _ => Iff.rfl⟩ ⟨ok.nms.us, ok.nms.rs, ok.nms.nd⟩ fun H10 s10 => ⟨_, rfl, kk H10 (s8.trans (s9.trans s10))⟩
        · refine ⟨by show 0 ≤ sizeLine; decide, fun L2 hL2 => ⟨_, _, .lst (SqL.of (Same.new hL2 _ _ gL)) .nil, .lst (SqL.of upd_same) .nil, rfl, rfl, ?_⟩⟩
          have z := e05.trans (e6.trans (.of (s7.trans (Same.new (o := HO.lst []) hL2))))
          exact k _ z ((t6.ext s7).ext (Same.new hL2))
end
end K06

set_option Elab.async false
set_option linter.all false
set_option maxRecDepth 100000
set_option maxHeartbeats 8000000
/-! What the law asks of unrolled loops. -/
namespace K06
open PySem L2 NX NU LamX NZ
open PyProof.Rows (sortedS)
abbrev sUr : Stmt := top 90
abbrev NUr : List Str := ["_law_site_here", "_law_thing", "_law_at", "_law_due", "_law_other", "_law_few", "_law_n"]
theorem scUr : FnScope NUr ["_law_site_here", "_law_thing", "_law_at"] (defScope sUr) := ⟨rfl, rfl, rfl, by decide +kernel, rfl, by decide +kernel, by decide +kernel⟩
/-- such a method, called by keywords -/
structure MetK (P : Program) (w : World) (K : PySem.W.Frag) (mg : Str → Option Value) (base : Heap) (k : Nat) (C : Addr) (m : Str) (ks : List Str) (sp : Sp) : Prop where
  ex : ∃ (f : Addr) (fd : FuncData) (ps : List Str), Cls K C ∧ Meth K C m f ∧ FnOk P w K mg base (L2N.CX P w) k f fd ps sp ∧ NZ.SelfKw fd ps ks
theorem pe_mK {X : Cx} {k j : Nat} {C : Addr} {m : Str} {ks : List Str} {sp : Sp} {E : XK} {o : Expr} {kws : List Keyword} {ta : TE} {t : TA} {apos pos : Pos} {pl : Sem Bool} (c : MetK X.prog X.w X.K X.mg X.base k C m ks sp) (hr : Room j X.A) (hk : k ≤ j) (hx : Passes (L2.CX X.prog X.w) X E) (he : PE X o ta) (ha : PK X kws t)
    (named : (backToKw pos (keywordEach kws X.env)).all (·.1.isSome) = true := by rfl) (which : (backToKw pos (keywordEach kws X.env)).filterMap (·.1) = ks := by rfl)
    (plain : ((backTo pos (starEach [] X.env)).any (·.1) || (backToKw pos (keywordEach kws X.env)).any (·.1.isNone)) = false := by rfl)
    (how : eval (.Call (.Attribute o m apos) [] kws pos) X.env = (do
      let ov ← eval o X.env
      standAt apos.atName
      let (f, first) ← holding [ov] (getMethod ov m pl)
      callWith pos f first (backTo pos (starEach [] X.env)) (backToKw pos (keywordEach kws X.env))) := by rfl) :
    PE X (.Call (.Attribute o m apos) [] kws pos) (tMeth C m sp [] E ta t) := by
  obtain ⟨f, fd, ps, hc, hm, F, b⟩ := c.ex
  exact NZ.pe_methKw (pl := pl) he hc hm (NN.fnOk_less F) (hr.mono hk) b hx ha named which plain how
/-- deeds are compared by their own equality -/
structure AEq6 (P : Program) (w : World) (K : PySem.W.Frag) (mg : Str → Option Value) (base : Heap) (d : D3) : Prop where
  ex : ∃ (CD fD : Addr) (fdD : FuncData), FnOk P w K mg base CX0 1 fD fdD ["self", "other"] (spDEq K d CD) ∧ NX.EqC K d.u fD ∧ NX.EqC K d.m fD ∧ NX.EqC K d.d fD ∧ Binds K fdD ["self", "other"] []
theorem AEq6.at {X : Cx} {d : D3} (h : AEq6 X.prog X.w X.K X.mg X.base d) : EqG X 1 (DAct d) := by
  obtain ⟨CD, fD, fdD, F, hu, hm, hd, hb⟩ := h.ex
  exact eqG_act F hu hm hd hb
theorem partTup {K : PySem.W.Frag} {d : D3} {H : Hp} {v u : V} {as : List Act} (h : PartA K d H v (some as)) (k : PartA K d H u (some as)) : DTup K (DAct d) v u H := by
  obtain ⟨p, rfl, xs, e, a⟩ := h
  obtain ⟨q, rfl, ys, f, b⟩ := k
  exact ⟨p, q, _, _, rfl, rfl, e, f, act_prs a b⟩
theorem Cn.int {K : PySem.W.Frag} {H : Hp} {v : V} {j : Nat} (h : Cn K H v (some j)) : v = .int (j : Int) := by
  cases h with
  | yes n e => exact e
theorem unr_fine {g : Prg} {v : V} {r : Option Nat} (h : unrF g v r = none) : ∃ j, r = some j ∧ oneF g = none ∧ g.a.length + j * (g.l.getD []).length + g.h.length ≤ 200 := by
  cases r with
  | none => cases h
  | some j =>
    cases e : oneF g with
    | some f => unfold unrF at h; rw [e] at h; cases h
    | none =>
      unfold unrF at h
      rw [e] at h
      dsimp only at h
      split at h
      · rename_i l
        exact ⟨j, rfl, rfl, l⟩
      · cases h
theorem smO_unr {K : PySem.W.Frag} {H : Hp} {g : Prg} {v : V} {r : Option Nat} {dv : PyData} (sd : SmD K H v dv) : SmO K H (unrF g v r) := fun f e => by
  cases r with
  | none => cases e; exact ⟨_, sd⟩
  | some j =>
    unfold unrF at e
    cases h : oneF g with
    | some f2 =>
      rw [h] at e
      exact smO_one f (h.trans e)
    | none =>
      rw [h] at e
      dsimp only at e
      split at e
      · cases e
      · cases e; exact ⟨_, sm_int 200 (by decide)⟩
def spUr (K : PySem.W.Frag) (d : D3) (C : Addr) (TT : List (Addr × Str)) : Sp := fun vs H Q _ => ∃ (S x : Addr) (t : Tol) (v : V) (r : Option Nat), vs = [.ref S, .ref x, v] ∧ SiteG H S t ∧ IsP K d H x C t ∧ t.Ok ∧ Cn K H v r ∧ (∃ dv, SmD K H v dv) ∧ Tabs TT H ∧ ∀ H', ExtN H H' → Tabs TT H' → Q (.bl true) H'
section
variable {P : Program} {w : World} {K : PySem.W.Frag} {mg : Str → Option Value} {base : Heap}
theorem ok_ur {d : D3} {c : C6} {C CS fEq fH cc Pc : Addr} {fdEq fdH : FuncData} {TT : List (Addr × Str)} {f : Addr} {fd : FuncData} (F : FunC K "_law_unrolled_right" sUr f fd cc) (R : RT6 P w K mg base d c C CS fEq fH fdEq fdH)
    (AE : AEq6 P w K mg base d) (cUd : C8.Cal P w K mg base 2 "_law_unrolled_due" (spUd K) []) (mUn : MetW P w K mg base 8 C "unrolled" (spUn K d C c) []) (kUn : MetK P w K mg base 8 C "unrolled" ["j"] (spUn K d C c)) (TB : TabB base mg cc Pc)
    (hmT : (Pc, Str.ofString "_law_unrolled_right.<locals>.<lambda>") ∈ TT) (hu2 : ∀ p ∈ TT, p.1 = Pc → p.2 = Str.ofString "_law_unrolled_right.<locals>.<lambda>") : FnG P w K mg base 12 f fd ["_law_site_here", "_law_thing", "_law_at"] (spUr K d C TT) := by
  obtain ⟨T, S, E, G, FH, gH, hbH, mSt, eqC, FEq, hbE, pty, nf, cKp⟩ := R
  obtain ⟨oc, od, kV, doc, pm, an, ct, osl, rfl, lk, hcd⟩ := F.ex
  obtain ⟨ocH, odH, kVH, docH, pmH, anH, cdvH, ctH, oslH, rfl, lkH, hcH⟩ := FH.ex
  obtain ⟨pL, gL, fdL, qL, FL, bL⟩ := G.l.ex
  obtain ⟨pB, gB, fdB, qB, FB, bB⟩ := G.h.ex
  refine ⟨fun vs H Q E h => ?_, fun A st s H args us vs Q gd hr0 e0 hb rv h => ?_⟩
  · obtain ⟨Sx, x, t, v, r, rfl, _⟩ := h
    rfl
  · obtain ⟨Sx, x, t, v0, r, rfl, hS, ip, ok, cn, ⟨dv0, sd⟩, hTb, k⟩ := h
    refine run_ofS (k := 11) (N := NUr) (ps := ["_law_site_here", "_law_thing", "_law_at"]) lk hcd scUr hr0 e0 hb rv rfl fun hr => ?_
    have gd : (A.deeper (PyProof.Rows.envOfC "_law_unrolled_right" (defScope sUr) s.heap.objs.size f (.ref cc))).guards = some [] := gd
    refine ⟨_, PSs.nox (pss_cons (ps_set (i := 3) scUr.nd rfl (Or.inl rfl) (C8.pe_c cUd hr (by decide) rfl (pa_cons (pv 0) (pa_cons (pv 2) pa_nil))))
      (pss_cons (ps_if (pt_cmpR op_ne (pe_callB (call_reprD gd hr.units S) (by rfl) T.brepr (by decide +kernel) (pa_cons (pe_lamcall (T := TT) (TT := THeard6 c) (c := cc) (P := Pc) (Ng := NHeard) (a := "_law_ask") (t := fun E => tMeth C "unrolled" (spUn K d C c) [] E (tVar 1) (tCons (tVar 2) tNil)) rfl gH FH.kp lkH hcH hbH scHeard rfl (Or.inl rfl) (heard_gives T E) TB rfl hmT hu2 (k := 9) (hr.mono (by decide)) (lamS_by (sc := defScope sUr) (by decide +kernel)) rfl (fun _ _ _ _ _ => rfl)
            (fun A outer s H E f c2 hr2 => pe_mW mUn hr2 (by decide) (L2passOf (takes_of rfl rfl rfl rfl)) (pv 1) (pa_cons (pv 2) pa_nil))) pa_nil)) (pe_callB (call_reprD gd hr.units S) (by rfl) T.brepr (by decide +kernel) (pa_cons (pv 3) pa_nil)) (nomark _)) (pss_one (ps_ret pe_bl)) pss_nil)
      (pss_cons (ps_if (pt_cmpR op_notN (pv 3) pe_non (nomark _)) (pss_one (ps_ret pe_bl)) pss_nil)
      (pss_cons (ps_set (i := 4) scUr.nd rfl (Or.inr rfl) (pe_mK (E := C8.E0) kUn hr (by decide) passL (pv 1) (pk_cons (pv 2) pk_nil)))
      (pss_cons (ps_if (PW.pt (pw_or (pt_cmpR (op_neG (NZ.rnG_tup (monK_act d).mon AE.at) (hr.mono (by decide))) (NX.pe_propG (pv 4) FL (hr.mono (by decide)) bL pass0 rfl) (NX.pe_propG (pv 1) FL (hr.mono (by decide)) bL pass0 rfl) (nomark _)) (pw_or1 (pt_cmpR (op_neG (NZ.rnG_tup (monK_act d).mon AE.at) (hr.mono (by decide))) (NX.pe_propG (pv 4) FB (hr.mono (by decide)) bB pass0 rfl) (NX.pe_propG (pv 1) FB (hr.mono (by decide)) bB pass0 rfl) (nomark _))))) (pss_one (ps_ret pe_bl)) pss_nil)
      (pss_cons (ps_if (pt_not (pt_val (C8.pe_c cKp hr (by decide) rfl (pa_cons (pv 4) (pa_cons (pv 1) pa_nil))))) (pss_one (ps_ret pe_bl)) pss_nil)
      (pss_cons (ps_setLc (i := 5) (own := [("_law_n", 6)]) (g := gName 6) rfl scUr.nd rfl rfl (sw_true rfl rfl rfl (by decide +kernel)) (pi_range1 (by rfl) T.brange (pa_cons pe_int pa_nil)) (blkOk_by (own := [("_law_n", 6)]) (N := NUr) (sc := defScope sUr) (by decide +kernel)) (fun _ _ _ _ _ => pg_name (i := 6) scUr.nd rfl (Or.inr rfl))
          (fun _ _ _ _ _ => pts_one (show PT _ _ (tTest (tOp (fun x y H Q => y = V.non ∧ Q (.bl (decide (x = V.non))) H) (tLam TT (THeard6 c) (fun E => tMeth C "straight" (spSt K d C c) [.int 0] E (tVar 1) (tCons (tAdd (tVar 6) (tVar 2)) tNil))) (tC .non))) from
            pt_cmpR op_isN (pe_lamcall (T := TT) (TT := THeard6 c) (c := cc) (P := Pc) (Ng := NHeard) (a := "_law_ask") rfl gH FH.kp lkH hcH hbH scHeard rfl (Or.inl rfl) (heard_gives T E) TB rfl hmT hu2 (k := 9) (hr.mono (by decide)) (lamS_by (by rfl)) rfl (fun _ _ _ _ _ => rfl)
              (fun A outer s H E f c2 hr2 => pe_mW mSt hr2 (by decide) (L2passOf (takes_of rfl rfl rfl rfl)) (pv 1) (pa_cons (pe_add (pv 6) (pv 2)) pa_nil))) pe_non (nomark _))) (fun _ _ _ _ _ => pv 6))
      (pss_one (ps_ret (pe_cmpR (op_eqD hr.units) (pe_lc (own := [("_law_n", 6)]) (g := gName 6) rfl scUr.nd (pi_list (pv 5)) (blkOk_by (own := [("_law_n", 6)]) (N := NUr) (sc := defScope sUr) (by decide +kernel)) (fun _ _ _ _ _ => pg_name (i := 6) scUr.nd rfl (Or.inl rfl))
          (fun _ _ _ _ _ => pts_one (show PT _ _ (tTest (tOp (rOwn K fEq (spPEq K d C) C8.E0 true) (tMeth C "straight" (spSt K d C c) [.int 0] C8.E0 (tVar 4) (tCons (tVar 6) tNil)) (tMeth C "straight" (spSt K d C c) [.int 0] C8.E0 (tVar 1) (tCons (tAdd (tVar 6) (tVar 2)) tNil)))) from pt_cmpR (op_neOwn (E := C8.E0) (n := 5) FEq hbE pass0 (hr.mono (by decide))) (pe_mW (E := C8.E0) mSt hr (by decide) passL (pv 4) (pa_cons (pv 6) pa_nil)) (pe_mW (E := C8.E0) mSt hr (by decide) passL (pv 1) (pa_cons (pe_add (pv 6) (pv 2)) pa_nil)) (nomark _))) (fun _ _ _ _ _ => pv 6)) (pe_lst pa_nil) (nomark _))))))))))), ?_⟩
    refine ⟨_, rfl, _, rfl, Sx, t, v0, r, rfl, hS, ok, cn, fun u H1 s1 du => ?_⟩
    have hS1 := hS.same s1
    have ip1 := ip.same s1
    have cn1 := cn.same s1
    have hT1 := hTb.ext s1
    obtain ⟨z, hz⟩ := dueText (K := K) (H := H1) (r := unrF t.g v0 r) (smO_unr (sd.same s1))
    refine ⟨hT1, fun H2 e2 hT2 R hR => ?_⟩
    obtain ⟨dx, fx, ex, lx⟩ := (ip1.ext e2).instL (m := "unrolled") (fun _ _ _ _ _ => rfl)
    refine ⟨_, rfl, x, dx, fx, rfl, ex, lx, _, rfl, x, t, v0, r, rfl, ip1.ext e2, ok, cn1.ext e2, askH hR fun v H3 s3 dv => ?_⟩
    have z23 := e2.trans (.of s3)
    obtain ⟨da, f1, f2, f3, f4, f5, f6⟩ := dueSh (hz H3 z23 v dv)
    obtain ⟨db, g1, g2, g3, g4, g5, g6⟩ := dueSh (hz H3 z23 u (du.ext z23))
    refine ⟨v, da, rfl, f1, f2, f3, f4, f5, _, rfl, u, db, rfl, g1, g2, g3, g4, g5, rfl, _, rfl, ite2 (fun hne => absurd hne (by rw [f6, g6]; simp)) (fun _ => ?_)⟩
    clear f1 f2 f3 f4 f5 f6 g1 g2 g3 g4 g5 g6
    have hT3 := hT2.ext s3
    have ip3 := (ip1.ext e2).same s3
    have cn3 := (cn1.ext e2).same s3
    have e03 := (ExtN.of s1).trans z23
    have du3 := du.ext z23
    clear hz dv hR R ex lx
    refine ⟨_, rfl, rfl, _, rfl, ?_⟩
    rw [du3.isNon]
    cases hp : unrF t.g v0 r with
    | some fa => exact iteT (k H3 e03 hT3)
    | none =>
      obtain ⟨j, rfl, one, jl⟩ := unr_fine hp
      obtain rfl := cn.int
      have M := made_unr ok one jl
      obtain ⟨⟨ls, hl⟩, hs⟩ := oneF_none one
      obtain ⟨dx, fx, ex, lx⟩ := ip3.instL (m := "unrolled") (fun _ _ _ _ _ => rfl)
      refine iteF ⟨_, rfl, x, dx, fx, rfl, ex, lx, _, rfl, x, t, .int (j : Int), some j, rfl, ip3, ok, cn3, endsOk hp fun y H4 s4 iy => ?_⟩
      have iy : IsP K d H4 y C (t.with_ (t.g.unr j)) := iy
      have hT4 := hT3.ext s4
      have e04 := e03.trans (.of s4)
      have ip4 := ip3.same s4
      clear du3 hp ip3 hT3 e03 cn3 ex lx
      obtain ⟨dx, fx, ex⟩ := ip4.inst
      obtain ⟨dy, fy, ey⟩ := iy.inst
      refine ⟨_, rfl, y, C, dy, fy, pL, rfl, ey, G.cl.cl, qL, y, t.with_ (t.g.unr j), rfl, iy, fun v1 a1 => ?_⟩
      refine ⟨_, rfl, x, C, dx, fx, pL, rfl, ex, G.cl.cl, qL, x, t, rfl, ip4, fun v2 a2 => ?_⟩
      have a2 : PartA K d H4 v2 t.g.l := a2
      have a1 : PartA K d H4 v1 (some (t.g.l.getD [])) := a1
      rw [hl] at a1 a2
      refine ⟨partTup a1 a2, fun H5 s5 => ⟨_, rfl, iteF ?_⟩⟩
      have s5 : Same H4 H5 := s5
      refine ⟨_, rfl, y, C, dy, fy, pB, rfl, s5 _ _ ey, G.cl.cl, qB, y, t.with_ (t.g.unr j), rfl, iy.same s5, fun v3 a3 => ?_⟩
      refine ⟨_, rfl, x, C, dx, fx, pB, rfl, s5 _ _ ex, G.cl.cl, qB, x, t, rfl, ip4.same s5, fun v4 a4 => ?_⟩
      refine ⟨partTup (show PartA K d H5 v3 (some t.g.h) from a3) (show PartA K d H5 v4 (some t.g.h) from a4), fun H6 s6 => ⟨_, rfl, iteF ?_⟩⟩
      have s46 := s5.trans s6
      clear a1 a2 a3 a4
      refine ⟨_, rfl, _, rfl, y, x, t.with_ (t.g.unr j), t, rfl, iy.same s46, ip4.same s46, fun _ => Iff.rfl, rfl, fun _ => Iff.rfl, M.words, M.l1, ok.ag.nd, fun H7 s7 => ⟨true, rfl, iteF ?_⟩⟩
      have s47 := s46.trans s7
      have hT5 := hT4.ext s47
      have e05 := e04.trans (.of s47)
      have ip5 := ip4.same s47
      have iy5 := iy.same s47
      clear iy ip4 hT4 e04 ex ey
      refine sqA (lcFew (TT := TT) (fun n => (t.g.flat (n + j) 0).many = none) ?_ hT5 (fun n H6 R6 n4 e6 t6 kk => ?_) (fun D ns H6 gD hns l4 e6 t6 => ?_))
      · exact (by decide : 6 < 7)
      · refine ⟨t6, fun H7 e7 t7 R7 hR7 => ?_⟩
        obtain ⟨dx, fx, ex, lx⟩ := (ip5.ext (e6.trans e7)).instL (m := "straight") (fun _ _ _ _ _ => rfl)
        refine ⟨_, rfl, x, dx, fx, rfl, ex, lx, _, rfl, _, rfl, (n : Int), (j : Int), rfl, rfl, ?_⟩
        refine ⟨x, t, n + j, 0, rfl, ip5.ext (e6.trans e7), ok, fun _ => by rw [hl]; rfl, fun h => absurd h (Nat.lt_irrefl _), askH hR7 fun v H8 s8 dv => ?_⟩
        exact ⟨rfl, _, rfl, kk _ H8 (e7.trans (.of s8)) (t7.ext s8) (fitsIf dv)⟩
      · refine opE (lcOf ⟨_, rfl, D, rfl, ⟨_, SqL.of gD⟩, ?_⟩)
        refine lcNone gD (fun n hn H7 R7 s7 kk => ?_) (fun L H7 gL s7 => ?_)
        · obtain ⟨n4, hm⟩ := hns n hn
          have e07 := e6.trans (.of s7)
          obtain ⟨dy, fy, ey, ly⟩ := (iy5.ext e07).instL (m := "straight") (fun _ _ _ _ _ => rfl)
          refine ⟨_, rfl, y, dy, fy, rfl, ey, ly, _, rfl, y, t.with_ (t.g.unr j), n, 0, rfl, iy5.ext e07, M.ok, fun _ => M.ls, fun h => absurd h (Nat.lt_irrefl _), endsOk (manyNo ((congrArg Prg.many (M.flat n)).trans hm)) fun z1 H8 s8 i1 => ?_⟩
          have e08 := e07.trans (.of s8)
          obtain ⟨dx, fx, ex, lx⟩ := (ip5.ext e08).instL (m := "straight") (fun _ _ _ _ _ => rfl)
          refine ⟨_, rfl, x, dx, fx, rfl, ex, lx, _, rfl, _, rfl, (n : Int), (j : Int), rfl, rfl, ?_⟩
          refine ⟨x, t, n + j, 0, rfl, ip5.ext e08, ok, fun _ => by rw [hl]; rfl, fun h => absurd h (Nat.lt_irrefl _), endsOk (manyNo hm) fun z2 H9 s9 i2 => ?_⟩
          refine neSame G.cl eqC pty nf (i1.same s9) i2 ⟨M.flat n, rfl, fun _ => Iff.rfl, fun _ => Iff.rfl⟩ ⟨ok.nms.us, ok.nms.rs, ok.nms.nd⟩ fun H10 s10 => ⟨_, rfl, kk H10 (s8.trans (s9.trans s10))⟩
        · refine ⟨by show 0 ≤ sizeLine; decide, fun L2 hL2 => ⟨_, _, .lst (SqL.of (Same.new hL2 _ _ gL)) .nil, .lst (SqL.of upd_same) .nil, rfl, rfl, ?_⟩⟩
          have z := e05.trans (e6.trans (.of (s7.trans (Same.new (o := HO.lst []) hL2))))
          exact k _ z ((t6.ext s7).ext (Same.new hL2))
end
end K06

set_option Elab.async false
set_option linter.all false
set_option maxRecDepth 100000
set_option maxHeartbeats 8000000
/-! What the law asks of turned loops. -/
namespace K06
open PySem L2 NX NU LamX NZ
open PyProof.Rows (sortedS)
abbrev sTr : Stmt := top 91
abbrev NTr : List Str := ["_law_site_here", "_law_thing", "_law_at", "_law_due", "_law_other", "_law_body", "_law_few", "_law_n"]
theorem scTr : FnScope NTr ["_law_site_here", "_law_thing", "_law_at"] (defScope sTr) := ⟨rfl, rfl, rfl, by decide +kernel, rfl, by decide +kernel, by decide +kernel⟩
theorem tur_fine {g : Prg} {v : V} {r : Option Nat} (h : turF g v r = none) : ∃ j, r = some j ∧ oneF g = none ∧ j ≤ (g.l.getD []).length ∧ (g.tur j).many = none := by
  cases r with
  | none => cases h
  | some j =>
    unfold turF at h
    dsimp only at h
    split at h
    · cases h
    · rename_i nl
      cases e : oneF g with
      | some f => rw [e] at h; cases h
      | none =>
        rw [e] at h
        dsimp only at h
        obtain ⟨⟨ls, hl⟩, hs⟩ := oneF_none e
        refine ⟨j, rfl, rfl, ?_, ?_⟩
        · rw [hl] at nl ⊢
          exact Nat.le_of_not_lt fun z => nl ⟨rfl, z⟩
        · cases hm : (g.tur j).many with
          | none => rfl
          | some m => rw [hm] at h; cases h
theorem smO_many {K : PySem.W.Frag} {H : Hp} {g : Prg} : SmO K H (g.many.map F6.many) := fun f e => by
  unfold Prg.many at e
  repeat' split at e
  all_goals first
    | cases e; exact ⟨_, sm_int 200 (by decide)⟩
    | cases e; exact ⟨_, sm_int 24 (by decide)⟩
    | cases e
theorem smO_tur {K : PySem.W.Frag} {H : Hp} {g : Prg} {v : V} {r : Option Nat} {dv : PyData} (sd : SmD K H v dv) : SmO K H (turF g v r) := fun f e => by
  cases r with
  | none => cases e; exact ⟨_, sd⟩
  | some j =>
    unfold turF at e
    dsimp only at e
    split at e
    · cases e; exact ⟨_, sd⟩
    · cases h : oneF g with
      | some f2 =>
        rw [h] at e
        exact smO_one f (h.trans e)
      | none =>
        rw [h] at e
        exact smO_many f e
theorem prsOf {d : D3} {H : Hp} {xs ys : List Addr} {as : List Act} {vs : List V} (h : AllAt d H xs as) (k : AllAt d H ys as) (e : vs = ys.map V.ref) : Prs (DAct d) (xs.map V.ref) vs H := e ▸ act_prs h k
def spTr (K : PySem.W.Frag) (d : D3) (C : Addr) (TT : List (Addr × Str)) : Sp := fun vs H Q _ => ∃ (S x : Addr) (t : Tol) (v : V) (r : Option Nat), vs = [.ref S, .ref x, v] ∧ SiteG H S t ∧ IsP K d H x C t ∧ t.Ok ∧ Cn K H v r ∧ (∃ dv, SmD K H v dv) ∧ Tabs TT H ∧ ∀ H', ExtN H H' → Tabs TT H' → Q (.bl true) H'
section
variable {P : Program} {w : World} {K : PySem.W.Frag} {mg : Str → Option Value} {base : Heap}
theorem ok_tr {d : D3} {c : C6} {C CS fEq fH cc Pc : Addr} {fdEq fdH : FuncData} {TT : List (Addr × Str)} {f : Addr} {fd : FuncData} (F : FunC K "_law_turned_right" sTr f fd cc) (R : RT6 P w K mg base d c C CS fEq fH fdEq fdH)
    (AE : AEq6 P w K mg base d) (cTd : C8.Cal P w K mg base 2 "_law_turned_due" (spTd K) []) (mTu : MetW P w K mg base 8 C "turned" (spTu K d C c) []) (kTu : MetK P w K mg base 8 C "turned" ["j"] (spTu K d C c)) (TB : TabB base mg cc Pc)
    (hmT : (Pc, Str.ofString "_law_turned_right.<locals>.<lambda>") ∈ TT) (hu2 : ∀ p ∈ TT, p.1 = Pc → p.2 = Str.ofString "_law_turned_right.<locals>.<lambda>") : FnG P w K mg base 12 f fd ["_law_site_here", "_law_thing", "_law_at"] (spTr K d C TT) := by
  obtain ⟨T, S, E, G, FH, gH, hbH, mSt, eqC, FEq, hbE, pty, nf, cKp⟩ := R
  obtain ⟨oc, od, kV, doc, pm, an, ct, osl, rfl, lk, hcd⟩ := F.ex
  obtain ⟨ocH, odH, kVH, docH, pmH, anH, cdvH, ctH, oslH, rfl, lkH, hcH⟩ := FH.ex
  obtain ⟨pL, gL, fdL, qL, FL, bL⟩ := G.l.ex
  obtain ⟨pB, gB, fdB, qB, FB, bB⟩ := G.h.ex
  obtain ⟨pA, gA, fdA, qA, FA, bA⟩ := G.a.ex
  refine ⟨fun vs H Q E h => ?_, fun A st s H args us vs Q gd hr0 e0 hb rv h => ?_⟩
  · obtain ⟨Sx, x, t, v, r, rfl, _⟩ := h
    rfl
  · obtain ⟨Sx, x, t, v0, r, rfl, hS, ip, ok, cn, ⟨dv0, sd⟩, hTb, k⟩ := h
    refine run_ofS (k := 11) (N := NTr) (ps := ["_law_site_here", "_law_thing", "_law_at"]) lk hcd scTr hr0 e0 hb rv rfl fun hr => ?_
    have gd : (A.deeper (PyProof.Rows.envOfC "_law_turned_right" (defScope sTr) s.heap.objs.size f (.ref cc))).guards = some [] := gd
    refine ⟨_, PSs.nox (pss_cons (ps_set (i := 3) scTr.nd rfl (Or.inl rfl) (C8.pe_c cTd hr (by decide) rfl (pa_cons (pv 0) (pa_cons (pv 2) pa_nil))))
      (pss_cons (ps_if (pt_cmpR op_ne (pe_callB (call_reprD gd hr.units S) (by rfl) T.brepr (by decide +kernel) (pa_cons (pe_lamcall (T := TT) (TT := THeard6 c) (c := cc) (P := Pc) (Ng := NHeard) (a := "_law_ask") (t := fun E => tMeth C "turned" (spTu K d C c) [] E (tVar 1) (tCons (tVar 2) tNil)) rfl gH FH.kp lkH hcH hbH scHeard rfl (Or.inl rfl) (heard_gives T E) TB rfl hmT hu2 (k := 9) (hr.mono (by decide)) (lamS_by (sc := defScope sTr) (by decide +kernel)) rfl (fun _ _ _ _ _ => rfl)
            (fun A outer s H E f c2 hr2 => pe_mW mTu hr2 (by decide) (L2passOf (takes_of rfl rfl rfl rfl)) (pv 1) (pa_cons (pv 2) pa_nil))) pa_nil)) (pe_callB (call_reprD gd hr.units S) (by rfl) T.brepr (by decide +kernel) (pa_cons (pv 3) pa_nil)) (nomark _)) (pss_one (ps_ret pe_bl)) pss_nil)
      (pss_cons (ps_if (pt_cmpR op_notN (pv 3) pe_non (nomark _)) (pss_one (ps_ret pe_bl)) pss_nil)
      (pss_cons (ps_set (i := 4) scTr.nd rfl (Or.inr rfl) (pe_mK (E := C8.E0) kTu hr (by decide) passL (pv 1) (pk_cons (pv 2) pk_nil)))
      (pss_cons (ps_set (i := 5) scTr.nd rfl (Or.inl rfl) (pe_callTy call_list_of (by rfl) T.blist (by decide +kernel) (pa_cons (NX.pe_propG (pv 1) FL (hr.mono (by decide)) bL pass0 rfl) pa_nil)))
      (pss_cons (ps_if (PW.pt (pw_or (pt_cmpR (op_neG (NZ.rnG_list (monK_act d).mon AE.at) (hr.mono (by decide))) (pe_callTy call_list_of (by rfl) T.blist (by decide +kernel) (pa_cons (NX.pe_propG (pv 4) FL (hr.mono (by decide)) bL pass0 rfl) pa_nil)) (pe_op op_cat (pe_slice sl_list (pv 5) (po_some (pv 2)) po_none) (pe_slice sl_list (pv 5) po_none (po_some (pv 2)))) (nomark _)) (pw_or1 (pt_not (pt_val (C8.pe_c cKp hr (by decide) rfl (pa_cons (pv 4) (pa_cons (pv 1) pa_nil)))))))) (pss_one (ps_ret pe_bl)) pss_nil)
      (pss_cons (ps_if (pt_cmpR (op_neG (NZ.rnG_list (monK_act d).mon AE.at) (hr.mono (by decide))) (pe_callTy call_list_of (by rfl) T.blist (by decide +kernel) (pa_cons (NX.pe_propG (pv 4) FA (hr.mono (by decide)) bA pass0 rfl) pa_nil)) (pe_op op_cat (pe_callTy call_list_of (by rfl) T.blist (by decide +kernel) (pa_cons (NX.pe_propG (pv 1) FA (hr.mono (by decide)) bA pass0 rfl) pa_nil)) (pe_slice sl_list (pv 5) po_none (po_some (pv 2)))) (nomark _)) (pss_one (ps_ret pe_bl)) pss_nil)
      (pss_cons (ps_if (pt_cmpR (op_neG (NZ.rnG_list (monK_act d).mon AE.at) (hr.mono (by decide))) (pe_callTy call_list_of (by rfl) T.blist (by decide +kernel) (pa_cons (NX.pe_propG (pv 4) FB (hr.mono (by decide)) bB pass0 rfl) pa_nil)) (pe_op op_cat (pe_slice sl_list (pv 5) (po_some (pv 2)) po_none) (pe_callTy call_list_of (by rfl) T.blist (by decide +kernel) (pa_cons (NX.pe_propG (pv 1) FB (hr.mono (by decide)) bB pass0 rfl) pa_nil))) (nomark _)) (pss_one (ps_ret pe_bl)) pss_nil)
      (pss_cons (ps_setLc (i := 6) (own := [("_law_n", 7)]) (g := gName 7) rfl scTr.nd rfl rfl (sw_true rfl rfl rfl (by decide +kernel)) (pi_range1 (by rfl) T.brange (pa_cons pe_int pa_nil)) (blkOk_by (own := [("_law_n", 7)]) (N := NTr) (sc := defScope sTr) (by decide +kernel)) (fun _ _ _ _ _ => pg_name (i := 7) scTr.nd rfl (Or.inr rfl))
          (fun _ _ _ _ _ => pts_one (show PT _ _ (tTest (tOp (fun x y H Q => y = V.non ∧ Q (.bl (decide (x = V.non))) H) (tLam TT (THeard6 c) (fun E => tMeth C "straight" (spSt K d C c) [.int 0] E (tVar 1) (tCons (tAdd (tVar 7) (tC (.int 1))) tNil))) (tC .non))) from
            pt_cmpR op_isN (pe_lamcall (T := TT) (TT := THeard6 c) (c := cc) (P := Pc) (Ng := NHeard) (a := "_law_ask") rfl gH FH.kp lkH hcH hbH scHeard rfl (Or.inl rfl) (heard_gives T E) TB rfl hmT hu2 (k := 9) (hr.mono (by decide)) (lamS_by (by rfl)) rfl (fun _ _ _ _ _ => rfl)
              (fun A outer s H E f c2 hr2 => pe_mW mSt hr2 (by decide) (L2passOf (takes_of rfl rfl rfl rfl)) (pv 1) (pa_cons (pe_add (pv 7) pe_int) pa_nil))) pe_non (nomark _))) (fun _ _ _ _ _ => pv 7))
      (pss_one (ps_ret (pe_cmpR (op_eqD hr.units) (pe_lc (own := [("_law_n", 7)]) (g := gName 7) rfl scTr.nd (pi_list (pv 6)) (blkOk_by (own := [("_law_n", 7)]) (N := NTr) (sc := defScope sTr) (by decide +kernel)) (fun _ _ _ _ _ => pg_name (i := 7) scTr.nd rfl (Or.inl rfl))
          (fun _ _ _ _ _ => pts_one (show PT _ _ (tTest (tOp (rOwn K fEq (spPEq K d C) C8.E0 true) (tMeth C "straight" (spSt K d C c) [.int 0] C8.E0 (tVar 4) (tCons (tVar 7) tNil)) (tMeth C "straight" (spSt K d C c) [.int 0] C8.E0 (tVar 1) (tCons (tAdd (tVar 7) (tC (.int 1))) tNil)))) from pt_cmpR (op_neOwn (E := C8.E0) (n := 5) FEq hbE pass0 (hr.mono (by decide))) (pe_mW (E := C8.E0) mSt hr (by decide) passL (pv 4) (pa_cons (pv 7) pa_nil)) (pe_mW (E := C8.E0) mSt hr (by decide) passL (pv 1) (pa_cons (pe_add (pv 7) pe_int) pa_nil)) (nomark _))) (fun _ _ _ _ _ => pv 7)) (pe_lst pa_nil) (nomark _))))))))))))), ?_⟩
    refine ⟨_, rfl, _, rfl, Sx, t, v0, r, rfl, hS, ok, cn, fun u H1 s1 du => ?_⟩
    have hS1 := hS.same s1
    have ip1 := ip.same s1
    have cn1 := cn.same s1
    have hT1 := hTb.ext s1
    obtain ⟨z, hz⟩ := dueText (K := K) (H := H1) (r := turF t.g v0 r) (smO_tur (sd.same s1))
    refine ⟨hT1, fun H2 e2 hT2 R hR => ?_⟩
    obtain ⟨dx, fx, ex, lx⟩ := (ip1.ext e2).instL (m := "turned") (fun _ _ _ _ _ => rfl)
    refine ⟨_, rfl, x, dx, fx, rfl, ex, lx, _, rfl, x, t, v0, r, rfl, ip1.ext e2, ok, cn1.ext e2, askH hR fun v H3 s3 dv => ?_⟩
    have z23 := e2.trans (.of s3)
    obtain ⟨da, f1, f2, f3, f4, f5, f6⟩ := dueSh (hz H3 z23 v dv)
    obtain ⟨db, g1, g2, g3, g4, g5, g6⟩ := dueSh (hz H3 z23 u (du.ext z23))
    refine ⟨v, da, rfl, f1, f2, f3, f4, f5, _, rfl, u, db, rfl, g1, g2, g3, g4, g5, rfl, _, rfl, ite2 (fun hne => absurd hne (by rw [f6, g6]; simp)) (fun _ => ?_)⟩
    clear f1 f2 f3 f4 f5 f6 g1 g2 g3 g4 g5 g6
    have hT3 := hT2.ext s3
    have ip3 := (ip1.ext e2).same s3
    have cn3 := (cn1.ext e2).same s3
    have e03 := (ExtN.of s1).trans z23
    have du3 := du.ext z23
    clear hz dv hR R ex lx
    refine ⟨_, rfl, rfl, _, rfl, ?_⟩
    rw [du3.isNon]
    cases hp : turF t.g v0 r with
    | some fa => exact iteT (k H3 e03 hT3)
    | none =>
      obtain ⟨j, rfl, one, jl, hm6⟩ := tur_fine hp
      obtain rfl := cn.int
      have M := made_tur ok one hm6
      obtain ⟨⟨ls, hl⟩, hs⟩ := oneF_none one
      obtain ⟨dx, fx, ex, lx⟩ := ip3.instL (m := "turned") (fun _ _ _ _ _ => rfl)
      refine iteF ⟨_, rfl, x, dx, fx, rfl, ex, lx, _, rfl, x, t, .int (j : Int), some j, rfl, ip3, ok, cn3, endsOk hp fun y H4 s4 iy => ?_⟩
      have iy : IsP K d H4 y C (t.with_ (t.g.tur j)) := iy
      have hT4 := hT3.ext s4
      have e04 := e03.trans (.of s4)
      have ip4 := ip3.same s4
      clear du3 hp ip3 hT3 e03 cn3 ex lx
      obtain ⟨dx, fx, ex⟩ := ip4.inst
      obtain ⟨dy, fy, ey⟩ := iy.inst
      refine ⟨_, rfl, x, C, dx, fx, pL, rfl, ex, G.cl.cl, qL, x, t, rfl, ip4, fun v2 a2 => ?_⟩
      have a2 : PartA K d H4 v2 t.g.l := a2
      rw [hl] at a2
      obtain ⟨p2, rfl, xs2, q2, al2⟩ := a2
      refine ⟨p2, _, rfl, .inr q2, fun bd hbd => ?_⟩
      have s5 := Same.new (o := HO.lst (xs2.map V.ref)) hbd
      have gb : upd H4 bd (HO.lst (xs2.map V.ref)) bd = some (.lst (xs2.map V.ref)) := upd_same
      generalize upd H4 bd (HO.lst (xs2.map V.ref)) = H5 at *
      obtain ⟨sza, szl, szb, szs, szh, szall⟩ := ok.sizes
      have low : (1000 : Nat) ≤ sizeLine := by decide
      have len2 : xs2.length ≤ 24 := by rw [al2.1]; rw [hl] at szl; exact szl
      have al2 := al2.same s5
      have iy := iy.same s5
      have ip4 := ip4.same s5
      have ex := s5 _ _ ex
      have ey := s5 _ _ ey
      -- the loop
      refine ⟨_, rfl, y, C, dy, fy, pL, rfl, ey, G.cl.cl, qL, y, t.with_ (t.g.tur j), rfl, iy, fun v1 a1 => ?_⟩
      obtain ⟨p1, rfl, xs1, q1, al1⟩ := (show PartA K d H5 v1 (some ((t.g.l.getD []).drop j ++ (t.g.l.getD []).take j)) from a1)
      rw [hl] at al1
      refine ⟨p1, _, rfl, .inr q1, fun l1 hl1 => ?_⟩
      have s6 := Same.new (o := HO.lst (xs1.map V.ref)) hl1
      have g1 : upd H5 l1 (HO.lst (xs1.map V.ref)) l1 = some (.lst (xs1.map V.ref)) := upd_same
      generalize upd H5 l1 (HO.lst (xs1.map V.ref)) = H6 at *
      refine ⟨_, rfl, _, rfl, (j : Int), rfl, bd, _, rfl, SqL.of (s6 _ _ gb), fun l2 hl2 => ?_⟩
      rw [cut_from]
      have s7 := Same.new (o := HO.lst ((xs2.map V.ref).drop j)) hl2
      have g2 : upd H6 l2 (HO.lst ((xs2.map V.ref).drop j)) l2 = some (.lst ((xs2.map V.ref).drop j)) := upd_same
      generalize upd H6 l2 (HO.lst ((xs2.map V.ref).drop j)) = H7 at *
      refine ⟨_, rfl, _, rfl, (j : Int), rfl, bd, _, rfl, SqL.of (s7 _ _ (s6 _ _ gb)), fun l3 hl3 => ?_⟩
      rw [cut_to]
      have s8 := Same.new (o := HO.lst ((xs2.map V.ref).take j)) hl3
      have g3 : upd H7 l3 (HO.lst ((xs2.map V.ref).take j)) l3 = some (.lst ((xs2.map V.ref).take j)) := upd_same
      generalize upd H7 l3 (HO.lst ((xs2.map V.ref).take j)) = H8 at *
      refine ⟨l2, l3, _, _, rfl, rfl, s8 _ _ g2, g3, by rw [List.length_drop, List.length_take, List.length_map]; omega, fun l4 hl4 => ?_⟩
      have s9 := Same.new (o := HO.lst ((xs2.map V.ref).drop j ++ (xs2.map V.ref).take j)) hl4
      have g4 : upd H8 l4 (HO.lst ((xs2.map V.ref).drop j ++ (xs2.map V.ref).take j)) l4 = some (.lst ((xs2.map V.ref).drop j ++ (xs2.map V.ref).take j)) := upd_same
      generalize upd H8 l4 (HO.lst ((xs2.map V.ref).drop j ++ (xs2.map V.ref).take j)) = H9 at *
      have s69 := (s7.trans s8).trans s9
      have s59 := s6.trans s69
      refine ⟨⟨l1, l4, _, _, rfl, rfl, s69 _ _ g1, g4, prsOf (al1.same s59) (((al2.same s59).drop j).app ((al2.same s59).take j)) (by rw [List.map_append, List.map_drop, List.map_take])⟩, fun H10 s10 => ⟨_, rfl, iteF ?_⟩⟩
      have s10 : Same H9 H10 := s10
      have s510 := s59.trans s10
      refine ⟨_, rfl, _, rfl, y, x, t.with_ (t.g.tur j), t, rfl, iy.same s510, ip4.same s510, fun _ => Iff.rfl, rfl, fun _ => Iff.rfl, M.words, M.l1, ok.ag.nd, fun H11 s11 => ⟨true, rfl, iteF ?_⟩⟩
      have s511 := s510.trans s11
      clear g1 g2 g3 g4 al1 a1 q1 s6 s7 s8 s9 s69 s59 s10 s510 s11 hl1 hl2 hl3 hl4
      -- what stands ahead
      refine ⟨_, rfl, y, C, dy, fy, pA, rfl, s511 _ _ ey, G.cl.cl, qA, y, t.with_ (t.g.tur j), rfl, iy.same s511, fun v1 a1 => ?_⟩
      obtain ⟨p1, rfl, xs1, q1, al1⟩ := (show PartA K d H11 v1 (some (t.g.a ++ (t.g.l.getD []).take j)) from a1)
      rw [hl] at al1
      refine ⟨p1, _, rfl, .inr q1, fun l1 hl1 => ?_⟩
      have s12 := Same.new (o := HO.lst (xs1.map V.ref)) hl1
      have g1 : upd H11 l1 (HO.lst (xs1.map V.ref)) l1 = some (.lst (xs1.map V.ref)) := upd_same
      generalize upd H11 l1 (HO.lst (xs1.map V.ref)) = H12 at *
      have s512 := s511.trans s12
      refine ⟨_, rfl, x, C, dx, fx, pA, rfl, s512 _ _ ex, G.cl.cl, qA, x, t, rfl, ip4.same s512, fun v3 a3 => ?_⟩
      obtain ⟨p3, rfl, xs3, q3, al3⟩ := (show PartA K d H12 v3 (some t.g.a) from a3)
      refine ⟨p3, _, rfl, .inr q3, fun l2 hl2 => ?_⟩
      have s13 := Same.new (o := HO.lst (xs3.map V.ref)) hl2
      have g2 : upd H12 l2 (HO.lst (xs3.map V.ref)) l2 = some (.lst (xs3.map V.ref)) := upd_same
      generalize upd H12 l2 (HO.lst (xs3.map V.ref)) = H13 at *
      refine ⟨_, rfl, _, rfl, (j : Int), rfl, bd, _, rfl, SqL.of (s13 _ _ (s512 _ _ gb)), fun l3 hl3 => ?_⟩
      rw [cut_to]
      have s14 := Same.new (o := HO.lst ((xs2.map V.ref).take j)) hl3
      have g3 : upd H13 l3 (HO.lst ((xs2.map V.ref).take j)) l3 = some (.lst ((xs2.map V.ref).take j)) := upd_same
      generalize upd H13 l3 (HO.lst ((xs2.map V.ref).take j)) = H14 at *
      refine ⟨l2, l3, _, _, rfl, rfl, s14 _ _ g2, g3, by rw [List.length_take, List.length_map, List.length_map, al3.1]; omega, fun l4 hl4 => ?_⟩
      have s15 := Same.new (o := HO.lst (xs3.map V.ref ++ (xs2.map V.ref).take j)) hl4
      have g4 : upd H14 l4 (HO.lst (xs3.map V.ref ++ (xs2.map V.ref).take j)) l4 = some (.lst (xs3.map V.ref ++ (xs2.map V.ref).take j)) := upd_same
      generalize upd H14 l4 (HO.lst (xs3.map V.ref ++ (xs2.map V.ref).take j)) = H15 at *
      have s1315 := s14.trans s15
      have s1215 := s13.trans s1315
      have s515 := s512.trans s1215
      refine ⟨⟨l1, l4, _, _, rfl, rfl, s1215 _ _ g1, g4, prsOf ((al1.same s12).same s1215) ((al3.same s1215).app ((al2.same s515).take j)) (by rw [List.map_append, List.map_take])⟩, fun H16 s16 => ⟨_, rfl, iteF ?_⟩⟩
      have s16 : Same H15 H16 := s16
      have s516 := s515.trans s16
      clear g1 g2 g3 g4 al1 al3 a1 a3 q1 q3 s12 s13 s14 s15 s16 s1315 s1215 s515 s512 s511 hl1 hl2 hl3 hl4
      -- what stands behind
      refine ⟨_, rfl, y, C, dy, fy, pB, rfl, s516 _ _ ey, G.cl.cl, qB, y, t.with_ (t.g.tur j), rfl, iy.same s516, fun v1 a1 => ?_⟩
      obtain ⟨p1, rfl, xs1, q1, al1⟩ := (show PartA K d H16 v1 (some ((t.g.l.getD []).drop j ++ t.g.h)) from a1)
      rw [hl] at al1
      refine ⟨p1, _, rfl, .inr q1, fun l1 hl1 => ?_⟩
      have s17 := Same.new (o := HO.lst (xs1.map V.ref)) hl1
      have g1 : upd H16 l1 (HO.lst (xs1.map V.ref)) l1 = some (.lst (xs1.map V.ref)) := upd_same
      generalize upd H16 l1 (HO.lst (xs1.map V.ref)) = H17 at *
      have s517 := s516.trans s17
      refine ⟨_, rfl, _, rfl, (j : Int), rfl, bd, _, rfl, SqL.of (s517 _ _ gb), fun l3 hl3 => ?_⟩
      rw [cut_from]
      have s18 := Same.new (o := HO.lst ((xs2.map V.ref).drop j)) hl3
      have g3 : upd H17 l3 (HO.lst ((xs2.map V.ref).drop j)) l3 = some (.lst ((xs2.map V.ref).drop j)) := upd_same
      generalize upd H17 l3 (HO.lst ((xs2.map V.ref).drop j)) = H18 at *
      have s518 := s517.trans s18
      refine ⟨_, rfl, x, C, dx, fx, pB, rfl, s518 _ _ ex, G.cl.cl, qB, x, t, rfl, ip4.same s518, fun v3 a3 => ?_⟩
      obtain ⟨p3, rfl, xs3, q3, al3⟩ := (show PartA K d H18 v3 (some t.g.h) from a3)
      refine ⟨p3, _, rfl, .inr q3, fun l2 hl2 => ?_⟩
      have s19 := Same.new (o := HO.lst (xs3.map V.ref)) hl2
      have g2 : upd H18 l2 (HO.lst (xs3.map V.ref)) l2 = some (.lst (xs3.map V.ref)) := upd_same
      generalize upd H18 l2 (HO.lst (xs3.map V.ref)) = H19 at *
      refine ⟨l3, l2, _, _, rfl, rfl, s19 _ _ g3, g2, by rw [List.length_drop, List.length_map, List.length_map, al3.1]; omega, fun l4 hl4 => ?_⟩
      have s20 := Same.new (o := HO.lst ((xs2.map V.ref).drop j ++ xs3.map V.ref)) hl4
      have g4 : upd H19 l4 (HO.lst ((xs2.map V.ref).drop j ++ xs3.map V.ref)) l4 = some (.lst ((xs2.map V.ref).drop j ++ xs3.map V.ref)) := upd_same
      generalize upd H19 l4 (HO.lst ((xs2.map V.ref).drop j ++ xs3.map V.ref)) = H20 at *
      have s1820 := s19.trans s20
      have s1720 := s18.trans s1820
      have s520 := s517.trans s1720
      refine ⟨⟨l1, l4, _, _, rfl, rfl, s1720 _ _ g1, g4, prsOf ((al1.same s17).same s1720) (((al2.same s520).drop j).app (al3.same s1820)) (by rw [List.map_append, List.map_drop])⟩, fun H21 s21 => ⟨_, rfl, iteF ?_⟩⟩
      have s21 : Same H20 H21 := s21
      have s521 := s520.trans s21
      have s47 := s5.trans s521
      clear g1 g2 g3 g4 al1 al3 a1 a3 q1 q3 s17 s18 s19 s20 s21 s1820 s1720 s520 s518 s517 s516 hl1 hl2 hl3 hl4 al2 q2 gb hbd
      have hT5 := hT4.ext s47
      have e05 := e04.trans (.of s47)
      have ip5 := ip4.same s521
      have iy5 := iy.same s521
      clear iy ip4 hT4 e04 ex ey
      refine sqA (lcFew (TT := TT) (fun n => (t.g.flat (n + 1) 0).many = none) ?_ hT5 (fun n H6 R6 n4 e6 t6 kk => ?_) (fun D ns H6 gD hns l4 e6 t6 => ?_))
      · exact (by decide : 7 < 8)
      · refine ⟨t6, fun H7 e7 t7 R7 hR7 => ?_⟩
        obtain ⟨dx, fx, ex, lx⟩ := (ip5.ext (e6.trans e7)).instL (m := "straight") (fun _ _ _ _ _ => rfl)
        refine ⟨_, rfl, x, dx, fx, rfl, ex, lx, _, rfl, (n : Int), (1 : Int), rfl, rfl, ?_⟩
        refine ⟨x, t, n + 1, 0, rfl, ip5.ext (e6.trans e7), ok, fun _ => by rw [hl]; rfl, fun h => absurd h (Nat.lt_irrefl _), askH hR7 fun v H8 s8 dv => ?_⟩
        exact ⟨rfl, _, rfl, kk _ H8 (e7.trans (.of s8)) (t7.ext s8) (fitsIf dv)⟩
      · refine opE (lcOf ⟨_, rfl, D, rfl, ⟨_, SqL.of gD⟩, ?_⟩)
        refine lcNone gD (fun n hn H7 R7 s7 kk => ?_) (fun L H7 gL s7 => ?_)
        · obtain ⟨n4, hm⟩ := hns n hn
          have e07 := e6.trans (.of s7)
          obtain ⟨dy, fy, ey, ly⟩ := (iy5.ext e07).instL (m := "straight") (fun _ _ _ _ _ => rfl)
          refine ⟨_, rfl, y, dy, fy, rfl, ey, ly, _, rfl, y, t.with_ (t.g.tur j), n, 0, rfl, iy5.ext e07, M.ok, fun _ => M.ls, fun h => absurd h (Nat.lt_irrefl _), endsOk (manyNo ((congrArg Prg.many (M.flat n)).trans hm)) fun z1 H8 s8 i1 => ?_⟩
          have e08 := e07.trans (.of s8)
          obtain ⟨dx, fx, ex, lx⟩ := (ip5.ext e08).instL (m := "straight") (fun _ _ _ _ _ => rfl)
          refine ⟨_, rfl, x, dx, fx, rfl, ex, lx, _, rfl, (n : Int), (1 : Int), rfl, rfl, ?_⟩
          refine ⟨x, t, n + 1, 0, rfl, ip5.ext e08, ok, fun _ => by rw [hl]; rfl, fun h => absurd h (Nat.lt_irrefl _), endsOk (manyNo hm) fun z2 H9 s9 i2 => ?_⟩
          refine neSame G.cl eqC pty nf (i1.same s9) i2 ⟨M.flat n, rfl, fun _ => Iff.rfl, fun _ => Iff.rfl⟩ ⟨ok.nms.us, ok.nms.rs, ok.nms.nd⟩ fun H10 s10 => ⟨_, rfl, kk H10 (s8.trans (s9.trans s10))⟩
        · refine ⟨by show 0 ≤ sizeLine; decide, fun L2 hL2 => ⟨_, _, .lst (SqL.of (Same.new hL2 _ _ gL)) .nil, .lst (SqL.of upd_same) .nil, rfl, rfl, ?_⟩⟩
          have z := e05.trans (e6.trans (.of (s7.trans (Same.new (o := HO.lst []) hL2))))
          exact k _ z ((t6.ext s7).ext (Same.new hL2))
end
end K06

set_option Elab.async false
set_option linter.all false
set_option maxRecDepth 100000
set_option maxHeartbeats 4000000
/-! What the law makes of its programs: no deeds in the loop, many ahead; odd values. -/
namespace K06
open PySem L2 NX NU LamX
open PyProof.Rows (sortedS)
def Tol.bare (t : Tol) : Tol := { t with g := { t.g with l := some [] } }
theorem okEmpty {t : Tol} (ok : t.Ok) : t.bare.Ok := by
  have ac : ∀ g : Prg, g.acts.length = g.a.length + (g.l.getD []).length + g.b.length + (g.s.getD []).length + g.h.length := fun g => by
    show (((((([] ++ g.a) ++ g.l.getD []) ++ g.b) ++ g.s.getD []) ++ g.h)).length = _
    simp only [List.nil_append, List.length_append]
  obtain ⟨pool, hp, h6⟩ := ok.six
  refine ⟨⟨(fun e => nomatch e), ok.shape.s⟩, ⟨ok.sizes.a, Nat.zero_le _, ok.sizes.b, ok.sizes.s, ok.sizes.h, ok.sizes.all⟩, ok.us, ok.ag, ok.rs, ⟨pool, fun z hz => hp z ?_, h6⟩, ?_, ⟨fun i i5 => ?_, ok.v.res⟩⟩
  · unfold Tol.words at hz ⊢
    rw [List.mem_append] at hz ⊢
    refine hz.imp id fun k => ?_
    rw [acts5] at k ⊢
    rcases k with k | k | k | k | k
    · exact .inl k
    · cases k
    · exact .inr (.inr (.inl k))
    · exact .inr (.inr (.inr (.inl k)))
    · exact .inr (.inr (.inr (.inr k)))
  · have h := ok.size
    rw [ac] at h
    show t.us.length + t.ag.length + t.rs.length + 4 * (Prg.acts { t.g with l := some [] }).length ≤ 1000
    rw [ac]
    show t.us.length + t.ag.length + t.rs.length + 4 * (t.g.a.length + 0 + t.g.b.length + (t.g.s.getD []).length + t.g.h.length) ≤ 1000
    omega
  · rcases five i5 with rfl | rfl | rfl | rfl | rfl
    · exact ok.v.uses 0 (by decide)
    · exact trivial
    · exact ok.v.uses 2 (by decide)
    · exact ok.v.uses 3 (by decide)
    · exact ok.v.uses 4 (by decide)
theorem SiteG.but {H H' : Hp} {p c : Addr} {ns : List Int} {x y : Int} {S : Addr} {t : Tol} (P : Pen H p c ns x y) (B : But p H H') (h : SiteG H S t) : SiteG H' S t := by
  obtain ⟨gv, ag, r, vl, vb, vx, vh, vL, e, e1, e2, e6, p1, p2, p3, p4, p5⟩ := h.ex
  exact ⟨gv, ag, r, vl, vb, vx, vh, vL, B _ _ e (fun z => by rw [z, P.hp] at e; cases e), B _ _ e1 (pen_ne P e1), B _ _ e2 (agD_ne P e2), B _ _ e6 (pen_ne P e6), p1.but P B, p2.but P B, p3.but P B, p4.but P B, p5.but P B⟩
theorem ag_ne {H : Hp} {S ag gv a2 r : Addr} {vl vb vx vh vL : V} {l : List (Str × Int)} (e : H S = some (.dK (sk8 (.ref gv) (.ref a2) vl vb vx vh vL (.ref r)))) (h : AgD H ag l) : ag ≠ S := fun z => by
  unfold AgD at h
  rw [z, e] at h
  injection h with h
  injection h with h
  cases l with
  | nil => cases h
  | cons q r =>
    injection h with h _
    injection h with _ h
    cases h
theorem IsP.kl {K : PySem.W.Frag} {d : D3} {H H' : Hp} {x C : Addr} {t : Tol} (s : KL H H') (h : IsP K d H x C t) : IsP K d H' x C t := by
  obtain ⟨dx, nt, P, gt, ag, rt, ns, gs, rs, a, b, c, e, f, g, h1, h2, h3⟩ := h.ex
  obtain ⟨v0, v1, v2, v3, v4, q, q0, q1, q2, q3, q4⟩ := c
  exact ⟨dx, nt, P, gt, ag, rt, ns, gs, rs, s _ _ a (fun _ e => nomatch e), s _ _ b (fun _ e => nomatch e), ⟨v0, v1, v2, v3, v4, s _ _ q (fun _ e => nomatch e), q0.kl s, q1.kl s, q2.kl s, q3.kl s, q4.kl s⟩, s _ _ e (fun _ e => nomatch e), s _ _ f (fun _ e => nomatch e), s _ _ g (fun _ e => nomatch e), h1, h2, h3⟩
theorem But.kl {H H' : Hp} {p c : Addr} {ns : List Int} {x y : Int} (P : Pen H p c ns x y) (B : But p H H') : KL H H' := fun b o e n => B b o e fun z => by rw [z, P.hp] at e; exact n _ (Option.some.inj e).symm

/-- many deeds more ahead, which use a name told -/
def many_ (n : Nat) (z : Str) : List Act := List.replicate n (none, [z])
def Tol.long (t : Tol) (n : Nat) (z : Str) : Tol := { t with g := { t.g with a := t.g.a ++ many_ n z } }
theorem aft_many (kn : List Str) (z : Str) : ∀ n, aft kn (many_ n z) = kn
  | 0 => aft_nil kn
  | n + 1 => by
    show aft kn ((none, [z]) :: many_ n z) = kn
    rw [aft_cons]
    show aft (kn ++ []) (many_ n z) = kn
    rw [List.append_nil]
    exact aft_many kn z n
theorem uses_many {ag kn : List Str} {z : Str} (h : z ∈ kn) : ∀ n, UsesOk ag kn (many_ n z)
  | 0 => trivial
  | n + 1 => by
    show UsesOk ag kn ((none, [z]) :: many_ n z)
    refine ⟨fun y hy => by rw [List.mem_singleton.mp hy]; exact h, nofun, ?_⟩
    show UsesOk ag (kn ++ []) (many_ n z)
    rw [List.append_nil]
    exact uses_many h n
theorem many_ns {n : Nat} {z y : Str} (h : y ∈ actsN (many_ n z)) : y = z := by
  unfold actsN at h
  obtain ⟨l, hl, hy⟩ := List.mem_flatten.mp h
  obtain ⟨a, ha, rfl⟩ := List.mem_map.mp hl
  rw [List.eq_of_mem_replicate ha] at hy
  rcases mem_ns.mp hy with q | q
  · exact List.mem_singleton.mp q
  · cases q
theorem okLong {t : Tol} {n : Nat} {z : Str} (ok : t.Ok) (hz : z ∈ t.us ++ t.ag.map (·.1)) (hn : t.g.a.length + n + t.g.b.length + t.g.h.length ≤ 198) (l1 : (t.g.l.getD []).length ≤ 5) (l3 : (t.g.s.getD []).length ≤ 5) : (t.long n z).Ok := by
  obtain ⟨pool, hp, h6⟩ := ok.six
  have hw : z ∈ t.words := by
    unfold Tol.words
    rw [List.mem_append, List.mem_append]
    exact .inl (.inl hz)
  have lm : (many_ n z).length = n := List.length_replicate
  have la : (t.long n z).g.a.length = t.g.a.length + n := by
    show (t.g.a ++ many_ n z).length = _
    rw [List.length_append, lm]
  have lu : t.us.length ≤ 6 := Nat.le_trans (nodupLen ok.us.nr fun z hz => hp z (by unfold Tol.words; simp [hz])) h6
  have lr : t.rs.length ≤ 6 := Nat.le_trans (nodupLen ok.rs.nr fun z hz => hp z (by unfold Tol.words; simp [hz])) h6
  have lg := ok.ag.few
  obtain ⟨sza, szl, szb, szs, szh, szall⟩ := ok.sizes
  refine ⟨⟨ok.shape.l, ok.shape.s⟩, ⟨by rw [la]; omega, szl, szb, szs, szh, by rw [la]; show t.g.a.length + n + t.g.b.length + t.g.h.length ≤ 200; omega⟩, ok.us, ok.ag, ok.rs, ⟨pool, fun y hy => hp y ?_, h6⟩, ?_, ?_⟩
  · unfold Tol.words at hy
    rw [List.mem_append] at hy
    rcases hy with k | k
    · unfold Tol.words
      rw [List.mem_append]
      exact .inl k
    · rw [acts5] at k
      have up : ∀ y, (y ∈ actsN t.g.a ∨ y ∈ actsN (t.g.l.getD []) ∨ y ∈ actsN t.g.b ∨ y ∈ actsN (t.g.s.getD []) ∨ y ∈ actsN t.g.h) → y ∈ t.words := fun y q => by
        unfold Tol.words
        rw [List.mem_append]
        exact .inr ((acts5 t.g y).mpr q)
      rcases k with k | k
      · have k : y ∈ actsN (t.g.a ++ many_ n z) := k
        rw [actsN_app, List.mem_append] at k
        rcases k with k | k
        · exact up y (.inl k)
        · rw [many_ns k]
          exact hw
      · exact up y (.inr k)
  · show t.us.length + t.ag.length + t.rs.length + 4 * (t.long n z).g.acts.length ≤ 1000
    rw [acts_len, la]
    show t.us.length + t.ag.length + t.rs.length + 4 * (t.g.a.length + n + (t.g.l.getD []).length + t.g.b.length + (t.g.s.getD []).length + t.g.h.length) ≤ 1000
    omega
  · have ea : aft (t.us ++ t.ag.map (·.1)) (t.g.a ++ many_ n z) = aft (t.us ++ t.ag.map (·.1)) t.g.a := by rw [aft_app, aft_many]
    refine ⟨fun i i5 => ?_, fun y hy => ?_⟩
    · rcases five i5 with rfl | rfl | rfl | rfl | rfl
      · show UsesOk _ (t.us ++ t.ag.map (·.1)) (t.g.a ++ many_ n z)
        exact uses_app (v0 ok.v) (uses_many (aft_sub z hz) n)
      · show UsesOk _ (aft (t.us ++ t.ag.map (·.1)) (t.g.a ++ many_ n z)) (t.g.l.getD [])
        rw [ea]; exact v1 ok.v
      · show UsesOk _ (aft (t.us ++ t.ag.map (·.1)) (t.g.a ++ many_ n z)) t.g.b
        rw [ea]; exact v2 ok.v
      · show UsesOk _ (aft (aft (t.us ++ t.ag.map (·.1)) (t.g.a ++ many_ n z)) t.g.b) (t.g.s.getD [])
        rw [ea]; exact v3 ok.v
      · show UsesOk _ (aft (aft (t.us ++ t.ag.map (·.1)) (t.g.a ++ many_ n z)) t.g.b) t.g.h
        rw [ea]; exact v4 ok.v
    · show y ∈ aft (aft (aft (t.us ++ t.ag.map (·.1)) (t.g.a ++ many_ n z)) t.g.b) t.g.h
      rw [ea]; exact v5 ok.v y hy
theorem LotsT.app {H : Hp} {ts us : List Addr} {as bs : List Act} (h : LotsT H ts as) (k : LotsT H us bs) : LotsT H (ts ++ us) (as ++ bs) := by
  refine ⟨by rw [List.length_append, List.length_append, h.1, k.1], fun i t a e1 e2 => ?_⟩
  by_cases c : i < ts.length
  · rw [List.getElem?_append_left c] at e1
    rw [List.getElem?_append_left (by rw [← h.1]; exact c)] at e2
    exact h.2 i t a e1 e2
  · rw [List.getElem?_append_right (by omega)] at e1
    rw [List.getElem?_append_right (by rw [← h.1]; omega), ← h.1] at e2
    exact k.2 _ t a e1 e2
theorem lotsMany {H : Hp} {t u : Addr} {z : Str} (g1 : H t = some (.tup [.non, .ref u])) (g2 : H u = some (.lst [.str z])) (n : Nat) : LotsT H (List.replicate n t) (many_ n z) := by
  refine ⟨by rw [List.length_replicate]; exact List.length_replicate.symm, fun i t2 a e1 e2 => ?_⟩
  rw [List.getElem?_replicate] at e1
  have e2 : (List.replicate n ((none, [z]) : Act))[i]? = some a := e2
  rw [List.getElem?_replicate] at e2
  split at e1
  · rename_i c
    rw [if_pos c] at e2
    cases e1
    cases e2
    exact ⟨u, g1, g2⟩
  · cases e1
/-- an odd value -/
inductive Odd (H : Hp) : V → Prop
  | m1 : Odd H (.int (-1))
  | bl (b : Bool) : Odd H (.bl b)
  | no : Odd H .non
  | st : Odd H (.str (Str.ofString "2"))
  | tu (q : Addr) : H q = some (.tup [.int 2]) → Odd H (.ref q)
  | big : Odd H (.int (10 ^ 59))
theorem Odd.up {H H' : Hp} {v : V} (s : ∀ q, H q = some (.tup [.int 2]) → H' q = some (.tup [.int 2])) (h : Odd H v) : Odd H' v := by
  cases h with
  | m1 => exact .m1
  | bl b => exact .bl b
  | no => exact .no
  | st => exact .st
  | tu q g => exact .tu q (s q g)
  | big => exact .big
theorem Odd.ask {K : PySem.W.Frag} {H : Hp} {v : V} (h : Odd H v) : ∃ r, Cn K H v r ∧ ∃ dv, SmD K H v dv := by
  cases h with
  | m1 => exact ⟨_, .neg (-1) rfl (by decide), .int (-1), .int _, by decide +kernel, by decide +kernel, by decide +kernel, fun i e => by cases e; decide +kernel⟩
  | bl b => exact ⟨_, .bl b rfl, .bool b, .bl _, by cases b <;> decide +kernel, by cases b <;> decide +kernel, by cases b <;> decide +kernel, nofun⟩
  | no => exact ⟨_, .odd ⟨_, .base .non, kit_ty (by decide +kernel)⟩, _, sm_non⟩
  | st => exact ⟨_, .odd ⟨_, .base (.str _), kit_ty (by decide +kernel)⟩, .str "2", .str _, by decide +kernel, by decide +kernel, by decide +kernel, nofun⟩
  | tu q g => exact ⟨_, .odd ⟨_, .base (.tup g), kit_ty (by decide +kernel)⟩, .tuple [.int 2], .tup (SqT.of g) (.cons (.int _) .nil), by decide +kernel, by decide +kernel, by decide +kernel, nofun⟩
  | big => exact ⟨_, .yes (10 ^ 59) (by decide +kernel), .int (10 ^ 59), .int _, by decide +kernel, by decide +kernel, by decide +kernel, fun i e => by cases e; decide +kernel⟩
/-- what stands while the law goes on -/
structure LI (TT : List (Addr × Str)) (p c : Addr) (ns : List Int) (B : Int) (H : Hp) : Prop where
  pen : ∃ a r, Pen H p c ns a r ∧ a ≤ B
  tab : Tabs TT H
section
variable {TT : List (Addr × Str)} {p c : Addr} {ns : List Int} {B : Int} {H H' : Hp}
theorem LI.ext (h : LI TT p c ns B H) (s : ExtN H H') (t : Tabs TT H') : LI TT p c ns B H' := by
  obtain ⟨a, r, P, l⟩ := h.pen
  exact ⟨⟨a, r, { P with hp := s _ _ P.hp nofun, hc := s _ _ P.hc nofun }, l⟩, t⟩
theorem LI.same (h : LI TT p c ns B H) (s : Same H H') : LI TT p c ns B H' := h.ext (.of s) (h.tab.ext s)
theorem LI.mono {B' : Int} (h : LI TT p c ns B H) (l : B ≤ B') : LI TT p c ns B' H := by
  obtain ⟨a, r, P, e⟩ := h.pen
  exact ⟨⟨a, r, P, Int.le_trans e l⟩, h.tab⟩
theorem tabsBut {x y : Int} (t : Tabs TT H) (P : Pen H p c ns x y) (b : But p H H') : Tabs TT H' := fun e he => by
  obtain ⟨ps, g, q, k⟩ := t e he
  refine ⟨ps, b _ _ g (fun z => by rw [z, P.hp] at g; cases g), q, fun pos cv hc => (k pos cv hc).imp fun c0 w => ⟨w.1, b _ _ w.2 fun z => ?_⟩⟩
  have w2 := w.2
  rw [z, P.hp] at w2
  unfold CodeO at w2
  cases w2
theorem LI.drawn {x y m : Int} (t : Tabs TT H) (P : Pen H p c ns x y) (hd : Drawn H p c ns m H') : LI TT p c ns m H' ∧ But p H H' := by
  obtain ⟨a, r, P2, l, b⟩ := hd
  exact ⟨⟨⟨a, r, P2, l⟩, tabsBut t P b⟩, b⟩
theorem Odd.but {x y : Int} {v : V} (P : Pen H p c ns x y) (b : But p H H') (h : Odd H v) : Odd H' v := h.up fun q g => b _ _ g fun z => by rw [z, P.hp] at g; cases g
end
end K06

set_option Elab.async false
set_option linter.all false
set_option maxRecDepth 100000
set_option maxHeartbeats 8000000
/-! k06: the law. -/
namespace K06
open PySem L2 NX NU LamX
open PyProof.Rows (sortedS)
abbrev sLaw : Stmt := top 92
abbrev NL : List Str := ["_law_script", "_law_pen_here", "_law_lap", "_law_site_here", "_law_word", "_law_many_here", "_law_thing", "_law_odd", "_law_lot", "_law_at"]
theorem scLaw : FnScope NL ["_law_script"] (defScope sLaw) := ⟨rfl, rfl, rfl, by decide +kernel, rfl, by decide +kernel, by decide +kernel⟩
def spLaw (K : PySem.W.Frag) (TT : List (Addr × Str)) : Sp := fun vs H Q _ => ∃ (a : Addr) (ns : List Int), vs = [.ref a] ∧ SqL K H a (ns.map V.int) ∧ Tabs TT H ∧ ∀ H', Q (.bl true) H'
/-- a def of ours that asks for no repr under way -/
structure CalG (P : Program) (w : World) (K : PySem.W.Frag) (mg : Str → Option Value) (base : Heap) (k : Nat) (x : Str) (ps : List Str) (sp : Sp) : Prop where
  ex : ∃ (f : Addr) (fd : FuncData), FnG P w K mg base k f fd ps sp ∧ mg x = some (.ref f) ∧ PySem.W.keepIn K (.ref f) = true ∧ Binds K fd ps []
theorem pe_cG {X : Cx} {k j : Nat} {x : Str} {ps : List Str} {sp : Sp} {p pos : Pos} {e : Expr} {es : List Expr} {t : TA} (c : CalG X.prog X.w X.K X.mg X.base k x ps sp) (gd : X.A.guards = some []) (hr : Room j X.A) (hj : k ≤ j) (hg : Gl X x) (ha : PA X (e :: es) t)
    (hd : (x == ("__debug__" : Str)) = false := by decide) (he : starEach (e :: es) X.env = (false, eval e X.env) :: starEach es X.env := by rfl) (hpl : (backTo pos (starEach es X.env)).any (·.1) = false := by rfl) :
    PE X (.Call (.Name x p) (e :: es) [] pos) (tCall sp [] C8.E0 t) := by
  obtain ⟨f, fd, F, m, kp, b⟩ := c.ex
  exact pe_callG F gd hr hj hg m kp b ha hd he hpl
theorem LI.putD {TT : List (Addr × Str)} {p c : Addr} {ns : List Int} {B : Int} {H : Hp} {S : Addr} {kvs kvs2 : List (Key × V)} (h : LI TT p c ns B H) (e : H S = some (.dK kvs)) : LI TT p c ns B (upd H S (.dK kvs2)) := by
  obtain ⟨x, r, P, l⟩ := h.pen
  have np : S ≠ p := fun z => by rw [z, P.hp] at e; cases e
  have nc : S ≠ c := fun z => by rw [z, P.hc] at e; cases e
  refine ⟨⟨x, r, P.put np nc, l⟩, fun q hq => ?_⟩
  obtain ⟨ps, g, y, k⟩ := h.tab q hq
  refine ⟨ps, (upd_ne (fun z => by rw [z, e] at g; cases g)).trans g, y, fun pos cv hc => (k pos cv hc).imp fun c0 w => ⟨w.1, (upd_ne (fun z => ?_)).trans w.2⟩⟩
  have w2 := w.2
  rw [z, e] at w2
  unfold CodeO at w2
  cases w2
theorem agKV (l : List (Str × Int)) : ((agK l).map fun kv => kV kv.1) = (l.map (·.1)).map V.str := by
  unfold agK
  rw [List.map_map, List.map_map]
  rfl
abbrev ps3 : List Str := ["_law_site_here", "_law_thing", "_law_at"]
section
variable {P : Program} {w : World} {K : PySem.W.Frag} {mg : Str → Option Value} {base : Heap}
theorem ok_law {d : D3} {C : Addr} {TT : List (Addr × Str)} {f : Addr} {fd : FuncData} (F : Fun K "law" "law" sLaw f fd) (T : TxtB mg) (S : SysB base)
    (OP : CalG P w K mg base 12 "_law_power_right" ps3 (spPr K d C TT)) (OT : CalG P w K mg base 12 "_law_turned_right" ps3 (spTr K d C TT)) (OU : CalG P w K mg base 12 "_law_unrolled_right" ps3 (spUr K d C TT))
    (cPen : C8.Cal P w K mg base 1 "_law_pen" (spPen K) []) (cDraw : C8.Cal P w K mg base 1 "_law_draw" spDraw []) (cPick : C8.Cal P w K mg base 2 "_law_pick" (spPick K) []) (cSi : C8.Cal P w K mg base 4 "_law_site" spSg []) (cRl : C8.Cal P w K mg base 9 "_law_real" (spRlG K d C) []) (cMn : C8.Cal P w K mg base 1 "_law_many" spMn []) : FnG P w K mg base 14 f fd ["_law_script"] (spLaw K TT) := by
  obtain ⟨oc, od, kV, doc, pm, an, cdv, ct, osl, rfl, lk, hcd⟩ := F.ex
  refine ⟨fun vs H Q E h => ?_, fun A st s H args us vs Q gd hr0 e0 hb rv h => ?_⟩
  · obtain ⟨a, ns, rfl, _⟩ := h
    rfl
  · obtain ⟨a, ns, rfl, hS, hTb, k⟩ := h
    refine run_ofS (k := 13) (N := NL) (ps := ["_law_script"]) lk hcd scLaw hr0 e0 hb rv rfl fun hr => ?_
    have gd : (A.deeper (PyProof.Rows.envOfC "law" (defScope sLaw) s.heap.objs.size f cdv)).guards = some [] := gd
    have hu := hu_of hr
    refine ⟨_, PSs.nox (pss_cons (ps_set (i := 1) scLaw.nd rfl (Or.inl rfl) (C8.pe_c cPen hr (by decide) rfl (pa_cons (pv 0) pa_nil)))
      (pss_cons (ps_for PassesOwn.never rfl (pi_range1 (by rfl) T.brange (pa_cons pe_int pa_nil)) (pg_name (i := 2) scLaw.nd rfl (Or.inl rfl))
        (pss_cons (ps_set (i := 3) scLaw.nd rfl (Or.inl rfl) (C8.pe_c cSi hr (by decide) rfl (pa_cons (pv 1) (pa_cons (pe_ix ix_list (pe_lst (pa_cons pe_int (pa_cons pe_int (pa_cons pe_int (pa_cons pe_int (pa_cons pe_int pa_nil)))))) (C8.pe_c cDraw hr (by decide) rfl (pa_cons (pv 1) (pa_cons pe_int pa_nil))) (fun _ _ => rfl)) (pa_cons pe_int pa_nil)))))
        (C8.pss_cut (ps_if (PW.pt (pw_and (pt_cmpR op_eq (C8.pe_c cDraw hr (by decide) rfl (pa_cons (pv 1) (pa_cons pe_int pa_nil))) pe_int (nomark _)) (pw_and1 (pt_cmpR op_notN (pe_dget hu (pv 3) pe_str (fun _ _ => rfl)) pe_non (nomark _))))) (pss_one (ps_dput hu (pv 3) pe_str (pe_lst pa_nil) rfl)) pss_nil)
        (C8.pss_cut (ps_if (pt_cmpR op_eq (C8.pe_c cDraw hr (by decide) rfl (pa_cons (pv 1) (pa_cons pe_int pa_nil))) pe_int (nomark _))
            (pss_cons (ps_set (i := 4) scLaw.nd rfl (Or.inl rfl) (pe_ix ix_list (pe_op op_cat (pe_dget hu (pv 3) pe_str (fun _ _ => rfl)) (pe_callTy (call_listD rfl) (by rfl) T.blist (by decide +kernel) (pa_cons (pe_dget hu (pv 3) pe_str (fun _ _ => rfl)) pa_nil))) pe_int (fun _ _ => rfl)))
            (pss_cons (ps_set (i := 5) scLaw.nd rfl (Or.inl rfl) (pe_op op_add (C8.pe_c cMn hr (by decide) rfl (pa_cons (pv 3) (pa_cons pe_str pa_nil))) (C8.pe_c cMn hr (by decide) rfl (pa_cons (pv 3) (pa_cons pe_str pa_nil)))))
            (pss_cons (ps_set (i := 5) scLaw.nd rfl (Or.inl rfl) (pe_op op_sub (pe_op op_sub pe_int (pv 5)) (C8.pe_c cMn hr (by decide) rfl (pa_cons (pv 3) (pa_cons pe_str pa_nil)))))
            (pss_one (ps_dput hu (pv 3) pe_str (pe_op op_cat (pe_dget hu (pv 3) pe_str (fun _ _ => rfl)) (pe_op op_rep (pe_lst (pa_cons (pe_tup (pa_cons pe_non (pa_cons (pe_lst (pa_cons (pv 4) pa_nil)) pa_nil))) pa_nil)) (pv 5))) rfl))))) pss_nil)
        (pss_cons (ps_set (i := 6) scLaw.nd rfl (Or.inl rfl) (C8.pe_c cRl hr (by decide) rfl (pa_cons (pv 3) pa_nil)))
        (pss_cons (ps_set (i := 7) scLaw.nd rfl (Or.inl rfl) (C8.pe_c cPick hr (by decide) rfl (pa_cons (pv 1) (pa_cons (pe_lst (pa_cons (pe_un un_neg pe_int) (pa_cons pe_bl (pa_cons pe_non (pa_cons pe_str (pa_cons (pe_tup (pa_cons pe_int pa_nil)) (pa_cons (pe_op L2.op_pow pe_int pe_int) (pa_cons pe_bl pa_nil)))))))) pa_nil))))
        (pss_cons (ps_for PassesOwn.never rfl (pi_range1 (by rfl) T.brange (pa_cons pe_int pa_nil)) (pg_name (i := 8) scLaw.nd rfl (Or.inl rfl))
          (pss_one (ps_if (pt_not (pt_val (pe_cG OP gd hr (by decide) rfl (pa_cons (pv 3) (pa_cons (pv 6) (pa_cons (C8.pe_c cPick hr (by decide) rfl (pa_cons (pv 1) (pa_cons (pe_lst (pa_cons pe_int (pa_cons pe_int (pa_cons pe_int (pa_cons pe_int (pa_cons pe_int (pa_cons pe_int (pa_cons pe_int (pa_cons pe_int (pa_cons pe_int (pa_cons pe_int (pa_cons pe_int (pa_cons pe_int pa_nil))))))))))))) pa_nil))) pa_nil)))))) (pss_one (ps_ret pe_bl)) pss_nil)))
        (pss_one (ps_for PassesOwn.never rfl (pi_list (pe_lst (pa_cons pe_int (pa_cons pe_int (pa_cons pe_int (pa_cons (C8.pe_c cDraw hr (by decide) rfl (pa_cons (pv 1) (pa_cons pe_int pa_nil))) (pa_cons (C8.pe_c cDraw hr (by decide) rfl (pa_cons (pv 1) (pa_cons pe_int pa_nil))) (pa_cons (pv 7) pa_nil)))))))) (pg_name (i := 9) scLaw.nd rfl (Or.inl rfl))
          (pss_cons (ps_if (pt_not (pt_val (pe_cG OT gd hr (by decide) rfl (pa_cons (pv 3) (pa_cons (pv 6) (pa_cons (pv 9) pa_nil)))))) (pss_one (ps_ret pe_bl)) pss_nil)
          (pss_one (ps_if (pt_not (pt_val (pe_cG OU gd hr (by decide) rfl (pa_cons (pv 3) (pa_cons (pv 6) (pa_cons (pv 9) pa_nil)))))) (pss_one (ps_ret pe_bl)) pss_nil))))))))))))
      (pss_one (ps_ret pe_bl)))), ?_⟩
    have z1000 : (100000 : Nat) < sizeLine := by decide
    refine ⟨_, rfl, a, ns, rfl, hS, fun p c ms H1 hp Pn s1 => ?_⟩
    have I0 : LI TT p c ms 0 H1 := ⟨⟨0, 0, Pn, Int.le_refl _⟩, hTb.ext s1⟩
    refine ⟨5, rfl, by decide, by decide, ?_⟩
    refine for_range (n := 5) (fun i σ H' => LI TT p c ms (1100 * i) H' ∧ ∃ x2 x3 x4 x5 x6 x7 x8 x9 : Option V, σ = [some (.ref a), some (.ref p), x2, x3, x4, x5, x6, x7, x8, x9]) ⟨I0.mono (by omega), _, _, _, _, _, _, _, _, rfl⟩ (fun i σ H2 hi ⟨I2, x2, x3, x4, x5, x6, x7, x8, x9, eσ⟩ => ?_) (fun σ H2 _ => k _)
    subst eσ
    clear I0 Pn hp s1
    -- the site
    refine ⟨_, rfl, by show 5 ≤ sizeLine; decide, fun L0 hL0 => ?_⟩
    have s3 := Same.new (o := HO.lst [.int 0, .int 1, .int 1, .int 1, .int 2]) hL0
    have gL0 : upd H2 L0 (HO.lst [.int 0, .int 1, .int 1, .int 1, .int 2]) L0 = some (.lst [.int 0, .int 1, .int 1, .int 1, .int 2]) := upd_same
    have I3 := I2.same s3
    generalize upd H2 L0 (HO.lst [.int 0, .int 1, .int 1, .int 1, .int 2]) = H3 at *
    obtain ⟨a3, r3, P3, l3⟩ := id I3.pen
    have nL : L0 ≠ p := fun z => by rw [z, P3.hp] at gL0; cases gL0
    refine ⟨_, rfl, p, c, ms, a3, r3, 5, rfl, P3, by omega, by decide, by decide, fun dn H4 d0 d5 hd => ?_⟩
    obtain ⟨I4, B4⟩ := LI.drawn I3.tab P3 hd
    obtain ⟨n, rfl⟩ := Int.eq_ofNat_of_zero_le d0
    obtain ⟨nl, hnl, enl⟩ : ∃ nl : Nat, nl ≤ 2 ∧ ([V.int 0, V.int 1, V.int 1, V.int 1, V.int 2] : List V)[n]? = some (.int (nl : Int)) := by
      have : n < 5 := by omega
      match n, this with
      | 0, _ => exact ⟨0, by decide, rfl⟩
      | 1, _ => exact ⟨1, by decide, rfl⟩
      | 2, _ => exact ⟨1, by decide, rfl⟩
      | 3, _ => exact ⟨1, by decide, rfl⟩
      | 4, _ => exact ⟨2, by decide, rfl⟩
    refine ⟨L0, _, (n : Int), .int (nl : Int), rfl, rfl, SqL.of (B4 _ _ gL0 nL), atI_nat enl, ?_⟩
    obtain ⟨a4, r4, P4, l4⟩ := id I4.pen
    refine ⟨p, c, ms, a4, r4, nl, 5, rfl, P4, by omega, hnl, by decide, fun Sx t0 H5 hS ok un lo len hd => ?_⟩
    obtain ⟨I5, _⟩ := LI.drawn I4.tab P4 hd
    have n0 : t0.g.a.length ≤ 5 := len 0 (by decide)
    have n1 : (t0.g.l.getD []).length ≤ 5 := len 1 (by decide)
    have n2 : t0.g.b.length ≤ 5 := len 2 (by decide)
    have n3 : (t0.g.s.getD []).length ≤ 5 := len 3 (by decide)
    have n4 : t0.g.h.length ≤ 5 := len 4 (by decide)
    have I5 := I5.mono (B' := 1100 * (i : Int) + 1001) (by omega)
    clear s3 gL0 I3 P3 nL I4 B4 enl P4 I2 hd hL0 len lo
    refine ⟨fun σ H' => ∃ t, σ = [some (.ref a), some (.ref p), some (.int (0 + (i : Int))), some (.ref Sx), x4, x5, x6, x7, x8, x9] ∧ LI TT p c ms (1100 * (i : Int) + 1002) H' ∧ SiteG H' Sx t ∧ t.Ok ∧ 0 < t.us.length + t.ag.length ∧ t.g.a.length ≤ 5 ∧ (t.g.l.getD []).length ≤ 5 ∧ t.g.b.length ≤ 5 ∧ (t.g.s.getD []).length ≤ 5 ∧ t.g.h.length ≤ 5, ?_, ?_⟩
    · obtain ⟨a5, r5, P5, l5⟩ := id I5.pen
      refine ⟨_, rfl, p, c, ms, a5, r5, 5, rfl, P5, by omega, by decide, by decide, fun dd H6 d0 d6 hd => ?_⟩
      obtain ⟨I6, B6⟩ := LI.drawn I5.tab P5 hd
      have hS := hS.but P5 B6
      have I6 := I6.mono (B' := 1100 * (i : Int) + 1002) (by omega)
      refine ⟨rfl, _, rfl, ite2 (fun _ => ?_) (fun _ => ⟨t0, rfl, I6, hS, ok, un, n0, n1, n2, n3, n4⟩)⟩
      obtain ⟨v1, d1, p1⟩ := hS.part ok (j := 1) (z := "loop") rfl
      refine ⟨_, rfl, Sx, v1, rfl, d1, rfl, _, rfl, ite2 (fun _ => ?_) (fun _ => ⟨t0, rfl, I6, hS, ok, un, n0, n1, n2, n3, n4⟩)⟩
      refine ⟨by show 0 ≤ sizeLine; decide, fun q hq => ?_⟩
      have s7 := Same.new (o := .lst []) hq
      have gq : (upd H6 q (.lst [])) q = some (.lst []) := upd_same
      have hS := hS.same s7
      have I7 := I6.same s7
      generalize (upd H6 q (.lst [])) = H7 at *
      obtain ⟨gv, ag, r, vl, vb, vx, vh, vL, e, e1, e2, e6, p1, p2, p3, p4, p5⟩ := hS.ex
      have ep : putK (sk8 (.ref gv) (.ref ag) vl vb vx vh vL (.ref r)) (.inr "loop") (.ref q) = sk8 (.ref gv) (.ref ag) (.ref q) vb vx vh vL (.ref r) := rfl
      refine ⟨_, rfl, Sx, _, rfl, DPut.k (k := .inr "loop") e (by show 8 < sizeLine; decide), ?_⟩
      rw [ep]
      exact ⟨t0.bare, rfl, I7.putD e, ⟨gv, ag, r, .ref q, vb, vx, vh, vL, upd_same, (upd_ne (lst_ne e1 e)).trans e1, (upd_ne (ag_ne e e2)).trans e2, (upd_ne (lst_ne e6 e)).trans e6, p1.putD e, ⟨q, rfl, lots0 ((upd_ne (lst_ne gq e)).trans gq), Nat.zero_le _, nofun⟩, p3.putD e, p4.putD e, p5.putD e⟩, okEmpty ok, un, n0, Nat.zero_le _, n2, n3, n4⟩
    rintro σ H6 ⟨t, rfl, I6, hS, ok, un, n0, n1, n2, n3, n4⟩
    refine ⟨fun σ H' => ∃ t, (∃ y4 y5 : Option V, σ = [some (.ref a), some (.ref p), some (.int (0 + (i : Int))), some (.ref Sx), y4, y5, x6, x7, x8, x9]) ∧ LI TT p c ms (1100 * (i : Int) + 1003) H' ∧ SiteG H' Sx t ∧ t.Ok, ?_, ?_⟩
    · obtain ⟨a6, r6, P6, l6⟩ := id I6.pen
      refine ⟨_, rfl, p, c, ms, a6, r6, 4, rfl, P6, by omega, by decide, by decide, fun dd H7 d0 d4 hd => ?_⟩
      obtain ⟨I7, B7⟩ := LI.drawn I6.tab P6 hd
      have hS := hS.but P6 B7
      have I7 := I7.mono (B' := 1100 * (i : Int) + 1003) (by omega)
      refine ⟨rfl, _, rfl, ite2 (fun _ => ?_) (fun _ => ⟨t, ⟨_, _, rfl⟩, I7, hS, ok⟩)⟩
      clear B7 P6 I6 hd
      obtain ⟨gv, ag, r, vl, vb, vx, vh, vL, e, e1, e2, e6, p1, p2, p3, p4, p5⟩ := id hS.ex
      obtain ⟨La, rfl, ⟨ts, gLa, lts⟩, la200, lo⟩ := p1
      -- the word
      refine ⟨_, rfl, Sx, _, rfl, DGet.k (k := .inr "given") e, _, rfl, Sx, _, rfl, DGet.k (k := .inr "again") e, ag, _, rfl, .inl e2, fun q1 hq1 => ?_⟩
      rw [agKV]
      obtain ⟨z, hz⟩ : ∃ z, (t.us ++ t.ag.map (·.1))[0]? = some z := ⟨_, List.getElem?_eq_getElem (by rw [List.length_append, List.length_map]; omega)⟩
      have hz' : (t.us.map V.str ++ (t.ag.map (·.1)).map V.str)[0]? = some (.str z) := by rw [← List.map_append, List.getElem?_map, hz]; rfl
      have hzm := List.mem_of_getElem? hz
      have lu60 := ok.us.few
      have la60 := ok.ag.few
      refine ⟨gv, q1, _, _, rfl, rfl, Same.new hq1 _ _ e1, upd_same, by rw [List.length_map, List.length_map, List.length_map]; omega, fun q2 hq2 => ?_⟩
      have s9 := (Same.new hq1).trans (Same.new (o := HO.lst (t.us.map V.str ++ (t.ag.map (·.1)).map V.str)) hq2)
      refine ⟨q2, _, ((0 : Nat) : Int), .str z, rfl, rfl, SqL.of upd_same, atI_nat hz', ?_⟩
      generalize upd (upd H7 q1 _) q2 _ = H9 at *
      refine ⟨_, rfl, Sx, t, 0, "ahead", rfl, hS.same s9, ok, rfl, fun H10 s10 => ?_⟩
      have s10 := s9.trans s10
      refine ⟨_, rfl, Sx, t, 2, "between", rfl, hS.same s10, ok, rfl, fun H11 s11 => ?_⟩
      have s11 := s10.trans s11
      refine ⟨_, _, rfl, rfl, ?_⟩
      refine ⟨_, rfl, _, _, rfl, rfl, _, rfl, Sx, t, 4, "behind", rfl, hS.same s11, ok, rfl, fun H12 s12 => ?_⟩
      have s12 := s11.trans s12
      refine ⟨_, _, rfl, rfl, ?_⟩
      obtain ⟨n, en, hn⟩ : ∃ n : Nat, (198 : Int) - ((((t.g.at 0).getD []).length : Nat) + (((t.g.at 2).getD []).length : Nat)) - (((t.g.at 4).getD []).length : Nat) = (n : Int) ∧ t.g.a.length + n + t.g.b.length + t.g.h.length = 198 := by
        refine ⟨198 - t.g.a.length - t.g.b.length - t.g.h.length, ?_, by omega⟩
        show (198 : Int) - ((t.g.a.length : Int) + (t.g.b.length : Int)) - (t.g.h.length : Int) = _
        omega
      dsimp only
      rw [en]
      -- the deeds ahead
      refine ⟨_, rfl, Sx, _, rfl, DGet.k (k := .inr "ahead") (s12 _ _ e), ?_⟩
      refine ⟨_, rfl, by show 1 ≤ sizeLine; decide, fun u hu1 => ?_⟩
      have s13 := Same.new (o := HO.lst [.str z]) hu1
      have gu : upd H12 u (HO.lst [.str z]) u = some (.lst [.str z]) := upd_same
      generalize upd H12 u (HO.lst [.str z]) = H13 at *
      refine ⟨by show 2 ≤ sizeLine; decide, fun t1 ht1 => ?_⟩
      have s14 := Same.new (o := HO.tup [.non, .ref u]) ht1
      have gt : upd H13 t1 (HO.tup [.non, .ref u]) t1 = some (.tup [.non, .ref u]) := upd_same
      generalize upd H13 t1 (HO.tup [.non, .ref u]) = H14 at *
      refine ⟨by show 1 ≤ sizeLine; decide, fun l1 hl1 => ?_⟩
      have s15 := Same.new (o := HO.lst [.ref t1]) hl1
      have g1 : upd H14 l1 (HO.lst [.ref t1]) l1 = some (.lst [.ref t1]) := upd_same
      generalize upd H14 l1 (HO.lst [.ref t1]) = H15 at *
      refine ⟨_, rfl, l1, (n : Int), _, rfl, rfl, g1, by omega, by omega, by show 1 * (n : Int).toNat ≤ sizeLine; omega, fun l2 hl2 => ?_⟩
      rw [show (n : Int).toNat = n from rfl, List.flatten_replicate_singleton]
      have s16 := Same.new (o := HO.lst (List.replicate n (V.ref t1))) hl2
      have g2 : upd H15 l2 (HO.lst (List.replicate n (V.ref t1))) l2 = some (.lst (List.replicate n (V.ref t1))) := upd_same
      generalize upd H15 l2 (HO.lst (List.replicate n (V.ref t1))) = H16 at *
      have s1216 := s13.trans (s14.trans (s15.trans s16))
      have s716 := s12.trans s1216
      have lts1 : ts.length ≤ 5 := by rw [lts.1]; exact n0
      refine ⟨La, l2, _, _, rfl, rfl, s716 _ _ gLa, g2, by rw [List.length_map, List.length_replicate]; omega, fun l3 hl3 => ?_⟩
      have s17 := Same.new (o := HO.lst (ts.map V.ref ++ List.replicate n (V.ref t1))) hl3
      have g3 : upd H16 l3 (HO.lst (ts.map V.ref ++ List.replicate n (V.ref t1))) l3 = some (.lst (ts.map V.ref ++ List.replicate n (V.ref t1))) := upd_same
      generalize upd H16 l3 (HO.lst (ts.map V.ref ++ List.replicate n (V.ref t1))) = H17 at *
      have s717 := s716.trans s17
      have s1417 := s15.trans (s16.trans s17)
      have gt := s1417 _ _ gt
      have gu := s14.trans s1417 _ _ gu
      have I17 := I7.same s717
      have hS := hS.same s717
      have e := s717 _ _ e
      have e1 := s717 _ _ e1
      have e2 : AgD H17 ag t.ag := s717 _ _ e2
      have e6 := s717 _ _ e6
      have p2 := p2.same s717
      have p3 := p3.same s717
      have p4 := p4.same s717
      have p5 := p5.same s717
      have lotsN : LotsAt H17 l3 (t.g.a ++ many_ n z) := ⟨ts ++ List.replicate n t1, by rw [g3, List.map_append, List.map_replicate], (lts.same s717).app (lotsMany gt gu n)⟩
      have ep : putK (sk8 (.ref gv) (.ref ag) vl vb vx vh (.ref La) (.ref r)) (.inr "ahead") (.ref l3) = sk8 (.ref gv) (.ref ag) vl vb vx vh (.ref l3) (.ref r) := rfl
      have nz : nm z = true := by
        rcases List.mem_append.mp hzm with q | q
        · exact ok.us.nm_ z q
        · obtain ⟨w2, hw, rfl⟩ := List.mem_map.mp q
          exact ok.ag.nm_ w2 hw
      have pt : PtI H17 (.ref l3) (some (t.g.a ++ many_ n z)) := ⟨l3, rfl, lotsN, by rw [List.length_append, show (many_ n z).length = n from List.length_replicate]; omega, fun y hy => (List.mem_append.mp hy).elim (lo y) fun q => by
        rw [List.eq_of_mem_replicate q]
        exact ⟨⟨by simp, fun y hy => by rw [List.mem_singleton.mp hy]; exact nz⟩, (show 1 ≤ 3 by decide), nofun, fun _ => (show 0 < 1 by decide)⟩⟩
      refine ⟨_, rfl, Sx, _, rfl, DPut.k (k := .inr "ahead") e (by show 8 < sizeLine; decide), ?_⟩
      rw [ep]
      exact ⟨t.long n z, ⟨_, _, rfl⟩, I17.putD e, ⟨gv, ag, r, vl, vb, vx, vh, .ref l3, upd_same, (upd_ne (lst_ne e1 e)).trans e1, (upd_ne (ag_ne e e2)).trans e2, (upd_ne (lst_ne e6 e)).trans e6, pt.putD e, p2.putD e, p3.putD e, p4.putD e, p5.putD e⟩, okLong ok hzm (by omega) n1 n3⟩
    rintro σ H7 ⟨t, ⟨y4, y5, rfl⟩, I7, hS, ok⟩
    -- the program, and an odd value
    refine ⟨_, rfl, Sx, t, rfl, hS, ok, fun x H8 s8 ip => ?_⟩
    have hS := hS.same s8
    have I8 := I7.same s8
    refine ⟨_, rfl, 1, rfl, ?_⟩
    refine ⟨by show 1 ≤ sizeLine; decide, fun tq htq => ?_⟩
    have s9 := Same.new (o := HO.tup [.int 2]) htq
    have gq : upd H8 tq (HO.tup [.int 2]) tq = some (.tup [.int 2]) := upd_same
    generalize upd H8 tq (HO.tup [.int 2]) = H9 at *
    refine ⟨10, 59, rfl, rfl, ⟨by decide, by decide, by decide⟩, ?_⟩
    refine ⟨by show 7 ≤ sizeLine; decide, fun L1 hL1 => ?_⟩
    have s10 := Same.new (o := HO.lst [.int (-1), .bl true, .non, .str (Str.ofString "2"), .ref tq, .int (10 ^ (59 : Int).toNat), .bl false]) hL1
    have gL1 : upd H9 L1 (HO.lst [.int (-1), .bl true, .non, .str (Str.ofString "2"), .ref tq, .int (10 ^ (59 : Int).toNat), .bl false]) L1 = some (.lst [.int (-1), .bl true, .non, .str (Str.ofString "2"), .ref tq, .int (10 ^ (59 : Int).toNat), .bl false]) := upd_same
    have I10 := (I8.same s9).same s10
    have gq := s10 _ _ gq
    have hS := (hS.same s9).same s10
    have ip := (ip.same s9).same s10
    generalize upd H9 L1 (HO.lst [.int (-1), .bl true, .non, .str (Str.ofString "2"), .ref tq, .int (10 ^ (59 : Int).toNat), .bl false]) = H10 at *
    obtain ⟨a10, r10, P10, l10⟩ := id I10.pen
    refine ⟨p, c, ms, a10, r10, .ref L1, rfl, P10, by omega, .inl ⟨L1, _, rfl, SqL.of gL1, (fun z => by rw [z, P10.hp] at gL1; cases gL1), (show 0 < 7 by decide), (show 7 < 1000 by decide), fun vo H11 hv hd => ?_⟩⟩
    obtain ⟨I11, B11⟩ := LI.drawn I10.tab P10 hd
    have I11 := I11.mono (B' := 1100 * (i : Int) + 1004) (by omega)
    have gq := B11 _ _ gq fun z => by rw [z, P10.hp] at gq; cases gq
    have ov : Odd H11 vo := by
      simp only [List.mem_cons, List.not_mem_nil, or_false] at hv
      rcases hv with rfl | rfl | rfl | rfl | rfl | rfl | rfl
      · exact .m1
      · exact .bl true
      · exact .no
      · exact .st
      · exact .tu tq gq
      · exact .big
      · exact .bl false
    have hS := hS.but P10 B11
    have ip := IsP.kl (But.kl P10 B11) ip
    clear gL1 hv hd B11 P10 I10 s8 s9 s10 I7 I8 gq hL1 htq
    -- powers
    refine ⟨3, rfl, by decide, by decide, ?_⟩
    refine for_range (n := 3) (fun j σ H' => LI TT p c ms (1100 * (i : Int) + 1004 + j) H' ∧ SiteG H' Sx t ∧ IsP K d H' x C t ∧ Odd H' vo ∧ ∃ y8 : Option V, σ = [some (.ref a), some (.ref p), some (.int (0 + (i : Int))), some (.ref Sx), y4, y5, some (.ref x), some vo, y8, x9]) ⟨I11.mono (by omega), hS, ip, ov, _, rfl⟩ (fun j σ H12 hj ⟨I12, hS, ip, ov, y8, eσ⟩ => ?_) (fun σ H12 ⟨I12, hS, ip, ov, y8, eσ⟩ => ?_)
    · subst eσ
      refine ⟨_, rfl, _, rfl, _, rfl, by show 12 ≤ sizeLine; decide, fun L2 hL2 => ?_⟩
      have s13 := Same.new (o := HO.lst [.int 0, .int 1, .int 2, .int 3, .int 4, .int 5, .int 6, .int 8, .int 12, .int 24, .int 25, .int 64]) hL2
      have gL2 : upd H12 L2 (HO.lst [.int 0, .int 1, .int 2, .int 3, .int 4, .int 5, .int 6, .int 8, .int 12, .int 24, .int 25, .int 64]) L2 = some (.lst [.int 0, .int 1, .int 2, .int 3, .int 4, .int 5, .int 6, .int 8, .int 12, .int 24, .int 25, .int 64]) := upd_same
      have I13 := I12.same s13
      have hS := hS.same s13
      have ip := ip.same s13
      have ov := ov.up fun q g => s13 _ _ g
      generalize upd H12 L2 (HO.lst [.int 0, .int 1, .int 2, .int 3, .int 4, .int 5, .int 6, .int 8, .int 12, .int 24, .int 25, .int 64]) = H13 at *
      obtain ⟨a13, r13, P13, l13⟩ := id I13.pen
      refine ⟨p, c, ms, a13, r13, .ref L2, rfl, P13, by omega, .inl ⟨L2, _, rfl, SqL.of gL2, (fun z => by rw [z, P13.hp] at gL2; cases gL2), by decide, by decide, fun v H14 hv hd => ?_⟩⟩
      obtain ⟨I14, B14⟩ := LI.drawn I13.tab P13 hd
      have hS := hS.but P13 B14
      have ip := IsP.kl (But.kl P13 B14) ip
      have ov := ov.but P13 B14
      obtain ⟨n, hn, rfl⟩ : ∃ n : Nat, n ∈ menuJ ∧ v = .int (n : Int) := by
        simp only [List.mem_cons, List.not_mem_nil, or_false] at hv
        rcases hv with rfl | rfl | rfl | rfl | rfl | rfl | rfl | rfl | rfl | rfl | rfl | rfl
        · exact ⟨0, by decide, rfl⟩
        · exact ⟨1, by decide, rfl⟩
        · exact ⟨2, by decide, rfl⟩
        · exact ⟨3, by decide, rfl⟩
        · exact ⟨4, by decide, rfl⟩
        · exact ⟨5, by decide, rfl⟩
        · exact ⟨6, by decide, rfl⟩
        · exact ⟨8, by decide, rfl⟩
        · exact ⟨12, by decide, rfl⟩
        · exact ⟨24, by decide, rfl⟩
        · exact ⟨25, by decide, rfl⟩
        · exact ⟨64, by decide, rfl⟩
      refine ⟨Sx, x, t, n, rfl, hn, hS, ip, ok, I14.tab, fun H15 e15 t15 => ⟨true, rfl, iteF ?_⟩⟩
      exact ⟨(I14.mono (by omega)).ext e15 t15, hS.ext e15, ip.ext e15, ov.up fun q g => e15 _ _ g nofun, _, rfl⟩
    · subst eσ
      -- turned and unrolled
      obtain ⟨a12, r12, P12, l12⟩ := id I12.pen
      refine ⟨_, rfl, p, c, ms, a12, r12, 7, rfl, P12, by omega, by decide, by decide, fun d1 H13 d1l d1h hd => ?_⟩
      obtain ⟨I13, B13⟩ := LI.drawn I12.tab P12 hd
      have hS := hS.but P12 B13
      have ip := IsP.kl (But.kl P12 B13) ip
      have ov := ov.but P12 B13
      obtain ⟨a13, r13, P13, l13⟩ := id I13.pen
      refine ⟨_, rfl, p, c, ms, a13, r13, 26, rfl, P13, by omega, by decide, by decide, fun d2 H14 d2l d2h hd2 => ?_⟩
      obtain ⟨I14, B14⟩ := LI.drawn I13.tab P13 hd2
      have hS := hS.but P13 B14
      have ip := IsP.kl (But.kl P13 B14) ip
      have ov := ov.but P13 B14
      have I14 := I14.mono (B' := 1100 * ((i + 1 : Nat) : Int)) (by omega)
      refine ⟨_, rfl, by show 6 ≤ sizeLine; decide, fun L3 hL3 => ?_⟩
      have s15 := Same.new (o := HO.lst [.int 0, .int 1, .int 2, .int d1, .int d2, vo]) hL3
      have gL3 : upd H14 L3 (HO.lst [.int 0, .int 1, .int 2, .int d1, .int d2, vo]) L3 = some (.lst [.int 0, .int 1, .int 2, .int d1, .int d2, vo]) := upd_same
      have I15 := I14.same s15
      have hS := hS.same s15
      have ip := ip.same s15
      have ov := ov.up fun q g => s15 _ _ g
      generalize upd H14 L3 (HO.lst [.int 0, .int 1, .int 2, .int d1, .int d2, vo]) = H15 at *
      refine ⟨L3, rfl, ⟨_, SqL.of gL3⟩, ?_⟩
      refine for_list (xs := [.int 0, .int 1, .int 2, .int d1, .int d2, vo]) (fun j σ H' => H' L3 = some (.lst [.int 0, .int 1, .int 2, .int d1, .int d2, vo]) ∧ LI TT p c ms (1100 * ((i + 1 : Nat) : Int)) H' ∧ SiteG H' Sx t ∧ IsP K d H' x C t ∧ Odd H' vo ∧ ∃ y9 : Option V, σ = [some (.ref a), some (.ref p), some (.int (0 + (i : Int))), some (.ref Sx), y4, y5, some (.ref x), some vo, y8, y9]) ⟨gL3, I15, hS, ip, ov, _, rfl⟩ (fun j σ H' _ z => SqL.of z.1) (fun j v σ H16 hv ⟨g16, I16, hS, ip, ov, y9, eσ⟩ => ?_) (fun σ H16 ⟨_, I16, _, _, _, y9, eσ⟩ => ⟨I16, _, _, _, _, _, _, _, _, eσ⟩)
      subst eσ
      have kind : (∃ n : Nat, n ≤ 25 ∧ v = .int (n : Int)) ∨ v = vo := by
        have hm := List.mem_of_getElem? hv
        simp only [List.mem_cons, List.not_mem_nil, or_false] at hm
        obtain ⟨m1, rfl⟩ := Int.eq_ofNat_of_zero_le d1l
        obtain ⟨m2, rfl⟩ := Int.eq_ofNat_of_zero_le d2l
        rcases hm with rfl | rfl | rfl | rfl | rfl | rfl
        · exact .inl ⟨0, by decide, rfl⟩
        · exact .inl ⟨1, by decide, rfl⟩
        · exact .inl ⟨2, by decide, rfl⟩
        · exact .inl ⟨m1, by omega, rfl⟩
        · exact .inl ⟨m2, by omega, rfl⟩
        · exact .inr rfl
      have asks : ∀ H', Odd H' vo → ∃ r, Cn K H' v r ∧ ∃ dv, SmD K H' v dv := fun H' o => by
        rcases kind with ⟨n, hn, rfl⟩ | rfl
        · exact ⟨some n, .yes n rfl, _, sm_int n (by omega)⟩
        · exact o.ask
      obtain ⟨r1, cn1, sd1⟩ := asks H16 ov
      refine ⟨_, rfl, _, rfl, _, rfl, Sx, x, t, v, r1, rfl, hS, ip, ok, cn1, sd1, I16.tab, fun H17 e17 t17 => ⟨true, rfl, iteF ?_⟩⟩
      have I17 := I16.ext e17 t17
      have hS := hS.ext e17
      have ip := ip.ext e17
      have ov := ov.up fun q g => e17 _ _ g nofun
      have g17 := e17 _ _ g16 nofun
      obtain ⟨r2, cn2, sd2⟩ := asks H17 ov
      refine ⟨_, rfl, _, rfl, _, rfl, Sx, x, t, v, r2, rfl, hS, ip, ok, cn2, sd2, I17.tab, fun H18 e18 t18 => ⟨true, rfl, iteF ?_⟩⟩
      exact ⟨e18 _ _ g17 nofun, I17.ext e18 t18, hS.ext e18, ip.ext e18, ov.up fun q g => e18 _ _ g nofun, _, rfl⟩
end
end K06

set_option Elab.async false
set_option linter.all false
set_option maxRecDepth 100000
set_option maxHeartbeats 8000000
namespace K06
open PySem L2 NX NU LamX PySem.Spec PyProof.Rows
abbrev sErrB : Stmt := inClass (top 5) 0
theorem scErrB : FnScope ["self", "value"] ["self", "value"] (defScope sErrB) := ⟨rfl, rfl, rfl, by decide +kernel, rfl, by decide +kernel, by decide +kernel⟩
section
variable {P : Program} {w : World} {K : PySem.W.Frag} {mg : Str → Option Value} {base : Heap}
theorem ok_errB {f : Addr} {fd : FuncData} (F : Fun K "__init__" "BadNumber.__init__" sErrB f fd) : FnOk P w K mg base CX0 1 f fd ["self", "value"] (spErr K "value") := by
  refine F.ok scErrB (fun vs H Q E h => ?_) (fun cdv A outer s H vs Q E hr h => ?_)
  · obtain ⟨a, C, v, rfl, _⟩ := h
    rfl
  · obtain ⟨a, C, v, rfl, T, hf, ha, k⟩ := h
    exact ⟨_, (pss_one (ps_ost (pv 0) (pv 1))), _, rfl, _, rfl, a, C, rfl, T, hf, .inl ⟨ha, fun dx h1 h2 => k dx h1 h2⟩⟩
end
structure HeadF (K : PySem.W.Frag) (CS CD pNm c18 c21 c0 c1 c4 c10 c11 dU dM dD cP i0 i1 i4 i10 i11 fU fM fD fNm fEq g0 g1 g2 g3 g4 g5 g6 g7 g8 g9 fPw fUn fTu fPE p0 p1 p2 p3 p4 p5 p6 p7 p8 p9 fP fSt tPA tLO t0 t1 t2 t3 t4 fIs fNum fCnt fPri fCns fCun fAsc fCus fCp fCz fCt fAn fCv fCd fCol fRep fWp fPen fDraw fPick fSome fNames fReal fOr fDs fSi fRp fRl fHeard fMn fWr fPd fUd fTd fKp fLp fLaw fPr cPr pPr fUr cUr pUr fTr cTr pTr : Addr) : Prop where
  n_int : PySem.W.nsIn K mainGlobals "int" = some none
  n_len : PySem.W.nsIn K mainGlobals "len" = some none
  n_abs : PySem.W.nsIn K mainGlobals "abs" = some none
  n_list : PySem.W.nsIn K mainGlobals "list" = some none
  n_str : PySem.W.nsIn K mainGlobals "str" = some none
  n_tuple : PySem.W.nsIn K mainGlobals "tuple" = some none
  n_isinstance : PySem.W.nsIn K mainGlobals "isinstance" = some none
  n_repr : PySem.W.nsIn K mainGlobals "repr" = some none
  n_range : PySem.W.nsIn K mainGlobals "range" = some none
  n_enumerate : PySem.W.nsIn K mainGlobals "enumerate" = some none
  n_ValueError : PySem.W.nsIn K mainGlobals "ValueError" = some none
  n_set : PySem.W.nsIn K mainGlobals "set" = some none
  n_sorted : PySem.W.nsIn K mainGlobals "sorted" = some none
  n_min : PySem.W.nsIn K mainGlobals "min" = some none
  n_bool : PySem.W.nsIn K mainGlobals "bool" = some none
  n_dict : PySem.W.nsIn K mainGlobals "dict" = some none
  n_reversed : PySem.W.nsIn K mainGlobals "reversed" = some none
  gLet : ∃ t, PySem.W.nsIn K mainGlobals "LETTERS" = some (some (.str "abcdefghijklmnopqrstuvwxyz" t))
  gMost : ∃ t, PySem.W.nsIn K mainGlobals "MOST_LETTERS" = some (some (.int 6 t))
  gPrice : ∃ t, PySem.W.nsIn K mainGlobals "MOST_PRICE" = some (some (.int 9 t))
  gAh : ∃ t, PySem.W.nsIn K mainGlobals "MOST_AHEAD" = some (some (.int 200 t))
  gIn : ∃ t, PySem.W.nsIn K mainGlobals "MOST_IN_PART" = some (some (.int 24 t))
  gNa : ∃ t, PySem.W.nsIn K mainGlobals "MOST_NAMES" = some (some (.int 6 t))
  gPA : PySem.W.nsIn K mainGlobals "PARTS" = some (some (.ref tPA))
  gLO : PySem.W.nsIn K mainGlobals "LOOPS" = some (some (.ref tLO))
  sPA : ∀ H : Hp, SqT K H tPA ((["ahead", "loop", "between", "second", "behind"] : List Str).map V.str)
  sLO : ∀ H : Hp, SqT K H tLO ((["loop", "second"] : List Str).map V.str)
  s_t1 : ∀ H : Hp, SqT K H t1 (([] : List Str).map V.str)
  s_t2 : ∀ H : Hp, SqT K H t2 (([] : List Str).map V.str)
  base : BaseF K CS
  e0 : ErrF K "BadName" "value" c0 i0 CS
  e1 : ErrF K "BadDeed" "value" c1 i1 CS
  e4 : ErrF K "BadNumber" "value" c4 i4 CS
  e10 : ErrF K "Twice" "name" c10 i10 CS
  e11 : ErrF K "TooMany" "most" c11 i11 CS
  g18_ : PySem.W.nsIn K mainGlobals "NoLoop" = some (some (.ref c18))
  q18 : PySem.W.excIn K c18 [.type "ValueError", .type "Exception", .type "BaseException", .type "object"] "ValueError.__new__" = true
  kp18 : PySem.W.keepIn K (.ref c18) = true
  ty18 : PySem.W.typeIn K (.ref c18) = some (.type "type")
  ga18 : PySem.W.findIn K (.ref c18) "__getattribute__" = some (some (.builtin "BaseException.__getattribute__"))
  gg18 : PySem.W.findIn K (.ref c18) "__getattr__" = some none
  ex18 : PySem.W.subIn K (.ref c18) (.type "BaseException") = some true
  hd18 : PySem.W.hasDictIn K c18 = true
  cl18 : PySem.W.findIn K (.ref c18) "__class__" = some (some (.builtin "object.__class__"))
  ob18 : PySem.W.mroIn K c18 (.type "object") = some true
  sS18 : PySem.W.subIn K (.ref c18) (.ref CS) = some true
  sV18 : PySem.W.subIn K (.ref c18) (.type "ValueError") = some true
  g21_ : PySem.W.nsIn K mainGlobals "TwoLoops" = some (some (.ref c21))
  q21 : PySem.W.excIn K c21 [.type "ValueError", .type "Exception", .type "BaseException", .type "object"] "ValueError.__new__" = true
  kp21 : PySem.W.keepIn K (.ref c21) = true
  ty21 : PySem.W.typeIn K (.ref c21) = some (.type "type")
  ga21 : PySem.W.findIn K (.ref c21) "__getattribute__" = some (some (.builtin "BaseException.__getattribute__"))
  gg21 : PySem.W.findIn K (.ref c21) "__getattr__" = some none
  ex21 : PySem.W.subIn K (.ref c21) (.type "BaseException") = some true
  hd21 : PySem.W.hasDictIn K c21 = true
  cl21 : PySem.W.findIn K (.ref c21) "__class__" = some (some (.builtin "object.__class__"))
  ob21 : PySem.W.mroIn K c21 (.type "object") = some true
  sS21 : PySem.W.subIn K (.ref c21) (.ref CS) = some true
  sV21 : PySem.W.subIn K (.ref c21) (.type "ValueError") = some true
  k4_11 : PySem.W.kitOne K (.ref c4) (.ref c11) = some false
  k4_18 : PySem.W.kitOne K (.ref c4) (.ref c18) = some false
  k4_21 : PySem.W.kitOne K (.ref c4) (.ref c21) = some false
  k11_4 : PySem.W.kitOne K (.ref c11) (.ref c4) = some false
  k11_18 : PySem.W.kitOne K (.ref c11) (.ref c18) = some false
  k11_21 : PySem.W.kitOne K (.ref c11) (.ref c21) = some false
  k18_4 : PySem.W.kitOne K (.ref c18) (.ref c4) = some false
  k18_11 : PySem.W.kitOne K (.ref c18) (.ref c11) = some false
  k18_21 : PySem.W.kitOne K (.ref c18) (.ref c21) = some false
  k21_4 : PySem.W.kitOne K (.ref c21) (.ref c4) = some false
  k21_11 : PySem.W.kitOne K (.ref c21) (.ref c11) = some false
  k21_18 : PySem.W.kitOne K (.ref c21) (.ref c18) = some false
  kU : ClsF K "Use" dU fU
  kU_uses : PySem.W.findIn K (.ref dU) "uses" = some none
  kU_makes : PySem.W.findIn K (.ref dU) "makes" = some none
  kU_names : PySem.W.findIn K (.ref dU) "_names" = some none
  kU_nm : PySem.W.findIn K (.ref dU) "names" = some (some (.ref pNm))
  kU_CD : PySem.W.kitOne K (.ref dU) (.ref CD) = some true
  kU_eq : PySem.W.findIn K (.ref dU) "__eq__" = some (some (.ref fEq))
  kU_ne : PySem.W.findIn K (.ref dU) "__ne__" = some (some (.builtin "object.__ne__"))
  kU_cl : PySem.W.findIn K (.ref dU) "__class__" = some (some (.builtin "object.__class__"))
  kU_ob : PySem.W.mroIn K dU (.type "object") = some true
  kM : ClsF K "Make" dM fM
  kM_uses : PySem.W.findIn K (.ref dM) "uses" = some none
  kM_makes : PySem.W.findIn K (.ref dM) "makes" = some none
  kM_names : PySem.W.findIn K (.ref dM) "_names" = some none
  kM_nm : PySem.W.findIn K (.ref dM) "names" = some (some (.ref pNm))
  kM_CD : PySem.W.kitOne K (.ref dM) (.ref CD) = some true
  kM_eq : PySem.W.findIn K (.ref dM) "__eq__" = some (some (.ref fEq))
  kM_ne : PySem.W.findIn K (.ref dM) "__ne__" = some (some (.builtin "object.__ne__"))
  kM_cl : PySem.W.findIn K (.ref dM) "__class__" = some (some (.builtin "object.__class__"))
  kM_ob : PySem.W.mroIn K dM (.type "object") = some true
  kD : ClsF K "Do" dD fD
  kD_uses : PySem.W.findIn K (.ref dD) "uses" = some none
  kD_makes : PySem.W.findIn K (.ref dD) "makes" = some none
  kD_names : PySem.W.findIn K (.ref dD) "_names" = some none
  kD_nm : PySem.W.findIn K (.ref dD) "names" = some (some (.ref pNm))
  kD_CD : PySem.W.kitOne K (.ref dD) (.ref CD) = some true
  kD_eq : PySem.W.findIn K (.ref dD) "__eq__" = some (some (.ref fEq))
  kD_ne : PySem.W.findIn K (.ref dD) "__ne__" = some (some (.builtin "object.__ne__"))
  kD_cl : PySem.W.findIn K (.ref dD) "__class__" = some (some (.builtin "object.__class__"))
  kD_ob : PySem.W.mroIn K dD (.type "object") = some true
  kP : ClsF K "Program" cP fP
  kP_names : PySem.W.findIn K (.ref cP) "_names" = some none
  kP_parts : PySem.W.findIn K (.ref cP) "_parts" = some none
  kP_given : PySem.W.findIn K (.ref cP) "_given" = some none
  kP_again : PySem.W.findIn K (.ref cP) "_again" = some none
  kP_results : PySem.W.findIn K (.ref cP) "_results" = some none
  kP_eq : PySem.W.findIn K (.ref cP) "__eq__" = some (some (.ref fPE))
  kP_ne : PySem.W.findIn K (.ref cP) "__ne__" = some (some (.builtin "object.__ne__"))
  kP_cl : PySem.W.findIn K (.ref cP) "__class__" = some (some (.builtin "object.__class__"))
  kP_ob : PySem.W.mroIn K cP (.type "object") = some true
  a_p0 : PySem.W.findIn K (.ref cP) "ahead" = some (some (.ref p0))
  a_p1 : PySem.W.findIn K (.ref cP) "loop" = some (some (.ref p1))
  a_p2 : PySem.W.findIn K (.ref cP) "between" = some (some (.ref p2))
  a_p3 : PySem.W.findIn K (.ref cP) "second" = some (some (.ref p3))
  a_p4 : PySem.W.findIn K (.ref cP) "behind" = some (some (.ref p4))
  a_p5 : PySem.W.findIn K (.ref cP) "given" = some (some (.ref p5))
  a_p6 : PySem.W.findIn K (.ref cP) "again" = some (some (.ref p6))
  a_p7 : PySem.W.findIn K (.ref cP) "results" = some (some (.ref p7))
  a_p8 : PySem.W.findIn K (.ref cP) "names" = some (some (.ref p8))
  a_p9 : PySem.W.findIn K (.ref cP) "loops" = some (some (.ref p9))
  pNm_g : PySem.W.specialIn K (.ref pNm) "__get__" = some (some (.builtin "property.__get__"))
  pNm_t : PySem.W.takesIn K (.ref pNm) = some true
  pNm_r : ∃ rest, PySem.W.recIn K pNm "property" = some (Value.ref fNm :: rest)
  p0_g : PySem.W.specialIn K (.ref p0) "__get__" = some (some (.builtin "property.__get__"))
  p0_t : PySem.W.takesIn K (.ref p0) = some true
  p0_r : ∃ rest, PySem.W.recIn K p0 "property" = some (Value.ref g0 :: rest)
  p1_g : PySem.W.specialIn K (.ref p1) "__get__" = some (some (.builtin "property.__get__"))
  p1_t : PySem.W.takesIn K (.ref p1) = some true
  p1_r : ∃ rest, PySem.W.recIn K p1 "property" = some (Value.ref g1 :: rest)
  p2_g : PySem.W.specialIn K (.ref p2) "__get__" = some (some (.builtin "property.__get__"))
  p2_t : PySem.W.takesIn K (.ref p2) = some true
  p2_r : ∃ rest, PySem.W.recIn K p2 "property" = some (Value.ref g2 :: rest)
  p3_g : PySem.W.specialIn K (.ref p3) "__get__" = some (some (.builtin "property.__get__"))
  p3_t : PySem.W.takesIn K (.ref p3) = some true
  p3_r : ∃ rest, PySem.W.recIn K p3 "property" = some (Value.ref g3 :: rest)
  p4_g : PySem.W.specialIn K (.ref p4) "__get__" = some (some (.builtin "property.__get__"))
  p4_t : PySem.W.takesIn K (.ref p4) = some true
  p4_r : ∃ rest, PySem.W.recIn K p4 "property" = some (Value.ref g4 :: rest)
  p5_g : PySem.W.specialIn K (.ref p5) "__get__" = some (some (.builtin "property.__get__"))
  p5_t : PySem.W.takesIn K (.ref p5) = some true
  p5_r : ∃ rest, PySem.W.recIn K p5 "property" = some (Value.ref g5 :: rest)
  p6_g : PySem.W.specialIn K (.ref p6) "__get__" = some (some (.builtin "property.__get__"))
  p6_t : PySem.W.takesIn K (.ref p6) = some true
  p6_r : ∃ rest, PySem.W.recIn K p6 "property" = some (Value.ref g6 :: rest)
  p7_g : PySem.W.specialIn K (.ref p7) "__get__" = some (some (.builtin "property.__get__"))
  p7_t : PySem.W.takesIn K (.ref p7) = some true
  p7_r : ∃ rest, PySem.W.recIn K p7 "property" = some (Value.ref g7 :: rest)
  p8_g : PySem.W.specialIn K (.ref p8) "__get__" = some (some (.builtin "property.__get__"))
  p8_t : PySem.W.takesIn K (.ref p8) = some true
  p8_r : ∃ rest, PySem.W.recIn K p8 "property" = some (Value.ref g8 :: rest)
  p9_g : PySem.W.specialIn K (.ref p9) "__get__" = some (some (.builtin "property.__get__"))
  p9_t : PySem.W.takesIn K (.ref p9) = some true
  p9_r : ∃ rest, PySem.W.recIn K p9 "property" = some (Value.ref g9 :: rest)
  a_fSt : PySem.W.findIn K (.ref cP) "straight" = some (some (.ref fSt))
  f_fSt : PySem.W.isFn K (.ref fSt) = true
  a_fPw : PySem.W.findIn K (.ref cP) "__pow__" = some (some (.ref fPw))
  f_fPw : PySem.W.isFn K (.ref fPw) = true
  a_fUn : PySem.W.findIn K (.ref cP) "unrolled" = some (some (.ref fUn))
  f_fUn : PySem.W.isFn K (.ref fUn) = true
  a_fTu : PySem.W.findIn K (.ref cP) "turned" = some (some (.ref fTu))
  f_fTu : PySem.W.isFn K (.ref fTu) = true
  f_fEq : PySem.W.isFn K (.ref fEq) = true
  f_fPE : PySem.W.isFn K (.ref fPE) = true
  nfP : PySem.W.notFirst K cP (.ref cP) = true
  sfP : PySem.W.selfFirst K cP = true
  rpw : PySem.W.findIn K (.ref cP) "__rpow__" = some none
  ip1 : ∃ o, PySem.W.findIn K (.type "int") "__pow__" = some o
  ip2 : ∃ o, PySem.W.findIn K (.type "int") "__rpow__" = some o
  isb : PySem.W.subIn K (.type "int") (.ref cP) = some false
  gD : PySem.W.nsIn K mainGlobals "Deed" = some (some (.ref CD))
  rdCD : RdF K CD
  mostCD : ∃ t, PySem.W.findCls K (.ref CD) (.type "type") "MOST" = some (.val (.int 3 t))
  w_fP : ∃ fd, L2.FunD K "__init__" "Program.__init__" (defArgs sPi) (defBody sPi) (defScope sPi) (dvsP t0 t1 t2) (kwsP t3 t4) fP fd
  w_fSt : ∃ fd, L2.FunD K "straight" "Program.straight" (defArgs sSt) (defBody sSt) (defScope sSt) [.int 0, .int 0] [] fSt fd
  w_i0 : FnF K "__init__" "BadName.__init__" sErrN i0
  w_i1 : FnF K "__init__" "BadDeed.__init__" sErrD i1
  w_i4 : FnF K "__init__" "BadNumber.__init__" sErrB i4
  w_i10 : FnF K "__init__" "Twice.__init__" sErrT i10
  w_i11 : FnF K "__init__" "TooMany.__init__" sErrM i11
  w_fU : FnF K "__init__" "Use.__init__" sUse fU
  w_fM : FnF K "__init__" "Make.__init__" sMake fM
  w_fD : FnF K "__init__" "Do.__init__" sDo fD
  w_fNm : FnF K "names" "Deed.names" sNames fNm
  w_fEq : FnF K "__eq__" "Deed.__eq__" sDEq fEq
  w_g0 : FnF K "ahead" "Program.ahead" (sPt 0) g0
  w_g1 : FnF K "loop" "Program.loop" (sPt 1) g1
  w_g2 : FnF K "between" "Program.between" (sPt 2) g2
  w_g3 : FnF K "second" "Program.second" (sPt 3) g3
  w_g4 : FnF K "behind" "Program.behind" (sPt 4) g4
  w_g5 : FnF K "given" "Program.given" (sPt 5) g5
  w_g6 : FnF K "again" "Program.again" (sPt 6) g6
  w_g7 : FnF K "results" "Program.results" (sPt 7) g7
  w_g8 : FnF K "names" "Program.names" (sPt 8) g8
  w_g9 : FnF K "loops" "Program.loops" (sPt 9) g9
  w_fPw : FnF K "__pow__" "Program.__pow__" sPw fPw
  w_fUn : FnF K "unrolled" "Program.unrolled" sUn fUn
  w_fTu : FnF K "turned" "Program.turned" sTu fTu
  w_fPE : FnF K "__eq__" "Program.__eq__" sPEq fPE
  g_fIs : PySem.W.nsIn K mainGlobals "is_name" = some (some (.ref fIs))
  w_fIs : FnF K "is_name" "is_name" sIs fIs
  g_fNum : PySem.W.nsIn K mainGlobals "is_number" = some (some (.ref fNum))
  w_fNum : FnF K "is_number" "is_number" sNum fNum
  g_fCnt : PySem.W.nsIn K mainGlobals "is_count" = some (some (.ref fCnt))
  w_fCnt : FnF K "is_count" "is_count" sCnt fCnt
  g_fPri : PySem.W.nsIn K mainGlobals "is_price" = some (some (.ref fPri))
  w_fPri : FnF K "is_price" "is_price" sPri fPri
  g_fCns : PySem.W.nsIn K mainGlobals "check_names" = some (some (.ref fCns))
  w_fCns : FnF K "check_names" "check_names" sCns fCns
  g_fCun : PySem.W.nsIn K mainGlobals "check_unlike" = some (some (.ref fCun))
  w_fCun : FnF K "check_unlike" "check_unlike" sCun fCun
  g_fAsc : PySem.W.nsIn K mainGlobals "ascending" = some (some (.ref fAsc))
  w_fAsc : FnF K "ascending" "ascending" sAsc fAsc
  g_fCus : PySem.W.nsIn K mainGlobals "check_used" = some (some (.ref fCus))
  w_fCus : FnF K "check_used" "check_used" sCus fCus
  g_fCp : PySem.W.nsIn K mainGlobals "check_parts" = some (some (.ref fCp))
  w_fCp : FnF K "check_parts" "check_parts" sCp fCp
  g_fCz : PySem.W.nsIn K mainGlobals "check_sizes" = some (some (.ref fCz))
  w_fCz : FnF K "check_sizes" "check_sizes" sCz fCz
  g_fCt : PySem.W.nsIn K mainGlobals "check_told_names" = some (some (.ref fCt))
  w_fCt : FnF K "check_told_names" "check_told_names" sCt fCt
  g_fAn : PySem.W.nsIn K mainGlobals "all_names" = some (some (.ref fAn))
  w_fAn : FnF K "all_names" "all_names" sAn fAn
  g_fCv : PySem.W.nsIn K mainGlobals "check_values" = some (some (.ref fCv))
  w_fCv : FnF K "check_values" "check_values" sCv fCv
  g_fCd : PySem.W.nsIn K mainGlobals "check_deed_partchecks" = some (some (.ref fCd))
  w_fCd : FnF K "check_deed" "check_deed" sCd fCd
  g_fCol : PySem.W.nsIn K mainGlobals "check_one_loop" = some (some (.ref fCol))
  w_fCol : FnF K "check_one_loop" "check_one_loop" sCol fCol
  g_fRep : PySem.W.nsIn K mainGlobals "repeated" = some (some (.ref fRep))
  w_fRep : FnF K "repeated" "repeated" sRep fRep
  g_fWp : PySem.W.nsIn K mainGlobals "with_parts" = some (some (.ref fWp))
  w_fWp : FnF K "with_parts" "with_parts" sWp fWp
  g_fPen : PySem.W.nsIn K mainGlobals "_law_pen" = some (some (.ref fPen))
  w_fPen : FnF K "_law_pen" "_law_pen" sPen fPen
  g_fDraw : PySem.W.nsIn K mainGlobals "_law_draw" = some (some (.ref fDraw))
  w_fDraw : FnF K "_law_draw" "_law_draw" sDraw fDraw
  g_fPick : PySem.W.nsIn K mainGlobals "_law_pick" = some (some (.ref fPick))
  w_fPick : FnF K "_law_pick" "_law_pick" sPick fPick
  g_fSome : PySem.W.nsIn K mainGlobals "_law_some" = some (some (.ref fSome))
  w_fSome : FnF K "_law_some" "_law_some" sSome fSome
  g_fNames : PySem.W.nsIn K mainGlobals "_law_names" = some (some (.ref fNames))
  w_fNames : FnF K "_law_names" "_law_names" sLNames fNames
  g_fReal : PySem.W.nsIn K mainGlobals "_law_real_deed" = some (some (.ref fReal))
  w_fReal : FnF K "_law_real_deed" "_law_real_deed" sReal fReal
  g_fOr : PySem.W.nsIn K mainGlobals "_law_order" = some (some (.ref fOr))
  w_fOr : FnF K "_law_order" "_law_order" sOr fOr
  g_fDs : PySem.W.nsIn K mainGlobals "_law_deeds" = some (some (.ref fDs))
  w_fDs : FnF K "_law_deeds" "_law_deeds" sDs fDs
  g_fSi : PySem.W.nsIn K mainGlobals "_law_site" = some (some (.ref fSi))
  w_fSi : FnF K "_law_site" "_law_site" sSi fSi
  g_fRp : PySem.W.nsIn K mainGlobals "_law_real_part" = some (some (.ref fRp))
  w_fRp : FnF K "_law_real_part" "_law_real_part" sRp fRp
  g_fRl : PySem.W.nsIn K mainGlobals "_law_real" = some (some (.ref fRl))
  w_fRl : FnF K "_law_real" "_law_real" sRl fRl
  g_fHeard : PySem.W.nsIn K mainGlobals "_law_heard" = some (some (.ref fHeard))
  w_fHeard : FnF K "_law_heard" "_law_heard" sHeard fHeard
  g_fMn : PySem.W.nsIn K mainGlobals "_law_many" = some (some (.ref fMn))
  w_fMn : FnF K "_law_many" "_law_many" sMn fMn
  g_fWr : PySem.W.nsIn K mainGlobals "_law_wrong" = some (some (.ref fWr))
  w_fWr : FnF K "_law_wrong" "_law_wrong" sWr fWr
  g_fPd : PySem.W.nsIn K mainGlobals "_law_power_due" = some (some (.ref fPd))
  w_fPd : FnF K "_law_power_due" "_law_power_due" sPd fPd
  g_fUd : PySem.W.nsIn K mainGlobals "_law_unrolled_due" = some (some (.ref fUd))
  w_fUd : FnF K "_law_unrolled_due" "_law_unrolled_due" sUd fUd
  g_fTd : PySem.W.nsIn K mainGlobals "_law_turned_due" = some (some (.ref fTd))
  w_fTd : FnF K "_law_turned_due" "_law_turned_due" sTd fTd
  g_fKp : PySem.W.nsIn K mainGlobals "_law_is_kept" = some (some (.ref fKp))
  w_fKp : FnF K "_law_is_kept" "_law_is_kept" sKp fKp
  g_fLp : PySem.W.nsIn K mainGlobals "_law_power" = some (some (.ref fLp))
  w_fLp : FnF K "_law_power" "_law_power" sLp fLp
  g_fLaw : PySem.W.nsIn K mainGlobals "law" = some (some (.ref fLaw))
  w_fLaw : FnF K "law" "law" sLaw fLaw
  g_fPr : PySem.W.nsIn K mainGlobals "_law_power_right" = some (some (.ref fPr))
  w_fPr : NX.FnT K "_law_power_right" sPr fPr cPr pPr
  l_Pr : K.lookup pPr = none
  g_fUr : PySem.W.nsIn K mainGlobals "_law_unrolled_right" = some (some (.ref fUr))
  w_fUr : NX.FnT K "_law_unrolled_right" sUr fUr cUr pUr
  l_Ur : K.lookup pUr = none
  g_fTr : PySem.W.nsIn K mainGlobals "_law_turned_right" = some (some (.ref fTr))
  w_fTr : NX.FnT K "_law_turned_right" sTr fTr cTr pTr
  l_Tr : K.lookup pTr = none
  ne1 : decide (pPr = pUr) = false
  ne2 : decide (pPr = pTr) = false
  ne3 : decide (pUr = pTr) = false
section
variable {K : PySem.W.Frag} {mg : Str → Option Value} {h : Heap} {CS CD pNm c18 c21 c0 c1 c4 c10 c11 dU dM dD cP i0 i1 i4 i10 i11 fU fM fD fNm fEq g0 g1 g2 g3 g4 g5 g6 g7 g8 g9 fPw fUn fTu fPE p0 p1 p2 p3 p4 p5 p6 p7 p8 p9 fP fSt tPA tLO t0 t1 t2 t3 t4 fIs fNum fCnt fPri fCns fCun fAsc fCus fCp fCz fCt fAn fCv fCd fCol fRep fWp fPen fDraw fPick fSome fNames fReal fOr fDs fSi fRp fRl fHeard fMn fWr fPd fUd fTd fKp fLp fLaw fPr cPr pPr fUr cUr pUr fTr cTr pTr : Addr}
theorem HeadF.law {l : PySem.W.OpenLaw} {w : World} {fa : Addr} (D : HeadF K CS CD pNm c18 c21 c0 c1 c4 c10 c11 dU dM dD cP i0 i1 i4 i10 i11 fU fM fD fNm fEq g0 g1 g2 g3 g4 g5 g6 g7 g8 g9 fPw fUn fTu fPE p0 p1 p2 p3 p4 p5 p6 p7 p8 p9 fP fSt tPA tLO t0 t1 t2 t3 t4 fIs fNum fCnt fPri fCns fCun fAsc fCus fCp fCz fCt fAn fCv fCd fCol fRep fWp fPen fDraw fPick fSome fNames fReal fOr fDs fSi fRp fRl fHeard fMn fWr fPd fUd fTd fKp fLp fLaw fPr cPr pPr fUr cUr pUr fTr cTr pTr) (X : K.In h) (G : h.Ns mainGlobals mg) (hfa : mg "law" = some (.ref fa))
    (tbPr : h.get? pPr = some { cls := .none, data := .fields #[] }) (tbUr : h.get? pUr = some { cls := .none, data := .fields #[] }) (tbTr : h.get? pTr = some { cls := .none, data := .fields #[] }) : ∃ fd cs sp, LawG l w K 14 63 "_law_script" mg fa h fd cs sp := by
  have e := hfa.symm.trans (PySem.W.mg_of X G D.g_fLaw)
  cases e
  have TB : TxtB mg := ⟨PySem.W.mg_none_of X G D.n_int, PySem.W.mg_none_of X G D.n_len, PySem.W.mg_none_of X G D.n_abs, PySem.W.mg_none_of X G D.n_list, PySem.W.mg_none_of X G D.n_str, PySem.W.mg_none_of X G D.n_tuple, PySem.W.mg_none_of X G D.n_isinstance, PySem.W.mg_none_of X G D.n_repr, PySem.W.mg_none_of X G D.n_range, PySem.W.mg_none_of X G D.n_enumerate, PySem.W.mg_none_of X G D.n_ValueError⟩
  have TA : TxtA mg := ⟨PySem.W.mg_none_of X G D.n_set, PySem.W.mg_none_of X G D.n_sorted, PySem.W.mg_none_of X G D.n_tuple⟩
  have TN : TxtN mg := ⟨(let ⟨t, e⟩ := D.gLet; ⟨t, PySem.W.mg_of X G e⟩), (let ⟨t, e⟩ := D.gMost; ⟨t, PySem.W.mg_of X G e⟩)⟩
  have TP : TxtP mg := ⟨PySem.W.mg_none_of X G D.n_bool, PySem.W.mg_none_of X G D.n_dict, PySem.W.mg_none_of X G D.n_reversed, (let ⟨t, e⟩ := D.gPrice; ⟨t, PySem.W.mg_of X G e⟩)⟩
  have TQ : TxtQ mg K := ⟨⟨tPA, PySem.W.mg_of X G D.gPA, D.sPA⟩, ⟨tLO, PySem.W.mg_of X G D.gLO, D.sLO⟩, (let ⟨t, e⟩ := D.gAh; ⟨t, PySem.W.mg_of X G e⟩), (let ⟨t, e⟩ := D.gIn; ⟨t, PySem.W.mg_of X G e⟩), (let ⟨t, e⟩ := D.gNa; ⟨t, PySem.W.mg_of X G e⟩)⟩
  obtain ⟨fd_i0, F_i0⟩ := D.w_i0.ex
  have b_i0 := F_i0.binds (ps := ["self", "value"]) fun _ _ _ _ _ _ us hl => match us, hl with | [_, _], _ => rfl
  obtain ⟨fd_i1, F_i1⟩ := D.w_i1.ex
  have b_i1 := F_i1.binds (ps := ["self", "value"]) fun _ _ _ _ _ _ us hl => match us, hl with | [_, _], _ => rfl
  obtain ⟨fd_i4, F_i4⟩ := D.w_i4.ex
  have b_i4 := F_i4.binds (ps := ["self", "value"]) fun _ _ _ _ _ _ us hl => match us, hl with | [_, _], _ => rfl
  obtain ⟨fd_i10, F_i10⟩ := D.w_i10.ex
  have b_i10 := F_i10.binds (ps := ["self", "name"]) fun _ _ _ _ _ _ us hl => match us, hl with | [_, _], _ => rfl
  obtain ⟨fd_i11, F_i11⟩ := D.w_i11.ex
  have b_i11 := F_i11.binds (ps := ["self", "most"]) fun _ _ _ _ _ _ us hl => match us, hl with | [_, _], _ => rfl
  obtain ⟨fd_fU, F_fU⟩ := D.w_fU.ex
  obtain ⟨fd_fM, F_fM⟩ := D.w_fM.ex
  have b_fM := F_fM.binds (ps := ["self", "name"]) fun _ _ _ _ _ _ us hl => match us, hl with | [_, _], _ => rfl
  obtain ⟨fd_fD, F_fD⟩ := D.w_fD.ex
  obtain ⟨fd_fNm, F_fNm⟩ := D.w_fNm.ex
  have b_fNm := F_fNm.binds (ps := ["self"]) fun _ _ _ _ _ _ us hl => match us, hl with | [_], _ => rfl
  obtain ⟨fd_fEq, F_fEq⟩ := D.w_fEq.ex
  have b_fEq := F_fEq.binds (ps := ["self", "other"]) fun _ _ _ _ _ _ us hl => match us, hl with | [_, _], _ => rfl
  obtain ⟨fd_g0, F_g0⟩ := D.w_g0.ex
  have b_g0 := F_g0.binds (ps := ["self"]) fun _ _ _ _ _ _ us hl => match us, hl with | [_], _ => rfl
  obtain ⟨fd_g1, F_g1⟩ := D.w_g1.ex
  have b_g1 := F_g1.binds (ps := ["self"]) fun _ _ _ _ _ _ us hl => match us, hl with | [_], _ => rfl
  obtain ⟨fd_g2, F_g2⟩ := D.w_g2.ex
  have b_g2 := F_g2.binds (ps := ["self"]) fun _ _ _ _ _ _ us hl => match us, hl with | [_], _ => rfl
  obtain ⟨fd_g3, F_g3⟩ := D.w_g3.ex
  have b_g3 := F_g3.binds (ps := ["self"]) fun _ _ _ _ _ _ us hl => match us, hl with | [_], _ => rfl
  obtain ⟨fd_g4, F_g4⟩ := D.w_g4.ex
  have b_g4 := F_g4.binds (ps := ["self"]) fun _ _ _ _ _ _ us hl => match us, hl with | [_], _ => rfl
  obtain ⟨fd_g5, F_g5⟩ := D.w_g5.ex
  have b_g5 := F_g5.binds (ps := ["self"]) fun _ _ _ _ _ _ us hl => match us, hl with | [_], _ => rfl
  obtain ⟨fd_g6, F_g6⟩ := D.w_g6.ex
  have b_g6 := F_g6.binds (ps := ["self"]) fun _ _ _ _ _ _ us hl => match us, hl with | [_], _ => rfl
  obtain ⟨fd_g7, F_g7⟩ := D.w_g7.ex
  have b_g7 := F_g7.binds (ps := ["self"]) fun _ _ _ _ _ _ us hl => match us, hl with | [_], _ => rfl
  obtain ⟨fd_g8, F_g8⟩ := D.w_g8.ex
  have b_g8 := F_g8.binds (ps := ["self"]) fun _ _ _ _ _ _ us hl => match us, hl with | [_], _ => rfl
  obtain ⟨fd_g9, F_g9⟩ := D.w_g9.ex
  have b_g9 := F_g9.binds (ps := ["self"]) fun _ _ _ _ _ _ us hl => match us, hl with | [_], _ => rfl
  obtain ⟨fd_fPw, F_fPw⟩ := D.w_fPw.ex
  have b_fPw := F_fPw.binds (ps := ["self", "other"]) fun _ _ _ _ _ _ us hl => match us, hl with | [_, _], _ => rfl
  obtain ⟨fd_fUn, F_fUn⟩ := D.w_fUn.ex
  have b_fUn := F_fUn.binds (ps := ["self", "j"]) fun _ _ _ _ _ _ us hl => match us, hl with | [_, _], _ => rfl
  obtain ⟨fd_fTu, F_fTu⟩ := D.w_fTu.ex
  have b_fTu := F_fTu.binds (ps := ["self", "j"]) fun _ _ _ _ _ _ us hl => match us, hl with | [_, _], _ => rfl
  obtain ⟨fd_fPE, F_fPE⟩ := D.w_fPE.ex
  have b_fPE := F_fPE.binds (ps := ["self", "other"]) fun _ _ _ _ _ _ us hl => match us, hl with | [_, _], _ => rfl
  obtain ⟨fd_fIs, F_fIs⟩ := D.w_fIs.ex
  have b_fIs := F_fIs.binds (ps := ["value"]) fun _ _ _ _ _ _ us hl => match us, hl with | [_], _ => rfl
  obtain ⟨fd_fNum, F_fNum⟩ := D.w_fNum.ex
  have b_fNum := F_fNum.binds (ps := ["value"]) fun _ _ _ _ _ _ us hl => match us, hl with | [_], _ => rfl
  obtain ⟨fd_fCnt, F_fCnt⟩ := D.w_fCnt.ex
  have b_fCnt := F_fCnt.binds (ps := ["value"]) fun _ _ _ _ _ _ us hl => match us, hl with | [_], _ => rfl
  obtain ⟨fd_fPri, F_fPri⟩ := D.w_fPri.ex
  have b_fPri := F_fPri.binds (ps := ["value"]) fun _ _ _ _ _ _ us hl => match us, hl with | [_], _ => rfl
  obtain ⟨fd_fCns, F_fCns⟩ := D.w_fCns.ex
  have b_fCns := F_fCns.binds (ps := ["values"]) fun _ _ _ _ _ _ us hl => match us, hl with | [_], _ => rfl
  obtain ⟨fd_fCun, F_fCun⟩ := D.w_fCun.ex
  have b_fCun := F_fCun.binds (ps := ["names"]) fun _ _ _ _ _ _ us hl => match us, hl with | [_], _ => rfl
  obtain ⟨fd_fAsc, F_fAsc⟩ := D.w_fAsc.ex
  have b_fAsc := F_fAsc.binds (ps := ["names"]) fun _ _ _ _ _ _ us hl => match us, hl with | [_], _ => rfl
  obtain ⟨fd_fCus, F_fCus⟩ := D.w_fCus.ex
  have b_fCus := F_fCus.binds (ps := ["names"]) fun _ _ _ _ _ _ us hl => match us, hl with | [_], _ => rfl
  obtain ⟨fd_fCp, F_fCp⟩ := D.w_fCp.ex
  have b_fCp := F_fCp.binds (ps := ["parts"]) fun _ _ _ _ _ _ us hl => match us, hl with | [_], _ => rfl
  obtain ⟨fd_fCz, F_fCz⟩ := D.w_fCz.ex
  have b_fCz := F_fCz.binds (ps := ["parts"]) fun _ _ _ _ _ _ us hl => match us, hl with | [_], _ => rfl
  obtain ⟨fd_fCt, F_fCt⟩ := D.w_fCt.ex
  have b_fCt := F_fCt.binds (ps := ["given", "again", "results"]) fun _ _ _ _ _ _ us hl => match us, hl with | [_, _, _], _ => rfl
  obtain ⟨fd_fAn, F_fAn⟩ := D.w_fAn.ex
  have b_fAn := F_fAn.binds (ps := ["parts", "given", "again", "results"]) fun _ _ _ _ _ _ us hl => match us, hl with | [_, _, _, _], _ => rfl
  obtain ⟨fd_fCv, F_fCv⟩ := D.w_fCv.ex
  have b_fCv := F_fCv.binds (ps := ["parts", "given", "again", "results"]) fun _ _ _ _ _ _ us hl => match us, hl with | [_, _, _, _], _ => rfl
  obtain ⟨fd_fCd, F_fCd⟩ := D.w_fCd.ex
  have b_fCd := F_fCd.binds (ps := ["deed", "place", "known", "again"]) fun _ _ _ _ _ _ us hl => match us, hl with | [_, _, _, _], _ => rfl
  obtain ⟨fd_fCol, F_fCol⟩ := D.w_fCol.ex
  have b_fCol := F_fCol.binds (ps := ["program"]) fun _ _ _ _ _ _ us hl => match us, hl with | [_], _ => rfl
  obtain ⟨fd_fRep, F_fRep⟩ := D.w_fRep.ex
  have b_fRep := F_fRep.binds (ps := ["deeds", "rounds", "most"]) fun _ _ _ _ _ _ us hl => match us, hl with | [_, _, _], _ => rfl
  obtain ⟨fd_fWp, F_fWp⟩ := D.w_fWp.ex
  have b_fWp := F_fWp.binds (ps := ["program", "ahead", "loop", "behind"]) fun _ _ _ _ _ _ us hl => match us, hl with | [_, _, _, _], _ => rfl
  obtain ⟨fd_fPen, F_fPen⟩ := D.w_fPen.ex
  have b_fPen := F_fPen.binds (ps := ["_law_script"]) fun _ _ _ _ _ _ us hl => match us, hl with | [_], _ => rfl
  obtain ⟨fd_fDraw, F_fDraw⟩ := D.w_fDraw.ex
  have b_fDraw := F_fDraw.binds (ps := ["_law_pen_here", "_law_many_here"]) fun _ _ _ _ _ _ us hl => match us, hl with | [_, _], _ => rfl
  obtain ⟨fd_fPick, F_fPick⟩ := D.w_fPick.ex
  have b_fPick := F_fPick.binds (ps := ["_law_pen_here", "_law_some_here"]) fun _ _ _ _ _ _ us hl => match us, hl with | [_, _], _ => rfl
  obtain ⟨fd_fSome, F_fSome⟩ := D.w_fSome.ex
  have b_fSome := F_fSome.binds (ps := ["_law_pen_here", "_law_pool", "_law_least", "_law_most"]) fun _ _ _ _ _ _ us hl => match us, hl with | [_, _, _, _], _ => rfl
  obtain ⟨fd_fNames, F_fNames⟩ := D.w_fNames.ex
  have b_fNames := F_fNames.binds (ps := ["_law_pen_here", "_law_many_here"]) fun _ _ _ _ _ _ us hl => match us, hl with | [_, _], _ => rfl
  obtain ⟨fd_fReal, F_fReal⟩ := D.w_fReal.ex
  have b_fReal := F_fReal.binds (ps := ["_law_made", "_law_used"]) fun _ _ _ _ _ _ us hl => match us, hl with | [_, _], _ => rfl
  obtain ⟨fd_fOr, F_fOr⟩ := D.w_fOr.ex
  have b_fOr := F_fOr.binds (ps := []) fun _ _ _ _ _ _ us hl => match us, hl with | [], _ => rfl
  obtain ⟨fd_fDs, F_fDs⟩ := D.w_fDs.ex
  have b_fDs := F_fDs.binds (ps := ["_law_pen_here", "_law_known", "_law_free", "_law_most"]) fun _ _ _ _ _ _ us hl => match us, hl with | [_, _, _, _], _ => rfl
  obtain ⟨fd_fSi, F_fSi⟩ := D.w_fSi.ex
  have b_fSi := F_fSi.binds (ps := ["_law_pen_here", "_law_loops", "_law_most"]) fun _ _ _ _ _ _ us hl => match us, hl with | [_, _, _], _ => rfl
  obtain ⟨fd_fRp, F_fRp⟩ := D.w_fRp.ex
  have b_fRp := F_fRp.binds (ps := ["_law_deeds_here"]) fun _ _ _ _ _ _ us hl => match us, hl with | [_], _ => rfl
  obtain ⟨fd_fRl, F_fRl⟩ := D.w_fRl.ex
  have b_fRl := F_fRl.binds (ps := ["_law_site_here"]) fun _ _ _ _ _ _ us hl => match us, hl with | [_], _ => rfl
  obtain ⟨fd_fHeard, F_fHeard⟩ := D.w_fHeard.ex
  have b_fHeard := F_fHeard.binds (ps := ["_law_ask"]) fun _ _ _ _ _ _ us hl => match us, hl with | [_], _ => rfl
  obtain ⟨fd_fMn, F_fMn⟩ := D.w_fMn.ex
  have b_fMn := F_fMn.binds (ps := ["_law_site_here", "_law_part"]) fun _ _ _ _ _ _ us hl => match us, hl with | [_, _], _ => rfl
  obtain ⟨fd_fWr, F_fWr⟩ := D.w_fWr.ex
  have b_fWr := F_fWr.binds (ps := ["_law_site_here", "_law_value", "_law_least", "_law_most"]) fun _ _ _ _ _ _ us hl => match us, hl with | [_, _, _, _], _ => rfl
  obtain ⟨fd_fPd, F_fPd⟩ := D.w_fPd.ex
  have b_fPd := F_fPd.binds (ps := ["_law_site_here", "_law_at"]) fun _ _ _ _ _ _ us hl => match us, hl with | [_, _], _ => rfl
  obtain ⟨fd_fUd, F_fUd⟩ := D.w_fUd.ex
  have b_fUd := F_fUd.binds (ps := ["_law_site_here", "_law_at"]) fun _ _ _ _ _ _ us hl => match us, hl with | [_, _], _ => rfl
  obtain ⟨fd_fTd, F_fTd⟩ := D.w_fTd.ex
  have b_fTd := F_fTd.binds (ps := ["_law_site_here", "_law_at"]) fun _ _ _ _ _ _ us hl => match us, hl with | [_, _], _ => rfl
  obtain ⟨fd_fKp, F_fKp⟩ := D.w_fKp.ex
  have b_fKp := F_fKp.binds (ps := ["_law_thing", "_law_other"]) fun _ _ _ _ _ _ us hl => match us, hl with | [_, _], _ => rfl
  obtain ⟨fd_fLp, F_fLp⟩ := D.w_fLp.ex
  have b_fLp := F_fLp.binds (ps := ["_law_thing", "_law_at"]) fun _ _ _ _ _ _ us hl => match us, hl with | [_, _], _ => rfl
  obtain ⟨fd_fLaw, F_fLaw⟩ := D.w_fLaw.ex
  have b_fLaw := F_fLaw.binds (ps := ["_law_script"]) fun _ _ _ _ _ _ us hl => match us, hl with | [_], _ => rfl
  obtain ⟨⟨fd_fPr, F_fPr⟩, tPr⟩ := D.w_fPr
  have cdPr := PySem.W.codeHd_of_K X tPr
  have b_fPr := F_fPr.binds (ps := ps3) fun _ _ _ _ _ us hl => match us, hl with | [_, _, _], _ => rfl
  obtain ⟨⟨fd_fUr, F_fUr⟩, tUr⟩ := D.w_fUr
  have cdUr := PySem.W.codeHd_of_K X tUr
  have b_fUr := F_fUr.binds (ps := ps3) fun _ _ _ _ _ us hl => match us, hl with | [_, _, _], _ => rfl
  obtain ⟨⟨fd_fTr, F_fTr⟩, tTr⟩ := D.w_fTr
  have cdTr := PySem.W.codeHd_of_K X tTr
  have b_fTr := F_fTr.binds (ps := ps3) fun _ _ _ _ _ us hl => match us, hl with | [_, _, _], _ => rfl
  obtain ⟨fd_fP, F_fP⟩ := D.w_fP
  obtain ⟨fd_fSt, F_fSt⟩ := D.w_fSt
  have kw_fUn : NZ.SelfKw fd_fUn ["self", "j"] ["j"] := by
    obtain ⟨oc, od, kV, doc, pm, an, cdv, ct, osl, rfl, lk, hcd⟩ := F_fUn.ex
    exact fun s us hl => match us, hl with | [_, _], _ => .of_eq rfl
  have kw_fTu : NZ.SelfKw fd_fTu ["self", "j"] ["j"] := by
    obtain ⟨oc, od, kV, doc, pm, an, cdv, ct, osl, rfl, lk, hcd⟩ := F_fTu.ex
    exact fun s us hl => match us, hl with | [_, _], _ => .of_eq rfl
  have b_L : ∀ (t : Shared) (u : Value), BindsTo t fd_fLaw ⟨[u], []⟩ [("_law_script", u)] := by
    obtain ⟨oc, od, kV, doc, pm, an, cdv, ct, osl, rfl, lk, hcd⟩ := F_fLaw.ex
    exact fun t u => .of_eq rfl
  obtain ⟨dsS, vS, bS⟩ := F_fSt.binds1 (ps := ["self", "n", "m"]) 2 1 (by decide) rfl (fun T kV doc pm an cdv ct us its h1 h2 => match us, h1, its, h2 with
    | [_, _], _, [_, _], _ => ⟨_, rfl, rfl⟩)
  have n1 : pPr ≠ pUr := of_decide_eq_false D.ne1
  have n2 : pPr ≠ pTr := of_decide_eq_false D.ne2
  have n3 : pUr ≠ pTr := of_decide_eq_false D.ne3
  obtain ⟨TT, hTT⟩ : ∃ TT : List (Addr × Str), TT = [(pPr, Str.ofString "_law_power_right.<locals>.<lambda>"), (pUr, Str.ofString "_law_unrolled_right.<locals>.<lambda>"), (pTr, Str.ofString "_law_turned_right.<locals>.<lambda>")] := ⟨_, rfl⟩
  have hmPr : (pPr, Str.ofString "_law_power_right.<locals>.<lambda>") ∈ TT := by rw [hTT]; simp
  have huPr : ∀ p ∈ TT, p.1 = pPr → p.2 = Str.ofString "_law_power_right.<locals>.<lambda>" := fun p hp e => by
    rw [hTT] at hp
    simp only [List.mem_cons, List.not_mem_nil, or_false] at hp
    rcases hp with rfl | rfl | rfl
    · rfl
    · exact absurd e n1.symm
    · exact absurd e n2.symm
  have hmUr : (pUr, Str.ofString "_law_unrolled_right.<locals>.<lambda>") ∈ TT := by rw [hTT]; simp
  have huUr : ∀ p ∈ TT, p.1 = pUr → p.2 = Str.ofString "_law_unrolled_right.<locals>.<lambda>" := fun p hp e => by
    rw [hTT] at hp
    simp only [List.mem_cons, List.not_mem_nil, or_false] at hp
    rcases hp with rfl | rfl | rfl
    · exact absurd e n1
    · rfl
    · exact absurd e n3.symm
  have hmTr : (pTr, Str.ofString "_law_turned_right.<locals>.<lambda>") ∈ TT := by rw [hTT]; simp
  have huTr : ∀ p ∈ TT, p.1 = pTr → p.2 = Str.ofString "_law_turned_right.<locals>.<lambda>" := fun p hp e => by
    rw [hTT] at hp
    simp only [List.mem_cons, List.not_mem_nil, or_false] at hp
    rcases hp with rfl | rfl | rfl
    · exact absurd e n2
    · exact absurd e n3
    · rfl
  have dcs : Dcs K mg ⟨dU, dM, dD⟩ fU fM fD :=
    { mu := D.kU.mak, mm := D.kM.mak, md := D.kD.mak, gu := PySem.W.mg_of X G D.kU.g, gm := PySem.W.mg_of X G D.kM.g, gd := PySem.W.mg_of X G D.kD.g
      du := ⟨D.kU.cls, D.kU_uses, D.kU_makes, D.kU_names⟩, dm := ⟨D.kM.cls, D.kM_uses, D.kM_makes, D.kM_names⟩, dd := ⟨D.kD.cls, D.kD_uses, D.kD_makes, D.kD_names⟩ }
  have k3 : D3C K ⟨dU, dM, dD⟩ := ⟨dcs.du, dcs.dm, dcs.dd⟩
  have deedC : DeedC K mg CD := ⟨PySem.W.mg_of X G D.gD, let ⟨t, e⟩ := D.mostCD; ⟨.type "type", _, ⟨D.rdCD.rd, D.rdCD.ga⟩, ⟨e, ⟨_, rfl⟩⟩⟩⟩
  have PC : PCls K cP := ⟨D.kP.cls, D.kP_names, D.kP_parts, D.kP_given, D.kP_again, D.kP_results⟩
  have dty : DTy K ⟨dU, dM, dD⟩ CD := ⟨D.base.hn, D.base.ht, ⟨D.kU_cl, D.kU_ob⟩, ⟨D.kM_cl, D.kM_ob⟩, ⟨D.kD_cl, D.kD_ob⟩, D.kU_CD, D.kM_CD, D.kD_CD⟩
  have pty : PTy K cP := ⟨D.base.hn, D.base.ht, D.kP_cl, D.kP_ob, kit_self⟩
  have eu : NX.EqC K dU fEq := ⟨D.kU.cls, D.kU_eq, D.kU_ne, D.f_fEq, D.kU_ob⟩
  have em : NX.EqC K dM fEq := ⟨D.kM.cls, D.kM_eq, D.kM_ne, D.f_fEq, D.kM_ob⟩
  have ed : NX.EqC K dD fEq := ⟨D.kD.cls, D.kD_eq, D.kD_ne, D.f_fEq, D.kD_ob⟩
  have ep : NX.EqC K cP fPE := ⟨D.kP.cls, D.kP_eq, D.kP_ne, D.f_fPE, D.kP_ob⟩
  have pw : NZ.PowC K cP fPw := ⟨D.sfP, D.a_fPw, D.f_fPw, D.rpw, D.ip1, D.ip2, D.isb⟩
  have gP := PySem.W.mg_of X G D.kP.g
  have BNL : ErrC0 K mg "NoLoop" c18 := ⟨PySem.W.mg_of X G D.g18_, D.q18, D.kp18, D.ex18, D.ty18⟩
  have BTL : ErrC0 K mg "TwoLoops" c21 := ⟨PySem.W.mg_of X G D.g21_, D.q21, D.kp21, D.ex21, D.ty21⟩
  have kerr : ErrK6 K mg ⟨c4, c11, c18, c21⟩ CS :=
    { gS := PySem.W.mg_of X G D.base.g, gB := PySem.W.mg_of X G D.e4.g, gM := PySem.W.mg_of X G D.e11.g, gN := PySem.W.mg_of X G D.g18_, gT := PySem.W.mg_of X G D.g21_
      b := ⟨D.e4.exm D.base, D.e4.ec D.base, kit_self, D.k4_11, D.k4_18, D.k4_21, D.e4.ve⟩
      m := ⟨D.e11.exm D.base, D.e11.ec D.base, D.k11_4, kit_self, D.k11_18, D.k11_21, D.e11.ve⟩
      n := ⟨exm_of D.base.sB D.base.sI D.base.sT D.sS18, ⟨D.ga18, D.gg18, D.ex18, D.hd18, D.cl18, D.base.hn, D.base.ht, D.ob18⟩, D.k18_4, D.k18_11, kit_self, D.k18_21, kit_rty (by decide +kernel) D.sV18⟩
      t := ⟨exm_of D.base.sB D.base.sI D.base.sT D.sS21, ⟨D.ga21, D.gg21, D.ex21, D.hd21, D.cl21, D.base.hn, D.base.ht, D.ob21⟩, D.k21_4, D.k21_11, D.k21_18, kit_self, kit_rty (by decide +kernel) D.sV21⟩
      xb := D.e4.xf, xm := D.e11.xf, vb := D.e4.v, vm := D.e11.v, ve := PySem.W.mg_none_of X G D.n_ValueError }
  refine ⟨fd_fLaw, [(cPr, pPr), (cUr, pUr), (cTr, pTr)], spLaw K TT, ?_⟩
  refine ⟨fun p hp => ?_, fun p hp => ?_, fun p hp => ?_, b_L, fun H a ns hl hT hS => ⟨a, ns, rfl, hS, fun p hp => ?_, fun H' => rfl⟩, fun base Xb Gb TBs SB => ?_⟩
  · simp only [List.mem_cons, List.not_mem_nil, or_false] at hp
    rcases hp with rfl | rfl | rfl
    · exact tbPr
    · exact tbUr
    · exact tbTr
  · simp only [List.mem_cons, List.not_mem_nil, or_false] at hp
    rcases hp with rfl | rfl | rfl
    · exact D.l_Pr
    · exact D.l_Ur
    · exact D.l_Tr
  · simp only [List.mem_cons, List.not_mem_nil, or_false] at hp
    rcases hp with rfl | rfl | rfl
    · exact cdPr
    · exact cdUr
    · exact cdTr
  · rw [hTT] at hp
    simp only [List.mem_cons, List.not_mem_nil, or_false] at hp
    rcases hp with rfl | rfl | rfl
    · exact TabS.nil (hT (cPr, pPr) (by simp))
    · exact TabS.nil (hT (cUr, pUr) (by simp))
    · exact TabS.nil (hT (cTr, pTr) (by simp))
  have tb_Pr : TabB base mg cPr pPr := TBs (cPr, pPr) (by simp)
  have tb_Ur : TabB base mg cUr pUr := TBs (cUr, pUr) (by simp)
  have tb_Tr : TabB base mg cTr pTr := TBs (cTr, pTr) (by simp)
  have c_fDraw : C8.Cal l.prog w K mg base 1 "_law_draw" spDraw [] := ⟨_, _, _, _, ok_draw F_fDraw TB, PySem.W.mg_of X G D.g_fDraw, F_fDraw.kp, b_fDraw, .nil⟩
  have c_fPen : C8.Cal l.prog w K mg base 1 "_law_pen" (spPen K) [] := ⟨_, _, _, _, ok_pen F_fPen TB, PySem.W.mg_of X G D.g_fPen, F_fPen.kp, b_fPen, .nil⟩
  have c_fPick : C8.Cal l.prog w K mg base 2 "_law_pick" (spPick K) [] := ⟨_, _, _, _, ok_pick F_fPick TB c_fDraw, PySem.W.mg_of X G D.g_fPick, F_fPick.kp, b_fPick, .nil⟩
  have c_fIs : C8.Cal l.prog w K mg base 1 "is_name" (spIs K) [] := ⟨_, _, _, _, ok_is F_fIs TB TN, PySem.W.mg_of X G D.g_fIs, F_fIs.kp, b_fIs, .nil⟩
  have EN : ErrC l.prog w K mg base "BadName" "value" c0 i0 := ⟨D.e0.O, D.e0.i, D.e0.t, ⟨_, ok_errN F_i0, b_i0⟩, PySem.W.mg_of X G D.e0.g, D.e0.v⟩
  have ED : ErrC l.prog w K mg base "BadDeed" "value" c1 i1 := ⟨D.e1.O, D.e1.i, D.e1.t, ⟨_, ok_errD F_i1, b_i1⟩, PySem.W.mg_of X G D.e1.g, D.e1.v⟩
  have EB : ErrC l.prog w K mg base "BadNumber" "value" c4 i4 := ⟨D.e4.O, D.e4.i, D.e4.t, ⟨_, ok_errB F_i4, b_i4⟩, PySem.W.mg_of X G D.e4.g, D.e4.v⟩
  have ET : ErrC l.prog w K mg base "Twice" "name" c10 i10 := ⟨D.e10.O, D.e10.i, D.e10.t, ⟨_, ok_errT F_i10, b_i10⟩, PySem.W.mg_of X G D.e10.g, D.e10.v⟩
  have EM : ErrC l.prog w K mg base "TooMany" "most" c11 i11 := ⟨D.e11.O, D.e11.i, D.e11.t, ⟨_, ok_errM F_i11, b_i11⟩, PySem.W.mg_of X G D.e11.g, D.e11.v⟩
  have c_fCns : CalL l.prog w K mg base 3 "check_names" (spCns K c0) := ⟨⟨_, _, _, ok_cns F_fCns c_fIs EN, PySem.W.mg_of X G D.g_fCns, F_fCns.kp, b_fCns⟩⟩
  have c_fCun : CalL l.prog w K mg base 3 "check_unlike" (spCun K c10) := ⟨⟨_, _, _, ok_cun F_fCun ET, PySem.W.mg_of X G D.g_fCun, F_fCun.kp, b_fCun⟩⟩
  have c_fCus : CalL l.prog w K mg base 4 "check_used" (spCus K ⟨c0, c10, c11, c1⟩) := ⟨⟨_, _, _, ok_cus (fT := i10) F_fCus TB c_fCun deedC EM ED, PySem.W.mg_of X G D.g_fCus, F_fCus.kp, b_fCus⟩⟩
  have c_fAsc : C8.Cal l.prog w K mg base 1 "ascending" (spAsc K) [] := ⟨_, _, _, _, ok_asc F_fAsc TA, PySem.W.mg_of X G D.g_fAsc, F_fAsc.kp, b_fAsc, .nil⟩
  have cks : Cks l.prog w K mg base ⟨c0, c10, c11, c1⟩ := ⟨c_fCns, c_fCus, c_fAsc⟩
  have OU : FnR l.prog w K mg base (L2N.CX l.prog w) 5 fU (spUse K ⟨c0, c10, c11, c1⟩) := ok_use cks F_fU
  have OD : FnR l.prog w K mg base (L2N.CX l.prog w) 5 fD (spDo K ⟨c0, c10, c11, c1⟩) := ok_do cks F_fD
  have OM : FnOk l.prog w K mg base (L2N.CX l.prog w) 4 fM fd_fM ["self", "name"] (spMake K ⟨c0, c10, c11, c1⟩) := ok_make cks F_fM
  have pN1 : PropOf K dU "names" pNm fNm := ⟨D.kU_nm, D.pNm_g, D.pNm_t, D.pNm_r⟩
  have pN2 : PropOf K dM "names" pNm fNm := ⟨D.kM_nm, D.pNm_g, D.pNm_t, D.pNm_r⟩
  have pN3 : PropOf K dD "names" pNm fNm := ⟨D.kD_nm, D.pNm_g, D.pNm_t, D.pNm_r⟩
  have ONm : FnOk l.prog w K mg base CX0 1 fNm fd_fNm ["self"] (spNames K ⟨dU, dM, dD⟩) := ok_names F_fNm k3
  have c_fNum : C8.Cal l.prog w K mg base 1 "is_number" spNum [] := ⟨_, _, _, _, ok_num F_fNum TB TP, PySem.W.mg_of X G D.g_fNum, F_fNum.kp, b_fNum, .nil⟩
  have c_fCnt : C8.Cal l.prog w K mg base 2 "is_count" spCnt [] := ⟨_, _, _, _, ok_cnt F_fCnt c_fNum, PySem.W.mg_of X G D.g_fCnt, F_fCnt.kp, b_fCnt, .nil⟩
  have c_fPri : C8.Cal l.prog w K mg base 3 "is_price" spPri [] := ⟨_, _, _, _, ok_pri F_fPri TP c_fCnt, PySem.W.mg_of X G D.g_fPri, F_fPri.kp, b_fPri, .nil⟩
  have cA_fNum : C8.Cal l.prog w K mg base 1 "is_number" (spNumA K) [] := ⟨_, _, _, _, ok_numA F_fNum TB TP, PySem.W.mg_of X G D.g_fNum, F_fNum.kp, b_fNum, .nil⟩
  have cA_fCnt : C8.Cal l.prog w K mg base 2 "is_count" (spCntA K) [] := ⟨_, _, _, _, ok_cntA F_fCnt cA_fNum, PySem.W.mg_of X G D.g_fCnt, F_fCnt.kp, b_fCnt, .nil⟩
  have cS_fCns : C8.Cal l.prog w K mg base 2 "check_names" (spCnsS K) [] := ⟨_, _, _, _, ok_cnsS F_fCns c_fIs, PySem.W.mg_of X G D.g_fCns, F_fCns.kp, b_fCns, .nil⟩
  have cS_fCun : C8.Cal l.prog w K mg base 1 "check_unlike" (spCunS K) [] := ⟨_, _, _, _, ok_cunS F_fCun, PySem.W.mg_of X G D.g_fCun, F_fCun.kp, b_fCun, .nil⟩
  have cS_fAsc : C8.Cal l.prog w K mg base 1 "ascending" (spAscM K) [] := ⟨_, _, _, _, ok_ascM F_fAsc TA, PySem.W.mg_of X G D.g_fAsc, F_fAsc.kp, b_fAsc, .nil⟩
  have c_fCp : C8.Cal l.prog w K mg base 1 "check_parts" (spCp K ⟨dU, dM, dD⟩) [] := ⟨_, _, _, _, ok_cp F_fCp, PySem.W.mg_of X G D.g_fCp, F_fCp.kp, b_fCp, .nil⟩
  have c_fCz : C8.Cal l.prog w K mg base 1 "check_sizes" (spCz K ⟨dU, dM, dD⟩) [] := ⟨_, _, _, _, ok_cz F_fCz TB TQ, PySem.W.mg_of X G D.g_fCz, F_fCz.kp, b_fCz, .nil⟩
  have c_fCt : C8.Cal l.prog w K mg base 4 "check_told_names" (spCt K) [] := ⟨_, _, _, _, ok_ct F_fCt TB TA cS_fCns cS_fCun c_fPri, PySem.W.mg_of X G D.g_fCt, F_fCt.kp, b_fCt, .nil⟩
  have cE_fCz : CalL l.prog w K mg base 3 "check_sizes" (spCzE K ⟨dU, dM, dD⟩ c11) := ⟨⟨_, _, _, ok_czE F_fCz TB TQ EM, PySem.W.mg_of X G D.g_fCz, F_fCz.kp, b_fCz⟩⟩
  have c_fAn : C8.Cal l.prog w K mg base 3 "all_names" (spAn K ⟨dU, dM, dD⟩) [] := ⟨_, _, _, _, ok_an F_fAn TB TQ cS_fAsc ONm b_fNm k3 pN1 pN2 pN3, PySem.W.mg_of X G D.g_fAn, F_fAn.kp, b_fAn, .nil⟩
  have c_fCd : C8.Cal l.prog w K mg base 1 "check_deed_partchecks" (spCd K ⟨dU, dM, dD⟩) [] := ⟨_, _, _, _, ok_cd F_fCd k3, PySem.W.mg_of X G D.g_fCd, F_fCd.kp, b_fCd, .nil⟩
  have c_fCv : C8.Cal l.prog w K mg base 2 "check_values" (spCv K ⟨dU, dM, dD⟩) [] := ⟨_, _, _, _, ok_cv F_fCv TB TQ k3 cS_fAsc c_fCd, PySem.W.mg_of X G D.g_fCv, F_fCv.kp, b_fCv, .nil⟩
  have OPi : FnOk l.prog w K mg base CX0 5 fP fd_fP pPi (spPi K ⟨dU, dM, dD⟩) := ok_pi F_fP TB TP TA c_fCp c_fCz c_fCt c_fAn c_fCv
  have OPiE : FnOk l.prog w K mg base (L2N.CX l.prog w) 5 fP fd_fP pPi (spPiE K ⟨dU, dM, dD⟩ c11) := ok_piE F_fP TB TP TA c_fCp cE_fCz c_fCt c_fAn c_fCv
  have q0 : PropOf K cP "ahead" p0 g0 := ⟨D.a_p0, D.p0_g, D.p0_t, D.p0_r⟩
  have q1 : PropOf K cP "loop" p1 g1 := ⟨D.a_p1, D.p1_g, D.p1_t, D.p1_r⟩
  have q2 : PropOf K cP "between" p2 g2 := ⟨D.a_p2, D.p2_g, D.p2_t, D.p2_r⟩
  have q3 : PropOf K cP "second" p3 g3 := ⟨D.a_p3, D.p3_g, D.p3_t, D.p3_r⟩
  have q4 : PropOf K cP "behind" p4 g4 := ⟨D.a_p4, D.p4_g, D.p4_t, D.p4_r⟩
  have q5 : PropOf K cP "given" p5 g5 := ⟨D.a_p5, D.p5_g, D.p5_t, D.p5_r⟩
  have q6 : PropOf K cP "again" p6 g6 := ⟨D.a_p6, D.p6_g, D.p6_t, D.p6_r⟩
  have q7 : PropOf K cP "results" p7 g7 := ⟨D.a_p7, D.p7_g, D.p7_t, D.p7_r⟩
  have q8 : PropOf K cP "names" p8 g8 := ⟨D.a_p8, D.p8_g, D.p8_t, D.p8_r⟩
  have q9 : PropOf K cP "loops" p9 g9 := ⟨D.a_p9, D.p9_g, D.p9_t, D.p9_r⟩
  have PG : PGet6 l.prog w K mg base ⟨dU, dM, dD⟩ cP :=
    ⟨PC, ⟨⟨p0, g0, _, q0, ok_p0 F_g0 PC, b_g0⟩⟩,
      ⟨⟨p1, g1, _, q1, ok_p1 F_g1 PC, b_g1⟩⟩,
      ⟨⟨p2, g2, _, q2, ok_p2 F_g2 PC, b_g2⟩⟩,
      ⟨⟨p3, g3, _, q3, ok_p3 F_g3 PC, b_g3⟩⟩,
      ⟨⟨p4, g4, _, q4, ok_p4 F_g4 PC, b_g4⟩⟩,
      ⟨⟨p5, g5, _, q5, ok_p5 F_g5 PC, b_g5⟩⟩,
      ⟨⟨p6, g6, _, q6, ok_p6 F_g6 PC TP, b_g6⟩⟩,
      ⟨⟨p7, g7, _, q7, ok_p7 F_g7 PC, b_g7⟩⟩,
      ⟨⟨p8, g8, _, q8, ok_p8 F_g8 PC, b_g8⟩⟩,
      ⟨⟨p9, g9, _, q9, ok_p9 F_g9 PC TB, b_g9⟩⟩⟩
  have MT : PM l.prog w K mg base ⟨dU, dM, dD⟩ cP fP fd_fP t0 t1 t2 t3 t4 := ⟨D.kP.mak, OPi, gP, F_fP, PC, D.s_t1, D.s_t2⟩
  have ME : PME l.prog w K mg base ⟨dU, dM, dD⟩ ⟨c4, c11, c18, c21⟩ cP fP fd_fP t0 t1 t2 t3 t4 := ⟨D.kP.mak, OPiE, gP, F_fP, PC, D.s_t1, D.s_t2⟩
  have c_fCol : CalL l.prog w K mg base 3 "check_one_loop" (spCol K ⟨dU, dM, dD⟩ cP ⟨c4, c11, c18, c21⟩) := ⟨⟨_, _, _, ok_col F_fCol PG BNL BTL, PySem.W.mg_of X G D.g_fCol, F_fCol.kp, b_fCol⟩⟩
  have c_fRep : CalL l.prog w K mg base 3 "repeated" (spRep K ⟨dU, dM, dD⟩ ⟨c4, c11, c18, c21⟩) := ⟨⟨_, _, _, ok_rep F_fRep TB EM, PySem.W.mg_of X G D.g_fRep, F_fRep.kp, b_fRep⟩⟩
  have c_fWp : CalL l.prog w K mg base 7 "with_parts" (spWp K ⟨dU, dM, dD⟩ cP ⟨c4, c11, c18, c21⟩) := ⟨⟨_, _, _, ok_wp F_fWp PG ME, PySem.W.mg_of X G D.g_fWp, F_fWp.kp, b_fWp⟩⟩
  have OSt : FnOk l.prog w K mg base (L2N.CX l.prog w) 7 fSt fd_fSt ["self", "n", "m"] (spSt K ⟨dU, dM, dD⟩ cP ⟨c4, c11, c18, c21⟩) := ok_st F_fSt PG ME TQ cA_fCnt c_fRep
  have OPw : FnOk l.prog w K mg base (L2N.CX l.prog w) 8 fPw fd_fPw ["self", "other"] (spPw K ⟨dU, dM, dD⟩ cP ⟨c4, c11, c18, c21⟩) := ok_pw F_fPw PG EB TQ cA_fCnt c_fCol c_fRep c_fWp
  have OUn : FnOk l.prog w K mg base (L2N.CX l.prog w) 8 fUn fd_fUn ["self", "j"] (spUn K ⟨dU, dM, dD⟩ cP ⟨c4, c11, c18, c21⟩) := ok_un F_fUn PG EB TQ cA_fCnt c_fCol c_fRep c_fWp
  have OTu : FnOk l.prog w K mg base (L2N.CX l.prog w) 8 fTu fd_fTu ["self", "j"] (spTu K ⟨dU, dM, dD⟩ cP ⟨c4, c11, c18, c21⟩) := ok_tu F_fTu PG EB TB cA_fCnt c_fCol c_fWp
  have ODE : FnOk l.prog w K mg base CX0 1 fEq fd_fEq ["self", "other"] (spDEq K ⟨dU, dM, dD⟩ CD) := ok_deq F_fEq TB k3 dty (PySem.W.mg_of X G D.gD)
  have AE : AEq6 l.prog w K mg base ⟨dU, dM, dD⟩ := ⟨⟨CD, fEq, _, ODE, eu, em, ed, b_fEq⟩⟩
  have OPE : FnOk l.prog w K mg base CX0 5 fPE fd_fPE ["self", "other"] (spPEq K ⟨dU, dM, dD⟩ cP) := ok_peq F_fPE TB PC gP pty ODE eu em ed b_fEq
  have mSt : MetW l.prog w K mg base 7 cP "straight" (spSt K ⟨dU, dM, dD⟩ cP ⟨c4, c11, c18, c21⟩) [.int 0] := ⟨⟨fSt, _, _, dsS, D.kP.cls, ⟨D.a_fSt, D.f_fSt, F_fSt.kp⟩, OSt, bS, vS⟩⟩
  have mUn : MetW l.prog w K mg base 8 cP "unrolled" (spUn K ⟨dU, dM, dD⟩ cP ⟨c4, c11, c18, c21⟩) [] := ⟨⟨fUn, _, _, [], D.kP.cls, ⟨D.a_fUn, D.f_fUn, F_fUn.kp⟩, OUn, b_fUn, .nil⟩⟩
  have mTu : MetW l.prog w K mg base 8 cP "turned" (spTu K ⟨dU, dM, dD⟩ cP ⟨c4, c11, c18, c21⟩) [] := ⟨⟨fTu, _, _, [], D.kP.cls, ⟨D.a_fTu, D.f_fTu, F_fTu.kp⟩, OTu, b_fTu, .nil⟩⟩
  have kUn : MetK l.prog w K mg base 8 cP "unrolled" ["j"] (spUn K ⟨dU, dM, dD⟩ cP ⟨c4, c11, c18, c21⟩) := ⟨⟨fUn, _, _, D.kP.cls, ⟨D.a_fUn, D.f_fUn, F_fUn.kp⟩, OUn, kw_fUn⟩⟩
  have kTu : MetK l.prog w K mg base 8 cP "turned" ["j"] (spTu K ⟨dU, dM, dD⟩ cP ⟨c4, c11, c18, c21⟩) := ⟨⟨fTu, _, _, D.kP.cls, ⟨D.a_fTu, D.f_fTu, F_fTu.kp⟩, OTu, kw_fTu⟩⟩
  have c_fSome : C8.Cal l.prog w K mg base 2 "_law_some" (spSome K) [] := ⟨_, _, _, _, ok_some F_fSome TB (PySem.W.mg_none_of X G D.n_min) c_fDraw, PySem.W.mg_of X G D.g_fSome, F_fSome.kp, b_fSome, .nil⟩
  have c_fNames : C8.Cal l.prog w K mg base 3 "_law_names" spLNames [] := ⟨_, _, _, _, ok_lnames F_fNames c_fPick c_fSome, PySem.W.mg_of X G D.g_fNames, F_fNames.kp, b_fNames, .nil⟩
  have c_fReal : C8.Cal l.prog w K mg base 7 "_law_real_deed" (spReal K ⟨dU, dM, dD⟩) [] := ⟨_, _, _, _, ok_real F_fReal TB dcs (NN.fnR_less OU) (NN.fnOk_less OM) b_fM (NN.fnR_less OD), PySem.W.mg_of X G D.g_fReal, F_fReal.kp, b_fReal, .nil⟩
  have c_fOr : C8.Cal l.prog w K mg base 1 "_law_order" spOr [] := ⟨_, _, _, _, ok_or F_fOr, PySem.W.mg_of X G D.g_fOr, F_fOr.kp, b_fOr, .nil⟩
  have c_fDs : C8.Cal l.prog w K mg base 3 "_law_deeds" (spDs K) [] := ⟨_, _, _, _, ok_ds F_fDs TB c_fDraw c_fPick c_fSome, PySem.W.mg_of X G D.g_fDs, F_fDs.kp, b_fDs, .nil⟩
  have c_fSi : C8.Cal l.prog w K mg base 4 "_law_site" spSg [] := ⟨_, _, _, _, ok_sg F_fSi TB TP c_fDraw c_fNames c_fDs, PySem.W.mg_of X G D.g_fSi, F_fSi.kp, b_fSi, .nil⟩
  have c_fRp : C8.Cal l.prog w K mg base 8 "_law_real_part" (spRp K ⟨dU, dM, dD⟩) [] := ⟨_, _, _, _, ok_rp F_fRp c_fReal, PySem.W.mg_of X G D.g_fRp, F_fRp.kp, b_fRp, .nil⟩
  have c_fRl : C8.Cal l.prog w K mg base 9 "_law_real" (spRlG K ⟨dU, dM, dD⟩ cP) [] := ⟨_, _, _, _, ok_rlG F_fRl MT c_fOr c_fRp, PySem.W.mg_of X G D.g_fRl, F_fRl.kp, b_fRl, .nil⟩
  have c_fMn : C8.Cal l.prog w K mg base 1 "_law_many" spMn [] := ⟨_, _, _, _, ok_mn F_fMn TB, PySem.W.mg_of X G D.g_fMn, F_fMn.kp, b_fMn, .nil⟩
  have c_fWr : C8.Cal l.prog w K mg base 1 "_law_wrong" (spWr K) [] := ⟨_, _, _, _, ok_wr F_fWr TB TP, PySem.W.mg_of X G D.g_fWr, F_fWr.kp, b_fWr, .nil⟩
  have c_fPd : C8.Cal l.prog w K mg base 2 "_law_power_due" (spPd K) [] := ⟨_, _, _, _, ok_pd F_fPd c_fWr c_fMn, PySem.W.mg_of X G D.g_fPd, F_fPd.kp, b_fPd, .nil⟩
  have c_fUd : C8.Cal l.prog w K mg base 2 "_law_unrolled_due" (spUd K) [] := ⟨_, _, _, _, ok_ud F_fUd c_fWr c_fMn, PySem.W.mg_of X G D.g_fUd, F_fUd.kp, b_fUd, .nil⟩
  have c_fTd : C8.Cal l.prog w K mg base 2 "_law_turned_due" (spTd K) [] := ⟨_, _, _, _, ok_td F_fTd TB c_fWr c_fMn, PySem.W.mg_of X G D.g_fTd, F_fTd.kp, b_fTd, .nil⟩
  have c_fKp : C8.Cal l.prog w K mg base 4 "_law_is_kept" (spKp K ⟨dU, dM, dD⟩ cP) [] := ⟨_, _, _, _, ok_kp F_fKp PG, PySem.W.mg_of X G D.g_fKp, F_fKp.kp, b_fKp, .nil⟩
  have c_fLp : CalL l.prog w K mg base 9 "_law_power" (spLp K ⟨dU, dM, dD⟩ cP ⟨c4, c11, c18, c21⟩) := ⟨⟨_, _, _, ok_lp F_fLp OPw b_fPw pw, PySem.W.mg_of X G D.g_fLp, F_fLp.kp, b_fLp⟩⟩
  have RT : RT6 l.prog w K mg base ⟨dU, dM, dD⟩ ⟨c4, c11, c18, c21⟩ cP CS fPE fHeard fd_fPE fd_fHeard :=
    { T := TB, S := SB, E := kerr, G := PG, FH := F_fHeard, gH := PySem.W.mg_of X G D.g_fHeard, hbH := b_fHeard, st := mSt, eq := ep, FEq := OPE, hbE := b_fPE, ty := pty, nf := D.nfP, kp := c_fKp }
  have CP : CalG l.prog w K mg base 12 "_law_power_right" ps3 (spPr K ⟨dU, dM, dD⟩ cP TT) := ⟨⟨fPr, _, ok_pr F_fPr RT c_fPd c_fLp tb_Pr hmPr huPr, PySem.W.mg_of X G D.g_fPr, F_fPr.kp, b_fPr⟩⟩
  have CU : CalG l.prog w K mg base 12 "_law_unrolled_right" ps3 (spUr K ⟨dU, dM, dD⟩ cP TT) := ⟨⟨fUr, _, ok_ur F_fUr RT AE c_fUd mUn kUn tb_Ur hmUr huUr, PySem.W.mg_of X G D.g_fUr, F_fUr.kp, b_fUr⟩⟩
  have CT : CalG l.prog w K mg base 12 "_law_turned_right" ps3 (spTr K ⟨dU, dM, dD⟩ cP TT) := ⟨⟨fTr, _, ok_tr F_fTr RT AE c_fTd mTu kTu tb_Tr hmTr huTr, PySem.W.mg_of X G D.g_fTr, F_fTr.kp, b_fTr⟩⟩
  exact ok_law F_fLaw TB SB CP CT CU c_fPen c_fDraw c_fPick c_fSi c_fRl c_fMn
end
end K06
set_option Elab.async false
set_option linter.all false
set_option maxRecDepth 100000
set_option maxHeartbeats 0
namespace K06
open PySem PySem.W PySem.Calls PyProof.Rows NX K06H
theorem headF {h : Heap} {K : HK.Fg} (c : HK.Says K06H.fns K06H.tf K06H.ex h K) : HeadF K (a_CS K) (a_CD K) (a_pNm K) (a_c18 K) (a_c21 K) (a_c0 K) (a_c1 K) (a_c4 K) (a_c10 K) (a_c11 K) (a_dU K) (a_dM K) (a_dD K) (a_cP K) (a_i0 K) (a_i1 K) (a_i4 K) (a_i10 K) (a_i11 K) (a_fU K) (a_fM K) (a_fD K) (a_fNm K) (a_fEq K) (a_g0 K) (a_g1 K) (a_g2 K) (a_g3 K) (a_g4 K) (a_g5 K) (a_g6 K) (a_g7 K) (a_g8 K) (a_g9 K) (a_fPw K) (a_fUn K) (a_fTu K) (a_fPE K) (a_p0 K) (a_p1 K) (a_p2 K) (a_p3 K) (a_p4 K) (a_p5 K) (a_p6 K) (a_p7 K) (a_p8 K) (a_p9 K) (a_fP K) (a_fSt K) (a_tPA K) (a_tLO K) (a_t0 K) (a_t1 K) (a_t2 K) (a_t3 K) (a_t4 K) (a_fIs K) (a_fNum K) (a_fCnt K) (a_fPri K) (a_fCns K) (a_fCun K) (a_fAsc K) (a_fCus K) (a_fCp K) (a_fCz K) (a_fCt K) (a_fAn K) (a_fCv K) (a_fCd K) (a_fCol K) (a_fRep K) (a_fWp K) (a_fPen K) (a_fDraw K) (a_fPick K) (a_fSome K) (a_fNames K) (a_fReal K) (a_fOr K) (a_fDs K) (a_fSi K) (a_fRp K) (a_fRl K) (a_fHeard K) (a_fMn K) (a_fWr K) (a_fPd K) (a_fUd K) (a_fTd K) (a_fKp K) (a_fLp K) (a_fLaw K) (a_fPr K) (a_cPr K) (a_pPr K) (a_fUr K) (a_cUr K) (a_pUr K) (a_fTr K) (a_cTr K) (a_pTr K) :=
  ⟨HK.eqV_ok (c.at_ 0),
  HK.eqV_ok (c.at_ 1),
  HK.eqV_ok (c.at_ 2),
  HK.eqV_ok (c.at_ 3),
  HK.eqV_ok (c.at_ 4),
  HK.eqV_ok (c.at_ 5),
  HK.eqV_ok (c.at_ 6),
  HK.eqV_ok (c.at_ 7),
  HK.eqV_ok (c.at_ 8),
  HK.eqV_ok (c.at_ 9),
  HK.eqV_ok (c.at_ 10),
  HK.eqV_ok (c.at_ 11),
  HK.eqV_ok (c.at_ 12),
  HK.eqV_ok (c.at_ 13),
  HK.eqV_ok (c.at_ 14),
  HK.eqV_ok (c.at_ 15),
  HK.eqV_ok (c.at_ 16),
  HK.strB_ok (c.at_ 17),
  HK.intB_ok (c.at_ 18),
  HK.intB_ok (c.at_ 19),
  HK.intB_ok (c.at_ 20),
  HK.intB_ok (c.at_ 21),
  HK.intB_ok (c.at_ 22),
  HK.eqV_ok (c.at_ 23),
  HK.eqV_ok (c.at_ 24),
  tupS_ok (c.at_ 25),
  tupS_ok (c.at_ 26),
  tupS_ok (c.at_ 27),
  tupS_ok (c.at_ 28),
  HK.baseB_ok (c.at_ 29),
  HK.errB_ok (c.at_ 30),
  HK.errB_ok (c.at_ 31),
  HK.errB_ok (c.at_ 32),
  HK.errB_ok (c.at_ 33),
  HK.errB_ok (c.at_ 34),
  HK.eqV_ok (c.at_ 35),
  c.at_ 36,
  c.at_ 37,
  HK.eqT_ok (c.at_ 38),
  HK.eqV_ok (c.at_ 39),
  HK.eqV_ok (c.at_ 40),
  HK.eqB_ok (c.at_ 41),
  c.at_ 42,
  HK.eqV_ok (c.at_ 43),
  HK.eqB_ok (c.at_ 44),
  HK.eqB_ok (c.at_ 45),
  HK.eqB_ok (c.at_ 46),
  HK.eqV_ok (c.at_ 47),
  c.at_ 48,
  c.at_ 49,
  HK.eqT_ok (c.at_ 50),
  HK.eqV_ok (c.at_ 51),
  HK.eqV_ok (c.at_ 52),
  HK.eqB_ok (c.at_ 53),
  c.at_ 54,
  HK.eqV_ok (c.at_ 55),
  HK.eqB_ok (c.at_ 56),
  HK.eqB_ok (c.at_ 57),
  HK.eqB_ok (c.at_ 58),
  HK.eqB_ok (c.at_ 59),
  HK.eqB_ok (c.at_ 60),
  HK.eqB_ok (c.at_ 61),
  HK.eqB_ok (c.at_ 62),
  HK.eqB_ok (c.at_ 63),
  HK.eqB_ok (c.at_ 64),
  HK.eqB_ok (c.at_ 65),
  HK.eqB_ok (c.at_ 66),
  HK.eqB_ok (c.at_ 67),
  HK.eqB_ok (c.at_ 68),
  HK.eqB_ok (c.at_ 69),
  HK.eqB_ok (c.at_ 70),
  HK.clsB_ok (c.at_ 71),
  HK.eqV_ok (c.at_ 72),
  HK.eqV_ok (c.at_ 73),
  HK.eqV_ok (c.at_ 74),
  HK.eqV_ok (c.at_ 75),
  HK.eqB_ok (c.at_ 76),
  HK.eqV_ok (c.at_ 77),
  HK.eqV_ok (c.at_ 78),
  HK.eqV_ok (c.at_ 79),
  HK.eqB_ok (c.at_ 80),
  HK.clsB_ok (c.at_ 81),
  HK.eqV_ok (c.at_ 82),
  HK.eqV_ok (c.at_ 83),
  HK.eqV_ok (c.at_ 84),
  HK.eqV_ok (c.at_ 85),
  HK.eqB_ok (c.at_ 86),
  HK.eqV_ok (c.at_ 87),
  HK.eqV_ok (c.at_ 88),
  HK.eqV_ok (c.at_ 89),
  HK.eqB_ok (c.at_ 90),
  HK.clsB_ok (c.at_ 91),
  HK.eqV_ok (c.at_ 92),
  HK.eqV_ok (c.at_ 93),
  HK.eqV_ok (c.at_ 94),
  HK.eqV_ok (c.at_ 95),
  HK.eqB_ok (c.at_ 96),
  HK.eqV_ok (c.at_ 97),
  HK.eqV_ok (c.at_ 98),
  HK.eqV_ok (c.at_ 99),
  HK.eqB_ok (c.at_ 100),
  HK.clsB_ok (c.at_ 101),
  HK.eqV_ok (c.at_ 102),
  HK.eqV_ok (c.at_ 103),
  HK.eqV_ok (c.at_ 104),
  HK.eqV_ok (c.at_ 105),
  HK.eqV_ok (c.at_ 106),
  HK.eqV_ok (c.at_ 107),
  HK.eqV_ok (c.at_ 108),
  HK.eqV_ok (c.at_ 109),
  HK.eqB_ok (c.at_ 110),
  HK.eqV_ok (c.at_ 111),
  HK.eqV_ok (c.at_ 112),
  HK.eqV_ok (c.at_ 113),
  HK.eqV_ok (c.at_ 114),
  HK.eqV_ok (c.at_ 115),
  HK.eqV_ok (c.at_ 116),
  HK.eqV_ok (c.at_ 117),
  HK.eqV_ok (c.at_ 118),
  HK.eqV_ok (c.at_ 119),
  HK.eqV_ok (c.at_ 120),
  HK.eqV_ok (c.at_ 121),
  HK.eqB_ok (c.at_ 122),
  HK.recB_ok (c.at_ 123),
  HK.eqV_ok (c.at_ 124),
  HK.eqB_ok (c.at_ 125),
  HK.recB_ok (c.at_ 126),
  HK.eqV_ok (c.at_ 127),
  HK.eqB_ok (c.at_ 128),
  HK.recB_ok (c.at_ 129),
  HK.eqV_ok (c.at_ 130),
  HK.eqB_ok (c.at_ 131),
  HK.recB_ok (c.at_ 132),
  HK.eqV_ok (c.at_ 133),
  HK.eqB_ok (c.at_ 134),
  HK.recB_ok (c.at_ 135),
  HK.eqV_ok (c.at_ 136),
  HK.eqB_ok (c.at_ 137),
  HK.recB_ok (c.at_ 138),
  HK.eqV_ok (c.at_ 139),
  HK.eqB_ok (c.at_ 140),
  HK.recB_ok (c.at_ 141),
  HK.eqV_ok (c.at_ 142),
  HK.eqB_ok (c.at_ 143),
  HK.recB_ok (c.at_ 144),
  HK.eqV_ok (c.at_ 145),
  HK.eqB_ok (c.at_ 146),
  HK.recB_ok (c.at_ 147),
  HK.eqV_ok (c.at_ 148),
  HK.eqB_ok (c.at_ 149),
  HK.recB_ok (c.at_ 150),
  HK.eqV_ok (c.at_ 151),
  HK.eqB_ok (c.at_ 152),
  HK.recB_ok (c.at_ 153),
  HK.eqV_ok (c.at_ 154),
  c.at_ 155,
  HK.eqV_ok (c.at_ 156),
  c.at_ 157,
  HK.eqV_ok (c.at_ 158),
  c.at_ 159,
  HK.eqV_ok (c.at_ 160),
  c.at_ 161,
  c.at_ 162,
  c.at_ 163,
  c.at_ 164,
  c.at_ 165,
  HK.eqV_ok (c.at_ 166),
  Option.isSome_iff_exists.mp (c.at_ 167),
  Option.isSome_iff_exists.mp (c.at_ 168),
  HK.eqB_ok (c.at_ 169),
  HK.eqV_ok (c.at_ 170),
  HK.rdB_ok (c.at_ 171),
  HK.cvalI_ok (c.at_ 172),
  c.def_ 0,
  c.def_ 1,
  HK.fnF_of (c.def_ 2),
  HK.fnF_of (c.def_ 3),
  HK.fnF_of (c.def_ 4),
  HK.fnF_of (c.def_ 5),
  HK.fnF_of (c.def_ 6),
  HK.fnF_of (c.def_ 7),
  HK.fnF_of (c.def_ 8),
  HK.fnF_of (c.def_ 9),
  HK.fnF_of (c.def_ 10),
  HK.fnF_of (c.def_ 11),
  HK.fnF_of (c.def_ 12),
  HK.fnF_of (c.def_ 13),
  HK.fnF_of (c.def_ 14),
  HK.fnF_of (c.def_ 15),
  HK.fnF_of (c.def_ 16),
  HK.fnF_of (c.def_ 17),
  HK.fnF_of (c.def_ 18),
  HK.fnF_of (c.def_ 19),
  HK.fnF_of (c.def_ 20),
  HK.fnF_of (c.def_ 21),
  HK.fnF_of (c.def_ 22),
  HK.fnF_of (c.def_ 23),
  HK.fnF_of (c.def_ 24),
  HK.fnF_of (c.def_ 25),
  HK.eqV_ok (c.at_ 173),
  HK.fnF_of (c.def_ 26),
  HK.eqV_ok (c.at_ 174),
  HK.fnF_of (c.def_ 27),
  HK.eqV_ok (c.at_ 175),
  HK.fnF_of (c.def_ 28),
  HK.eqV_ok (c.at_ 176),
  HK.fnF_of (c.def_ 29),
  HK.eqV_ok (c.at_ 177),
  HK.fnF_of (c.def_ 30),
  HK.eqV_ok (c.at_ 178),
  HK.fnF_of (c.def_ 31),
  HK.eqV_ok (c.at_ 179),
  HK.fnF_of (c.def_ 32),
  HK.eqV_ok (c.at_ 180),
  HK.fnF_of (c.def_ 33),
  HK.eqV_ok (c.at_ 181),
  HK.fnF_of (c.def_ 34),
  HK.eqV_ok (c.at_ 182),
  HK.fnF_of (c.def_ 35),
  HK.eqV_ok (c.at_ 183),
  HK.fnF_of (c.def_ 36),
  HK.eqV_ok (c.at_ 184),
  HK.fnF_of (c.def_ 37),
  HK.eqV_ok (c.at_ 185),
  HK.fnF_of (c.def_ 38),
  HK.eqV_ok (c.at_ 186),
  HK.fnF_of (c.def_ 39),
  HK.eqV_ok (c.at_ 187),
  HK.fnF_of (c.def_ 40),
  HK.eqV_ok (c.at_ 188),
  HK.fnF_of (c.def_ 41),
  HK.eqV_ok (c.at_ 189),
  HK.fnF_of (c.def_ 42),
  HK.eqV_ok (c.at_ 190),
  HK.fnF_of (c.def_ 43),
  HK.eqV_ok (c.at_ 191),
  HK.fnF_of (c.def_ 44),
  HK.eqV_ok (c.at_ 192),
  HK.fnF_of (c.def_ 45),
  HK.eqV_ok (c.at_ 193),
  HK.fnF_of (c.def_ 46),
  HK.eqV_ok (c.at_ 194),
  HK.fnF_of (c.def_ 47),
  HK.eqV_ok (c.at_ 195),
  HK.fnF_of (c.def_ 48),
  HK.eqV_ok (c.at_ 196),
  HK.fnF_of (c.def_ 49),
  HK.eqV_ok (c.at_ 197),
  HK.fnF_of (c.def_ 50),
  HK.eqV_ok (c.at_ 198),
  HK.fnF_of (c.def_ 51),
  HK.eqV_ok (c.at_ 199),
  HK.fnF_of (c.def_ 52),
  HK.eqV_ok (c.at_ 200),
  HK.fnF_of (c.def_ 53),
  HK.eqV_ok (c.at_ 201),
  HK.fnF_of (c.def_ 54),
  HK.eqV_ok (c.at_ 202),
  HK.fnF_of (c.def_ 55),
  HK.eqV_ok (c.at_ 203),
  HK.fnF_of (c.def_ 56),
  HK.eqV_ok (c.at_ 204),
  HK.fnF_of (c.def_ 57),
  HK.eqV_ok (c.at_ 205),
  HK.fnF_of (c.def_ 58),
  HK.eqV_ok (c.at_ 206),
  HK.fnF_of (c.def_ 59),
  HK.eqV_ok (c.at_ 207),
  HK.fnF_of (c.def_ 60),
  HK.eqV_ok (c.at_ 208),
  HK.fnF_of (c.def_ 61),
  HK.eqV_ok (c.at_ 209),
  HK.fnF_of (c.def_ 62),
  HK.eqV_ok (c.at_ 210),
  HK.fnT_of (c.def_ 63) a_fPr rfl (c.hd a_fPr (by simp [K06H.tf])),
  c.out a_fPr (by simp [K06H.tf]),
  HK.eqV_ok (c.at_ 211),
  HK.fnT_of (c.def_ 64) a_fUr rfl (c.hd a_fUr (by simp [K06H.tf])),
  c.out a_fUr (by simp [K06H.tf]),
  HK.eqV_ok (c.at_ 212),
  HK.fnT_of (c.def_ 65) a_fTr rfl (c.hd a_fTr (by simp [K06H.tf])),
  c.out a_fTr (by simp [K06H.tf]),
  HK.notB_ok (c.at_ 213),
  HK.notB_ok (c.at_ 214),
  HK.notB_ok (c.at_ 215)⟩
end K06
open PySem PySem.W PySem.Calls PyProof.Rows
theorem PySem.Challenge.cw_loopstow_k06_whole_powers_and_turned_loo_holds : PySem.Challenge.rw_loopstow_k06_whole_powers_and_turned_loo.Holds := by
  w_on; o_law
  refine HandSHeadRun.head_any (r := OpenLaw.row PySem.Challenge.rw_loopstow_k06_whole_powers_and_turned_loo) (q := view (OpenLaw.row PySem.Challenge.rw_loopstow_k06_whole_powers_and_turned_loo).prog [92]) (H := K06H.hk) (ob := K06H.ob) (M := 20000) (loose := K06H.loose) (d := HandSHeadRun.topDef (OpenLaw.row PySem.Challenge.rw_loopstow_k06_whole_powers_and_turned_loo).prog 92) (kwd := []) (fun s => HK.obs_eq s)
    (by kernel_rfl) (fun s => by kernel_rfl) K06H.run (by kernel_rfl) (by kernel_rfl) (by kernel_rfl) (by rfl) (by first | assumption | decide +kernel) (by decide +kernel) ⟨rfl, rfl, rfl, rfl, rfl, by decide +kernel⟩ ?hw ?hc
  case hw => w_witness2
  case hc =>
    refine HK.walkGE (l := PySem.Challenge.rw_loopstow_k06_whole_powers_and_turned_loo) (n := 63) (k := 14) (x := "_law_script") rfl (by decide) (by kernel_rfl) ⟨rfl, by decide, by decide⟩ (by rfl) ?G
    intro w mg fa h Y G hmg0
    obtain ⟨K, KX, c⟩ := Y
    have hmg : mg ("law" : PySem.Str) = some (.ref fa) := by
      have e : (HandSHeadRun.topDef (OpenLaw.row PySem.Challenge.rw_loopstow_k06_whole_powers_and_turned_loo).prog 92).name = ("law" : PySem.Str) := by kernel_rfl
      rw [← e]
      exact hmg0
    exact ⟨K, KX, (K06.headF c).law KX G hmg (c.empty K06H.a_fPr (by simp [K06H.tf])) (c.empty K06H.a_fUr (by simp [K06H.tf])) (c.empty K06H.a_fTr (by simp [K06H.tf]))⟩
