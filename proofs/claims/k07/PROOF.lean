import PyProof.Rows.All
import Wide.All
import OpenK.AllK
import Wide.FinOn
import HandS.ForMost
import HandS.Exc
import HandS.ExcInit
import HandS.ExcField
import HandS.ExcIs
import HandS.IsInst
import HandS.TryOnly
import KE.KExcIs
import PyProof.ReprRoads
import HandS.Lambda
import HandS.Codes
import HandS.EndTab
import HandS.ClsMeth
import HandS.OwnEq
import PyProof.InstEq
import HandS.HeadHook4
import HandS.Head2
import PySem.Challenge.RW_loopstow_k07_programs_renamed
import HandS.FStr
import HandS.StrMore
import HandS.WordsExc
import KE.KUnpackStar
import PyProof.Rows.SetFrom
import HandS.Strs
import HandS.SetFor
import HandS.More
import HandS.Star
import HandS.SuiteRaise
import HandS.RaiseFrom
import HandS.ExcInitHot
import HandS.HotCalls
import HandS.Property
import HandS.Flow
import HandS.RaiseMore
import HandS.SortKw
import KE.KSortKey
import PyProof.TupleOfSeq
import KE.GoesEnum
import KE.GoesMore
import HandS.NoneIn
import HandS.Defaults
import HandS.MakeKwOnly
import HandS.WordsDict
import HandS.Small
import HandS.Iter
import HandS.DictComp
import HandS.TupMul
import HandS.ExcValue
import HandS.ExcValueHot
import PyProof.CallFns
import PyProof.ReprReads
import PyProof.Rows.StrMeet
import PyProof.Rows.SortStr
import HandS.Sort
import KE.KDictList
import PyProof.WalkInts
import HandS.Walk
import HandS.List
import HandS.Dict
import HandS.Zip
set_option Elab.async false
set_option linter.all false
set_option maxRecDepth 100000
set_option maxHeartbeats 4000000
/-! Rules of my own: an error that is caught under a name and kept in a local name behind the suite; what is asked of it there. -/
namespace NX
open PySem PySem.Spec PyProof.Rows L2
/-- the kept error at a: its class, its dict -/
def Kept (a : Addr) (cls : Value) (d : Option Addr) : HO := .ext fun h => ∃ o vs, h.get? a = some o ∧ o.cls = cls ∧ o.dict = d ∧ o.data = .fields vs
theorem kept_ne {a b : Addr} {cls : Value} {d : Option Addr} : Kept a cls d ≠ .own b := fun z => by
  unfold Kept at z
  cases z
theorem kept_ok {P : Program} {w : World} {H : Hp} {h : Heap} {a : Addr} {cls : Value} {d : Option Addr} {o : Obj} {vs : Array Value} (e : h.get? a = some o) (z : Zc cls d o) (f : o.data = .fields vs) : ObjOk P w H h a (Kept a cls d) :=
  ⟨⟨o, vs, e, z.1, z.2, f⟩, ⟨o, e⟩, fun h1 h2 ⟨o1, w1, e1, r1⟩ k => ⟨o1, w1, k _ e1, r1⟩⟩
section
variable {X : Cx} {pins : List (Addr × Obj)} {σ : L2.St} {H : Hp} {s : Shared}
/-- an object that nobody tracks, and that is none of the entry's, is tracked from now on -/
theorem adopt {a : Addr} {cls : Value} {d : Option Addr} {o : Obj} {vs : Array Value} (I : Inv X ((a, o) :: pins) σ H s) (z : Zc cls d o) (f : o.data = .fields vs) (new : X.s_0.heap.get? a = none) (np : ∀ p ∈ X.pn ++ pins, p.1 ≠ a) :
    Inv X pins σ (upd H a (Kept a cls d)) s := by
  obtain ⟨ga, na, nL, nF, nC⟩ := I.pin (a, o) (List.mem_append_right _ List.mem_cons_self)
  have ga : s.heap.get? a = some o := ga
  have na : H a = none := na
  have B := I.base
  have nb : ∀ {b u}, X.s_0.heap.get? b = some u → b ≠ a := fun {b u} e q => by rw [q, new] at e; cases e
  refine ⟨I.ok, I.os, I.bare, ⟨B.keep, B.slot, fun b u e n hx => ?_, B.there, fun b xs e => ?_, fun b u v e => ?_, fun b ps e => ?_⟩, I.loc, I.cell, ?_, fun x c e => ?_, fun p hp => ?_, ?_, I.len⟩
  · rw [upd_ne (nb e)]
    exact B.free b u e n hx
  · have q := B.tups b xs e
    rw [upd_ne (ne_of_none q na)]
    exact q
  · have q := B.frzs b u v e
    rw [upd_ne (ne_of_none q na)]
    exact q
  · obtain ⟨more, q⟩ := B.tbls b ps e
    exact ⟨more, by rw [upd_ne (ne_of_none q na)]; exact q⟩
  · rw [upd_ne (Ne.symm nL)]
    exact I.free
  · obtain ⟨v, oc, e1, e2⟩ := I.cell x c e
    have hne : c ≠ a := fun q => by
      rw [q, ga] at e1
      cases e1
      exact nC _ e2
    rw [upd_ne hne]
    exact I.freeC x c e
  · have hp' : p ∈ X.pn ++ (a, o) :: pins := by
      rcases List.mem_append.mp hp with q | q
      · exact List.mem_append_left _ q
      · exact List.mem_append_right _ (List.mem_cons_of_mem _ q)
    obtain ⟨e1, e2, e3⟩ := I.pin p hp'
    exact ⟨e1, by rw [upd_ne (np p hp)]; exact e2, e3⟩
  · intro b u e
    by_cases hb : b = a
    · rw [hb, upd_same] at e
      cases e
      rw [hb]
      exact kept_ok ga z f
    · rw [upd_ne hb] at e
      exact (I.hok b u e).stay (fun _ _ _ q => q) (fun c q => by rw [upd_ne (ne_of_none q na)]; exact q) fun c xs q => by rw [upd_ne (ne_of_none q na)]; exact q
/-- what «except x as n: suite» wishes of an error of the body, if the error is kept: slot i is n's, the suite's ends see the kept error -/
def wKeep (K : PySem.W.Frag) (c : Value) (i : Nat) (ts : Addr → Value → Option Addr → TS) (Wout : WX) (D : Ends) : WX := fun cls d σ H =>
  ∃ b, PySem.W.exmOne K cls c = some b ∧ (b = false → Wout cls d σ H) ∧
    (b = true → ∀ a, H a = none → ts a cls d ⟨fun σ' H' => D.nx (σ'.set i none) (upd H' a (Kept a cls d)), fun v H' => D.rt v (upd H' a (Kept a cls d)), fun σ' H' => D.bk (σ'.set i none) (upd H' a (Kept a cls d)), fun σ' H' => D.ct (σ'.set i none) (upd H' a (Kept a cls d))⟩ (σ.set i (some (.ref a))) H)
end
section
variable {X : Cx} {x n : Str} {c : Value} {i : Nat} {body suite : List Stmt} {b₀ : Stmt} {np p1 p2 : Pos} {tb : WX → TS} {ts : Addr → Value → Option Addr → TS} {Wout : WX}
theorem ps_try_keep (hs : X.stack = X.env :: X.outer) (hf : X.env.frame = some X.env.locals) (hN : X.N.Nodup) (hi : X.N[i]? = some n) (hln : X.env.kindOf n = some .local) (hex : X.ex = []) (hc : Names X x c) (tk : Takes X Wout)
    (hb : ∀ (W : WX) (pn : List (Addr × Obj)) (xe : Value → Shared → Prop), Takes (X.tr pn xe) W → PassesOwn (model X.prog X.w) X.A X.env xe → PSs (X.tr pn xe) body (tb W))
    (hsu : ∀ (a : Addr) (oe : Obj) (cls : Value) (d : Option Addr) (pn : List (Addr × Obj)), Zc cls d oe → (∃ vs, oe.data = .fields vs) → PSs (X.suite a ((a, oe) :: pn)) (b₀ :: suite) (ts a cls d)) :
    PS X (.Try body [.ExceptHandler (some (.Name x np)) (some n) (b₀ :: suite) p1] [] [] p2) (fun D σ H => tb (wKeep X.K c i ts Wout D) D σ H) := by
  refine ⟨fun pins s σ H D I h => ?_⟩
  have ok := I.ok
  have frames : X.A.frames = some (X.env :: X.outer) := by rw [ok.frames, hs]
  -- the wish of the body: what the clause does with an error
  have caught : ∀ (u : Value) (s' : Shared), XE (X.tr (X.pn ++ pins) (fun e s₁ => wpAny (model X.prog X.w) X.A (noteFrame e X.env) (fun _ s₂ => wpAny (model X.prog X.w) X.A (setFlight e none) (fun _ s₃ =>
      wpAny (model X.prog X.w) X.A (handleBy e X.env [.ExceptHandler (some (.Name x np)) (some n) (b₀ :: suite) p1]) (SP X pins D) X.xe s₃) X.xe s₂) X.xe s₁)) (wKeep X.K c i ts Wout D) u s' →
      wpAny (model X.prog X.w) X.A (noteFrame u X.env) (fun _ s₂ => wpAny (model X.prog X.w) X.A (setFlight u none) (fun _ s₃ =>
        wpAny (model X.prog X.w) X.A (handleBy u X.env [.ExceptHandler (some (.Name x np)) (some n) (b₀ :: suite) p1]) (SP X pins D) X.xe s₃) X.xe s₂) X.xe s' := by
    intro u s' xx
    obtain ⟨a, B, sI, pins', σ', H', cls, d, rfl, J', nb, up, sky, na, os, ag, b, hb1, hno, hyes⟩ := xx
    have J : Inv X pins σ' H' sI := J'.ofTry ok
    have sky' : Sky B (X.env :: X.outer) a (Zc cls d) X.env.locals s'.heap := by rw [← hs]; exact sky
    refine Sky.land Zc.steady frames hf sky' fun h3 fl3 up3 => ?_
    obtain ⟨oe3, vs3, he3, hz3, hd3⟩ := fl3.there
    have Ba : B.get? a = none := fl3.2.1
    have aFr : a ∉ frs (X.env :: X.outer) := fun hm => by
      obtain ⟨_, o', e', hnf⟩ := fl3.2.2.1.mem hm
      rw [he3] at e'
      cases e'
      exact hnf _ hd3
    have aS : a ∉ frs X.stack := by rw [hs]; exact aFr
    have aI : sI.heap.get? a = none := by
      cases e : sI.heap.get? a with
      | none => rfl
      | some o =>
        have q := nb a o e aS
        rw [Ba] at q
        cases q
    have a0 : X.s_0.heap.get? a = none := by
      cases e : X.s_0.heap.get? a with
      | none => rfl
      | some o =>
        obtain ⟨o', q⟩ := J.base.there a o e (by rw [hex]; simp)
        rw [aI] at q
        cases q
    have aL : a ≠ X.env.locals := fun z => aFr (List.mem_filterMap.mpr ⟨X.env, List.mem_cons_self, by rw [hf, z]⟩)
    have aF : a ∉ X.fs := fun hm => by
      obtain ⟨e, he, q⟩ := List.mem_filterMap.mp hm
      exact aFr (List.mem_filterMap.mpr ⟨e, List.mem_cons_of_mem _ he, q⟩)
    have aP : ∀ p ∈ X.pn ++ pins, p.1 ≠ a := fun p hp z => by
      have q := (J.pin p hp).1
      rw [z, aI] at q
      cases q
    have J3 : Inv X pins σ' H' { s' with heap := h3 } := J.landed nb fl3.1 (up.trans up3) os ag
    have S3 := J3.suite he3 hd3 na aL aF
    refine wpAny_handleBy_cons (codeAny_handlers_test ?_) (by intro q; cases q)
    have cl3 : PySem.W.Looks (model X.prog X.w) h3 (typeOf (.ref a)) cls := fun A Q E s k q => wpAny_typeOf_ref (k _ _ he3) (by rw [hz3.1]; exact q)
    have match_ := PySem.W.exm_one (M := model X.prog X.w) J3.kIn cl3 hb1
    have names : ∀ {Q : Value → Shared → Prop} {E : Value → Shared → Prop}, Q c { s' with heap := h3 } → wpAny (model X.prog X.w) (X.A.mark (some (.ref a))) (eval (.Name x np) X.env) Q E { s' with heap := h3 } := fun {Q E} q => by
      obtain ⟨hg, hdb, hm | ⟨hm, hv, hnn⟩⟩ := hc
      · exact ld_glob (X := X.suite a ((a, oe3) :: (X.pn ++ pins))) S3 hg hm q hdb
      · exact ld_blt (X := X.suite a ((a, oe3) :: (X.pn ++ pins))) S3 hg hm hv q hnn hdb
    refine names (match_.here ?_)
    cases b with
    | false =>
      show wpAny _ X.A (handleBy (.ref a) X.env []) _ _ _
      refine wpAny_handleBy_nil ?_
      obtain ⟨_, _, _, oe, vs, T, _, _, he, _, hd, h1, _⟩ := id fl3
      unfold PySem.passOn
      refine wpAny_bind (wpAny_field he hd h1 ?_)
      rw [if_neg (show ¬ ((Value.ref T == Value.none) = true) from by simp)]
      have out : wpAny (model X.prog X.w) X.A (setFlight (.ref a) X.env.frame) (fun _ s4 => wpAny (model X.prog X.w) X.A (throw (.ref a) : Sem Flow) (SP X pins D) X.xe s4) X.xe { s' with heap := h3 } := by
        rw [hf]
        refine HandSPX.setFlight_upZ fl3 fun h4 hh4 up4 => wpAny_throw (tk _ _ ?_)
        exact ⟨a, B, sI, pins, σ', H', cls, d, rfl, J, nb, (up.trans up3).trans up4, .inr (.inr (by rw [hs]; exact hh4)), na, os, ag, hno rfl⟩
      first
        | exact wpAny_bind (wpAny_pure (wpAny_bind out))
        | exact wpAny_bind out
    | true =>
      refine codeAny_handlers_suite_as ?_
      refine HandSPX.lands_againZ fl3 fun h4 fl4 up4 => ?_
      obtain ⟨oe4, vs4, he4, hz4, hd4⟩ := fl4.there
      have J4 : Inv X pins σ' H' { s' with heap := h4 } := J.landed nb fl4.1 ((up.trans up3).trans up4) os ag
      have S4 := J4.suite he4 hd4 na aL aF
      refine store_ok (X := X.suite a ((a, oe4) :: (X.pn ++ pins))) (v := .ref a) S4 hN hi (.inl hln) rfl (fun s5 S5 => ?_) (.inr hln)
      refine wpAny_mono ((hsu a oe4 cls d (X.pn ++ pins) hz4 ⟨_, hd4⟩).run [] s5 _ H' _ S5 (hyes rfl a na)) (fun f s6 hsp => ?_) (fun _ _ z => False.elim z)
      -- behind the suite: the name goes, the error is kept
      have last : ∀ {σ6 : L2.St} {H6 : Hp} {Q : Shared → Prop}, Inv (X.suite a ((a, oe4) :: (X.pn ++ pins))) [] σ6 H6 s6 → (∀ s7, Inv X pins (σ6.set i none) (upd H6 a (Kept a cls d)) s7 → Q s7) →
          wpAny (model X.prog X.w) X.A (do bindName X.env n .none; unbindBehindTheSuite X.env n p1) (fun _ s7 => Q s7) X.xe s6 := fun {σ6 H6 Q} S6 hq => by
        have W6 : Inv X ((a, oe4) :: pins) σ6 H6 s6 := ⟨ok, S6.os, S6.bare, S6.base, S6.loc, S6.cell, S6.free, S6.freeC, fun p hp => S6.pin p (by
          rw [List.append_nil]
          rcases List.mem_append.mp hp with q | q
          · exact List.mem_cons_of_mem _ (List.mem_append_left _ q)
          · rcases List.mem_cons.mp q with q | q
            · rw [q]
              exact List.mem_cons_self
            · exact List.mem_cons_of_mem _ (List.mem_append_right _ q)), S6.hok, S6.len⟩
        exact gone_ok W6 hN hi hln fun s7 J7 => hq s7 (adopt J7 hz4 hd4 a0 aP)
      cases f with
      | next =>
        obtain ⟨σ6, H6, S6, q6⟩ := hsp
        exact last S6 fun s7 J7 => ⟨_, _, J7, q6⟩
      | brk =>
        obtain ⟨σ6, H6, S6, q6⟩ := hsp
        exact last S6 fun s7 J7 => ⟨_, _, J7, q6⟩
      | cont =>
        obtain ⟨σ6, H6, S6, q6⟩ := hsp
        exact last S6 fun s7 J7 => ⟨_, _, J7, q6⟩
      | ret u =>
        obtain ⟨v6, σ6, H6, S6, r6, q6⟩ := hsp
        exact last S6 fun s7 J7 => ⟨_, _, _, J7, r6, q6⟩
  refine wpAny_Try_except (wpAny_mono ((hb _ _ _ (fun u s' xx => caught u s' xx) PassesOwn.looking).run [] s σ H D (I.toTry _) h) (fun f s1 hsp => ?_) (fun e s1 he => he))
  cases f with
  | next =>
    obtain ⟨σ', H', J', q⟩ := hsp
    exact wpAny_execs_nil ⟨σ', H', J'.ofTry ok, q⟩
  | brk =>
    obtain ⟨σ', H', J', q⟩ := hsp
    exact ⟨σ', H', J'.ofTry ok, q⟩
  | cont =>
    obtain ⟨σ', H', J', q⟩ := hsp
    exact ⟨σ', H', J'.ofTry ok, q⟩
  | ret u =>
    obtain ⟨v, σ', H', J', r, q⟩ := hsp
    exact ⟨v, σ', H', J'.ofTry ok, r, q⟩
end
/-- isinstance(e, c) of a kept error -/
def rIsKept (K : PySem.W.Frag) : List V → Hp → VK → Prop := fun xs H Q => ∃ (a D : Addr) (d : Addr) (fs : List (Str × V)) (c : V) (u : Value) (b : Bool), xs = [.ref a, c] ∧ ClsV c u ∧ H a = some (Kept a (.ref D) (some d)) ∧ H d = some (.xd fs) ∧ ExcC K D ∧ PySem.W.kitOne K (.ref D) u = some b ∧ Q (.bl b) H
section
variable {X : Cx} {e : Expr} {te : TE} {pos : Pos} {n : Str} {C : Addr}
theorem inst_kept {pins : List (Addr × Obj)} {σ : L2.St} {H : Hp} {s : Shared} {a D d : Addr} {fs : List (Str × V)} (I : Inv X pins σ H s) (ha : H a = some (Kept a (.ref D) (some d))) (hd : H d = some (.xd fs)) :
    ∃ o od, PySem.W.InstAt s.heap a o D (some od) ∧ s.heap.get? d = some od ∧ ∃ mA, s.heap.Ns1 d mA ∧ (∀ f, RelO (fs.lookup f) (mA f)) := by
  have x : ObjOk X.prog X.w H s.heap a (.ext fun h => ∃ o vs, h.get? a = some o ∧ o.cls = .ref D ∧ o.dict = some d ∧ o.data = .fields vs) := I.hok a _ ha
  obtain ⟨⟨o, vs, e1, e2, e3, e4⟩, _, _⟩ := x
  obtain ⟨mA, hns, hr⟩ := (show ObjOk X.prog X.w H s.heap d (.xd fs) from I.hok d _ hd)
  obtain ⟨od, ho, _⟩ := lookIn_ns hns
  exact ⟨o, od, ⟨e1, e2, by unfold PySem.W.notCls; rw [e4] <;> rfl, by rw [e3]; exact ho⟩, ho, mA, hns, hr⟩
theorem call_isKept : CallR X (.builtin "isinstance") (rIsKept X.K) := by
  intro pins s σ H xs us Q I r h
  obtain ⟨a, D, d, fs, c, u, b, rfl, hc, ha, hd, E, k, q⟩ := h
  obtain ⟨u1, u2, rfl, r1, r2⟩ := vals2 r
  have e2 := hc.eq r2
  subst e2
  obtain rfl : u1 = Value.ref a := r1
  obtain ⟨o, od, J, _⟩ := inst_kept I ha hd
  have hcl : (PySem.W.clsIn X.K D).isSome = true := by
    have z := E.hd
    unfold PySem.W.hasDictIn at z
    cases q : PySem.W.clsIn X.K D with
    | some cd => rfl
    | none => rw [q] at z; cases z
  exact PySem.W.kia_one (PySem.W.kitx_exc hcl E.hg E.hk E.hs E.ha E.hn E.ht E.hm) I.kIn J k (fun z => nomatch z) fun tk => ⟨.bl b, H, I.tok tk, rfl, q⟩
/-- e.n of a kept error -/
def tKept (K : PySem.W.Frag) (n : Str) (te : TE) : TE := fun σ H Q => te σ H fun x H1 => ∃ (a D d : Addr) (fs : List (Str × V)) (v : V), x = .ref a ∧ H1 a = some (Kept a (.ref D) (some d)) ∧ H1 d = some (.xd fs) ∧ XfC K D ∧ PySem.W.findIn K (.ref D) n = some none ∧ fs.lookup n = some v ∧ Q v H1
theorem pe_kept (he : PE X e te) (hb : attributeBase e n X.env (eval e X.env) = eval e X.env := by rfl) : PE X (.Attribute e n pos) (tKept X.K n te) := by
  refine ⟨fun pins s σ H Q I h => attr_of hb (thn (he.run pins s σ H _ I h) fun u s1 ⟨x, H1, I1, rx, a, D, d, fs, v, ex, ha, hd, T, hno, l, q⟩ => ?_)⟩
  subst ex
  obtain rfl : u = Value.ref a := rx
  obtain ⟨o, od, J, ho, mA, hns, hr⟩ := inst_kept I1 ha hd
  obtain ⟨od', ho', hl⟩ := lookIn_ns hns
  rw [ho] at ho'
  cases ho'
  obtain ⟨y, hy, ry⟩ := RelO.some_of (v := v) (o := mA n) (by rw [← l]; exact hr n)
  exact HandSPX.exc_get I1.kIn J T.ga T.gg T.exC (PySem.W.findObj_own T.hdC hno rfl (by rw [hl, hy])) (handed_of ry) ⟨v, H1, I1.tok _, ry, q⟩
end
end NX

set_option Elab.async false
set_option linter.all false
set_option maxRecDepth 100000
set_option maxHeartbeats 4000000
/-! Rules of my own: the text that repr tells of made data, dicts in it too. -/
namespace NX
open PySem PySem.Spec PyProof.Rows L2
def keyD : Key → PyData
  | .inl i => .int i
  | .inr x => .str x
mutual
inductive Dr (K : PySem.W.Frag) (H : Hp) : V → PyData → Prop
  | non : Dr K H .non .none
  | bl (b : Bool) : Dr K H (.bl b) (.bool b)
  | int (i : Int) : Dr K H (.int i) (.int i)
  | str (x : Str) : Dr K H (.str x) (.str x)
  | lst {a : Addr} {xs : List V} {ds : List PyData} : SqL K H a xs → DrAll K H xs ds → Dr K H (.ref a) (.list ds)
  | tup {a : Addr} {xs : List V} {ds : List PyData} : SqT K H a xs → DrAll K H xs ds → Dr K H (.ref a) (.tuple ds)
  | dct {a : Addr} {kvs : List (Key × V)} {ds : List PyData} : H a = some (.dK kvs) → DrAll K H (kvs.map (·.2)) ds → Dr K H (.ref a) (.dict ((kvs.map fun p => keyD p.1).zip ds))
inductive DrAll (K : PySem.W.Frag) (H : Hp) : List V → List PyData → Prop
  | nil : DrAll K H [] []
  | cons {v : V} {vs : List V} {d : PyData} {ds : List PyData} : Dr K H v d → DrAll K H vs ds → DrAll K H (v :: vs) (d :: ds)
end
theorem DrAll.length {K : PySem.W.Frag} {H : Hp} : ∀ {vs : List V} {ds : List PyData}, DrAll K H vs ds → vs.length = ds.length
  | _, _, .nil => rfl
  | _, _, .cons _ t => congrArg (· + 1) t.length
/-- a dict stands at the place of the loaded modules -/
def SysB (h : Heap) : Prop := ∃ (o : Obj) (es : Array DictEntry) (ep : Nat), h.get? sysModules = some o ∧ o.data = .dict es ep
section
variable {X : Cx} {pins : List (Addr × Obj)} {σ : L2.St} {H : Hp} {s : Shared}
theorem key_reads {h : Heap} : ∀ {k : Key} {v : Value}, keyIs k v = true → Reads h v (keyD k) [] := fun {k v} e => by
  rcases keyIs_shape e with ⟨i, t, rfl, rfl⟩ | ⟨x, t, rfl, rfl⟩
  · exact Reads.int i t
  · exact Reads.str x t
theorem keys_read {h : Heap} {P : Program} {w : World} : ∀ {es : List DictEntry} {vs : List (Key × Value)}, Pairs (mixKind P w) es vs → ∃ as, ReadsAll h (es.map (·.key)) (vs.map fun p => keyD p.1) as ∧ as = [] ∧ es.map (·.val) = vs.map (·.2)
  | _, _, .nil => ⟨_, ReadsAll.nil, rfl, rfl⟩
  | _, _, .cons h1 h2 t => by
    obtain ⟨as, q, rfl, e⟩ := keys_read t
    exact ⟨_, ReadsAll.cons (key_reads h1) q, rfl, by rw [List.map_cons, List.map_cons, e, h2]⟩
theorem kv_vals : ∀ {ks : List (Key × V)} {vs : List (Key × Value)}, KV ks vs → Vals (ks.map (·.2)) (vs.map (·.2)) ∧ vs.map (fun p => keyD p.1) = ks.map (fun p => keyD p.1)
  | _, _, .nil => ⟨.nil, rfl⟩
  | _, _, .cons h t => by
    obtain ⟨q, e⟩ := kv_vals t
    exact ⟨.cons h.2 q, by rw [List.map_cons, List.map_cons, e, h.1]⟩
theorem zip_fst {α β : Type} : ∀ {l : List α} {m : List β}, l.length = m.length → (l.zip m).map (·.1) = l
  | [], [], _ => rfl
  | a :: l, b :: m, h => by rw [List.zip_cons_cons, List.map_cons, zip_fst (Nat.succ.inj h)]
theorem zip_snd {α β : Type} : ∀ {l : List α} {m : List β}, l.length = m.length → (l.zip m).map (·.2) = m
  | [], [], _ => rfl
  | a :: l, b :: m, h => by rw [List.zip_cons_cons, List.map_cons, zip_snd (Nat.succ.inj h)]
mutual
theorem Dr.reads (I : Inv X pins σ H s) (S : SysB X.base) : ∀ {v : V} {d : PyData}, Dr X.K H v d → ∀ (u : Value), RelV v u → ∃ as, Reads s.heap u d as ∧ sysModules ∉ as
  | _, _, .non, _, r => by
    cases r
    exact ⟨_, Reads.none, by simp⟩
  | _, _, .bl b, _, r => by
    cases r
    exact ⟨_, Reads.bool b, by simp⟩
  | _, _, .int i, _, r => by
    obtain ⟨t, rfl⟩ := r
    exact ⟨_, Reads.int i t, by simp⟩
  | _, _, .str x, _, r => by
    obtain ⟨t, rfl⟩ := r
    exact ⟨_, Reads.str x t, by simp⟩
  | _, _, .lst hs ha, _, r => by
    cases r
    obtain ⟨its, rv, ⟨o, n, ho, hc, _, hd⟩, _⟩ := I.list hs
    obtain ⟨as, hr, hn⟩ := DrAll.reads I S ha its rv
    refine ⟨_, Reads.list ho hc hd hr, fun hm => ?_⟩
    rcases List.mem_cons.mp hm with e | e
    · obtain ⟨o2, es2, ep2, k2, c2⟩ := S
      have q := (I.bs _ _ k2).1
      rw [e, ho] at q
      have q2 := Option.some.inj q
      rw [← q2, hd] at c2
      cases c2
    · exact hn e
  | _, _, .tup hs ha, _, r => by
    cases r
    obtain ⟨its, rv, ⟨o, ho, hc, n, hd⟩, _⟩ := I.tuple hs
    obtain ⟨as, hr, hn⟩ := DrAll.reads I S ha its rv
    exact ⟨_, Reads.tuple ho hc hd hr, hn⟩
  | _, _, @Dr.dct _ _ a kvs ds hs ha, _, r => by
    cases r
    obtain ⟨_, lo, vs, kv, o, es, ep, ho, hex, hd, _, hp, _⟩ := (show ObjOk X.prog X.w H s.heap a (.dK kvs) from I.hok a _ hs)
    obtain ⟨rv, ek⟩ := kv_vals kv
    obtain ⟨as, hr, hn⟩ := DrAll.reads I S ha _ rv
    obtain ⟨bs, hk, rfl, ev⟩ := keys_read (h := s.heap) hp
    have el : (kvs.map fun p => keyD p.1).length = ds.length := by
      rw [List.length_map, ← ha.length, List.length_map]
    refine ⟨_, Reads.dict ho hex.1 hd (as := []) (bs := as) (by rw [zip_fst el, ← ek]; exact hk) (by rw [zip_snd el, ev]; exact hr), fun hm => ?_⟩
    rcases List.mem_append.mp hm with e | e
    · rcases List.mem_cons.mp e with e | e
      · rw [← e] at lo
        simp at lo
      · simp at e
    · exact hn e
theorem DrAll.reads (I : Inv X pins σ H s) (S : SysB X.base) : ∀ {vs : List V} {ds : List PyData}, DrAll X.K H vs ds → ∀ (us : List Value), Vals vs us → ∃ as, ReadsAll s.heap us ds as ∧ sysModules ∉ as
  | _, _, .nil, _, r => by
    cases r
    exact ⟨_, ReadsAll.nil, by simp⟩
  | _, _, .cons h1 h2, _, r => by
    cases r with
    | cons r1 r2 =>
      obtain ⟨as, q1, n1⟩ := Dr.reads I S h1 _ r1
      obtain ⟨bs, q2, n2⟩ := DrAll.reads I S h2 _ r2
      exact ⟨_, ReadsAll.cons q1 q2, fun hm => (List.mem_append.mp hm).elim n1 n2⟩
end
/-- repr(x), x a list, a tuple or a dict -/
def rRepr (K : PySem.W.Frag) : List V → Hp → VK → Prop := fun xs H Q => ∃ (a : Addr) (d : PyData), xs = [.ref a] ∧ Dr K H (.ref a) d ∧ d.showable = true ∧ d.depth ≤ 50 ∧ d.shown.length ≤ sizeLine ∧ Q (.str d.shown) H
theorem call_repr (hg : X.A.guards = some []) (hu : X.A.units + 64 < cLine) (S : SysB X.base) : CallR X (.builtin "repr") (rRepr X.K) := by
  intro pins s σ H xs us Q I r h
  obtain ⟨a, d, rfl, hd, hs, hdp, hl, q⟩ := h
  cases r with
  | cons r1 r2 =>
    cases r2
    cases r1
    obtain ⟨as, hr, hn⟩ := Dr.reads I S hd _ rfl
    refine PySem.repr_of_reads' hr hs (fun _ => hn) hg (by omega) (fun _ _ e => e) (fun h' u tk k => ?_) hl
    exact ⟨.str d.shown, H, I.kept k, ⟨u, rfl⟩, q⟩
end
end NX

set_option Elab.async false
set_option linter.all false
set_option maxRecDepth 100000
set_option maxHeartbeats 4000000
/-! A def's promise where no repr is under way, and the call of such a def. -/
namespace NX
open PySem PySem.Spec PyProof.Rows L2
structure FnG (P : Program) (w : World) (K : PySem.W.Frag) (mg : Str → Option Value) (base : Heap) (k : Nat) (f : Addr) (fd : FuncData) (ps : List Str) (sp : Sp) : Prop where
  len : ∀ vs H Q E, sp vs H Q E → vs.length = ps.length
  run : ∀ (A : Around) (st : List Env) (s : Shared) (H : Hp) (args : Args) (us : List Value) (vs : List V) (Q : VK), A.guards = some [] → Room k A → Env0 P w K mg base A st s H → BindsTo s fd args (ps.zip us) → Vals vs us → sp vs H Q C8.E0 →
    codeAny (model P w) A (.call (.ref f) args) (CR C8.CX0 st P w H s Q C8.E0) s
section
variable {X : Cx} {k j : Nat} {f : Addr} {fd : FuncData} {ps : List Str} {sp : Sp} {x : Str} {p pos : Pos} {e : Expr} {es : List Expr} {t : TA}
theorem pe_callG (F : FnG X.prog X.w X.K X.mg X.base k f fd ps sp) (gd : X.A.guards = some []) (hr : Room j X.A) (hj : k ≤ j) (hg : Gl X x) (hm : X.mg x = some (.ref f)) (hk : PySem.W.keepIn X.K (.ref f) = true) (hb : Binds X.K fd ps []) (ha : PA X (e :: es) t)
    (hd : (x == ("__debug__" : Str)) = false := by decide) (he : starEach (e :: es) X.env = (false, eval e X.env) :: starEach es X.env := by rfl) (hpl : (backTo pos (starEach es X.env)).any (·.1) = false := by rfl) :
    PE X (.Call (.Name x p) (e :: es) [] pos) (tCall sp [] C8.E0 t) := by
  refine ⟨fun pins s σ H Q I h => wpAny_Call_Name_kw (ld_glob I hg hm ?_ hd)⟩
  refine PySem.W.callWith_K (h₀ := X.base) I.ok.mod.kin hk (thn (ha.run pos pins s σ H _ I h) fun us s1 ⟨vs, H1, I1, rv, q⟩ => ⟨I1.kIn, ?_⟩) he hpl
  have q : sp vs H1 Q C8.E0 := by simpa using q
  have hl : us.length = ps.length := by rw [← F.len _ _ _ _ q, rv.length]
  have bt := hb s1 us I1.kIn (by simpa using hl)
  refine wpAny_call (codeAny_mono (F.run X.A X.stack s1 H1 ⟨us, []⟩ us vs Q gd (hr.mono hj) I1.env0 (by simpa using bt) rv q) fun r s' hq => ?_)
  cases r with
  | error er => exact False.elim (show False from hq)
  | ok fl =>
    cases fl with
    | ret w => exact I1.after hq
    | next => exact False.elim hq
    | brk => exact False.elim hq
    | cont => exact False.elim hq
end
end NX

set_option Elab.async false
set_option linter.all false
set_option maxRecDepth 100000
set_option maxHeartbeats 4000000
/-! The end of a row whose law wants an empty guard (FnG), in my own words. -/
namespace NX
open PySem PySem.Spec PyProof.Rows L2 LamX
section
variable {P : Program} {w : World} {K : PySem.W.Frag} {mg mb : Str → Option Value} {k : Nat} {fa a : Addr} {cs : List (Addr × Addr)} {fd : FuncData} {x : Str} {sp : Sp} {z : Shared} {vs : List Value} {ns : List Int}
/-- what is tracked at first: the empty tables, and the script where it is not written -/
def trackd (K : PySem.W.Frag) (cs : List (Addr × Addr)) (a : Addr) (vs : List Value) (ns : List Int) : Hp := fun b =>
  if b ∈ cs.map (·.2) then some (.tbl #[]) else if b = a ∧ K.lookup a = none then some (.frz { cls := .type "list", data := .seq vs.toArray } (.lst (ns.map V.int))) else none
/-- the heap of the call, as the tracked one sees it -/
structure Start (P : Program) (w : World) (K : PySem.W.Frag) (cs : List (Addr × Addr)) (a : Addr) (vs : List Value) (ns : List Int) (z : Shared) : Prop where
  KX : K.In z.heap
  hT : ∀ p ∈ cs, z.heap.get? p.2 = some { cls := .none, data := .fields #[] }
  nT : ∀ p ∈ cs, K.lookup p.2 = none
  ha : z.heap.get? a = some { cls := .type "list", data := .seq vs.toArray }
  hi : IntsAre vs ns
  hl : ns.length ≤ sizeLine
theorem Start.tab (S : Start P w K cs a vs ns z) {b : Addr} (h : b ∈ cs.map (·.2)) : z.heap.get? b = some { cls := .none, data := .fields #[] } ∧ K.lookup b = none := by
  obtain ⟨p, hp, rfl⟩ := List.mem_map.mp h
  exact ⟨S.hT p hp, S.nT p hp⟩
theorem Start.ne (S : Start P w K cs a vs ns z) : a ∉ cs.map (·.2) := fun h => by
  have q := (S.tab h).1
  rw [S.ha] at q
  injection q with q
  injection q with q1 q2 q3
  cases q3
theorem Start.at_tab (S : Start P w K cs a vs ns z) : ∀ p ∈ cs, trackd K cs a vs ns p.2 = some (.tbl #[]) := fun p hp => if_pos (List.mem_map.mpr ⟨p, hp, rfl⟩)
theorem Start.sq (S : Start P w K cs a vs ns z) : SqL K (trackd K cs a vs ns) a (ns.map V.int) := by
  cases hk : K.lookup a with
  | none => exact .inl (.inr ⟨_, (if_neg S.ne).trans (if_pos ⟨rfl, hk⟩)⟩)
  | some o =>
    have e := S.KX a o hk
    rw [S.ha] at e
    cases e
    exact .inr ⟨_, vs.toArray, _, hk, rfl, rfl, rfl, by rw [List.size_toArray, S.hi.length]; exact S.hl, by simpa using vals_ints S.hi⟩
/-- a tracked place is a table, or the script -/
theorem Start.cases (S : Start P w K cs a vs ns z) {b : Addr} {u : HO} (h : trackd K cs a vs ns b = some u) : (b ∈ cs.map (·.2) ∧ u = .tbl #[]) ∨ (b = a ∧ K.lookup a = none ∧ u = .frz { cls := .type "list", data := .seq vs.toArray } (.lst (ns.map V.int))) := by
  unfold trackd at h
  split at h
  · rename_i hb
    exact .inl ⟨hb, (Option.some.inj h).symm⟩
  · split at h
    · rename_i hb
      exact .inr ⟨hb.1, hb.2, (Option.some.inj h).symm⟩
    · cases h
theorem Start.ok (S : Start P w K cs a vs ns z) : HOk P w (trackd K cs a vs ns) z.heap := fun b u h => by
  rcases S.cases h with ⟨hb, rfl⟩ | ⟨rfl, _, rfl⟩
  · exact (S.tab hb).1
  · exact ⟨S.ha, by rw [List.length_map]; exact S.hl, vs, _, vals_ints S.hi, S.ha⟩
/-- what is neither a list nor an empty row of fields is not tracked -/
theorem Start.off (S : Start P w K cs a vs ns z) {b : Addr} {o : Obj} (e : z.heap.get? b = some o) (h1 : ∀ us n, o.data ≠ .seq us n) (h2 : o.data ≠ .fields #[]) : trackd K cs a vs ns b = none := by
  cases q : trackd K cs a vs ns b with
  | none => rfl
  | some u =>
    rcases S.cases q with ⟨hb, _⟩ | ⟨rfl, _, _⟩
    · rw [(S.tab hb).1] at e
      cases e
      exact (h2 rfl).elim
    · rw [S.ha] at e
      cases e
      exact (h1 _ _ rfl).elim
theorem Start.kin (S : Start P w K cs a vs ns z) : K.In (hidT z.heap (trackd K cs a vs ns)) := fun b o e => hidT_get (S.KX b o e) (by
  cases q : trackd K cs a vs ns b with
  | none => rfl
  | some u =>
    rcases S.cases q with ⟨hb, _⟩ | ⟨rfl, hk, _⟩
    · rw [(S.tab hb).2] at e
      cases e
    · rw [hk] at e
      cases e)
theorem Start.ns_ (S : Start P w K cs a vs ns z) {b : Addr} {m : Str → Option Value} (h : z.heap.Ns b m) : (hidT z.heap (trackd K cs a vs ns)).Ns b m := by
  obtain ⟨o, es, ep, e, d, r⟩ := h
  exact ⟨o, es, ep, hidT_get e (S.off e (fun us n q => by rw [d] at q; cases q) (fun q => by rw [d] at q; cases q)), d, r⟩
theorem Start.mod (S : Start P w K cs a vs ns z) (hg : z.heap.Ns mainGlobals mg) (hb : z.heap.Ns builtinsNs mb) (hbb : ∀ y : Str, y ≠ "__name__" → mb y = bootBuiltins y) (lim : z.heap.NoLimit) : L2.Mod K mg (hidT z.heap (trackd K cs a vs ns)) :=
  ⟨S.kin, S.ns_ hg, ⟨mb, S.ns_ hb, hbb⟩, by obtain ⟨mc, h1, h2⟩ := lim; exact ⟨mc, S.ns_ h1, h2⟩⟩
theorem Start.tabB (S : Start P w K cs a vs ns z) (hg : z.heap.Ns mainGlobals mg) (C : ∀ p ∈ cs, PySem.W.CodeHd z.heap p.1 p.2)
    (hm : ∃ (bm : Addr) (ob : Obj), mg "__builtins__" = some (.ref bm) ∧ bm ≠ builtinsNs ∧ z.heap.get? bm = some ob ∧ ob.cls = .type "module" ∧ ob.dict = some builtinsNs ∧ ob.data = .plain) : ∀ p ∈ cs, TabB (hidT z.heap (trackd K cs a vs ns)) mg p.1 p.2 := fun p hp => by
  have tp := S.hT p hp
  have gne : ∀ {b : Addr} {o : Obj}, z.heap.get? b = some o → (∀ es ep, o.data ≠ .dict es ep) → b ≠ mainGlobals := fun {b o} e d q => by
    obtain ⟨og, es, ep, eg, dg, _⟩ := hg
    rw [q, eg] at e
    cases e
    exact d es ep dg
  refine ⟨?_, ?_, fun q => gne tp (by intro es ep h; cases h) q.symm⟩
  · obtain ⟨o, us, file, tf, flags, tg, inF, text, tt, e1, r⟩ := C p hp
    refine ⟨o, us, file, tf, flags, tg, inF, text, tt, hidT_get e1 (S.off e1 (fun vs n q => ?_) fun q => ?_), r⟩
    · rw [r.2.1] at q
      cases q
    · rw [r.2.1] at q
      cases q
      have q2 := r.2.2.1
      simp at q2
  · obtain ⟨bm, ob, b1, b2, b3, b4, b5, b6⟩ := hm
    refine ⟨bm, ob, b1, b2, gne b3 (by intro es ep h; rw [b6] at h; cases h), fun q => ?_, hidT_get b3 (S.off b3 (fun vs n q => by rw [b6] at q; cases q) (fun q => by rw [b6] at q; cases q)), b4, b5, b6⟩
    rw [q, tp] at b3
    cases b3
    cases b6
theorem Start.env (S : Start P w K cs a vs ns z) (hg : z.heap.Ns mainGlobals mg) (hb : z.heap.Ns builtinsNs mb) (hbb : ∀ y : Str, y ≠ "__name__" → mb y = bootBuiltins y) (lim : z.heap.NoLimit) (gs : z.gens = #[]) : Env0 P w K mg (hidT z.heap (trackd K cs a vs ns)) callerA [] z (trackd K cs a vs ns) :=
  ⟨rfl, S.mod hg hb hbb lim, fun b o e => of_hidT e, Nat.le_of_eq (hidT_size _ _), trivial, fun b q => absurd (show b ∈ ([] : List Addr) from q) (by simp), S.ok, .of_eq gs⟩
theorem Start.sys (S : Start P w K cs a vs ns z) (h : SysB z.heap) : SysB (hidT z.heap (trackd K cs a vs ns)) := by
  obtain ⟨o, es, ep, e, d⟩ := h
  exact ⟨o, es, ep, hidT_get e (S.off e (fun us n q => by rw [d] at q; cases q) (fun q => by rw [d] at q; cases q)), d⟩
/-- the call of the law: it tells True, and what stood stands -/
theorem endG (S : Start P w K cs a vs ns z) (hg : z.heap.Ns mainGlobals mg) (hb : z.heap.Ns builtinsNs mb) (hbb : ∀ y : Str, y ≠ "__name__" → mb y = bootBuiltins y) (lim : z.heap.NoLimit) (gs : z.gens = #[]) (C : ∀ p ∈ cs, PySem.W.CodeHd z.heap p.1 p.2)
    (hm : ∃ (bm : Addr) (ob : Obj), mg "__builtins__" = some (.ref bm) ∧ bm ≠ builtinsNs ∧ z.heap.get? bm = some ob ∧ ob.cls = .type "module" ∧ ob.dict = some builtinsNs ∧ ob.data = .plain) (hr : Room k callerA) (hs : SysB z.heap)
    (F : ∀ base : Heap, K.In base → base.Ns mainGlobals mg → (∀ p ∈ cs, TabB base mg p.1 p.2) → SysB base → FnG P w K mg base k fa fd [x] sp) (bind : ∀ (t : Shared) (u : Value), BindsTo t fd ⟨[u], []⟩ [(x, u)])
    (ask : ∀ H : Hp, (∀ p ∈ cs, H p.2 = some (.tbl #[])) → SqL K H a (ns.map V.int) → sp [.ref a] H (fun v _ => v = .bl true) C8.E0) :
    codeAny (model P w) callerA (.call (.ref fa) ⟨[.ref a], []⟩) (fun r t => r = .ok (.ret (.bool true)) ∧ OldK z.heap t.heap ∧ t.os = z.os ∧ AllBare t.gens) z := by
  refine codeAny_mono ((F _ S.kin (S.ns_ hg) (S.tabB hg C hm) (S.sys hs)).run callerA [] z _ ⟨[.ref a], []⟩ [.ref a] [.ref a] _ rfl hr (S.env hg hb hbb lim gs) (bind z (.ref a)) (.cons rfl .nil) (ask _ S.at_tab S.sq)) fun r t h => ?_
  cases r with
  | error e => exact False.elim (show False from h)
  | ok fl =>
    cases fl with
    | next => exact False.elim h
    | brk => exact False.elim h
    | cont => exact False.elim h
    | ret u =>
      obtain ⟨v, H', os, bare, un, ok', ru, q⟩ := h
      have q : v = .bl true := q
      subst q
      obtain rfl : u = Value.bool true := ru
      have kept : ∀ b o, b ∉ cs.map (·.2) → z.heap.get? b = some o → t.heap.get? b = some o := fun b o nb e => by
        cases y : trackd K cs a vs ns b with
        | none => exact un.keep b o e y (by intro n; exact absurd (show b ∈ ([] : List Addr) from n) (by simp)) (by simp)
        | some u =>
          rcases S.cases y with ⟨hb, _⟩ | ⟨rfl, _, rfl⟩
          · exact absurd hb nb
          · obtain ⟨e2, _⟩ := ok' _ _ (un.frzs _ _ _ y)
            rw [S.ha] at e
            cases e
            exact e2
      have grow : ∀ p ∈ cs, ∃ more : Array Value, t.heap.get? p.2 = some { cls := .none, data := .fields more } := fun p hp => by
        obtain ⟨more, y⟩ := un.tbls p.2 #[] (S.at_tab p hp)
        exact ⟨_, ok' p.2 _ y⟩
      refine ⟨rfl, ⟨fun b o e => ?_, fun b o e => ?_⟩, os, bare⟩
      · by_cases hb : b ∈ cs.map (·.2)
        · obtain ⟨p, hp, rfl⟩ := List.mem_map.mp hb
          obtain ⟨more, hmo⟩ := grow p hp
          rw [S.hT p hp] at e
          cases e
          exact .inr (.inl ⟨((C p hp).tab (S.hT p hp)).isCodeTable, rfl, #[], more, rfl, by rw [Array.empty_append]; exact hmo⟩)
        · exact .inl (kept b o hb e)
      · by_cases hb : b ∈ cs.map (·.2)
        · obtain ⟨p, hp, rfl⟩ := List.mem_map.mp hb
          obtain ⟨more, hmo⟩ := grow p hp
          exact ⟨_, hmo⟩
        · exact ⟨o, kept b o hb e⟩
end
/-- what the head has to tell of the law at fa -/
structure LawG (l : PySem.W.OpenLaw) (w : World) (K : PySem.W.Frag) (k n : Nat) (x : Str) (mg : Str → Option Value) (fa : Addr) (h : Heap) (fd : FuncData) (cs : List (Addr × Addr)) (sp : Sp) : Prop where
  hT : ∀ p ∈ cs, h.get? p.2 = some { cls := .none, data := .fields #[] }
  nT : ∀ p ∈ cs, K.lookup p.2 = none
  C : ∀ p ∈ cs, PySem.W.CodeHd h p.1 p.2
  bind : ∀ (t : Shared) (u : Value), BindsTo t fd ⟨[u], []⟩ [(x, u)]
  ask : ∀ (H : Hp) (a : Addr) (ns : List Int), ns.length ≤ n → (∀ p ∈ cs, H p.2 = some (.tbl #[])) → SqL K H a (ns.map V.int) → sp [.ref a] H (fun v _ => v = .bl true) C8.E0
  F : ∀ base : Heap, K.In base → base.Ns mainGlobals mg → (∀ p ∈ cs, TabB base mg p.1 p.2) → SysB base → FnG l.prog w K mg base k fa fd [x] sp
theorem walkG {l : PySem.W.OpenLaw} {n k : Nat} {q : Program} {loose : List Str} {XP : (Str → Option Value) → Heap → Prop} {YP : World → Heap → Prop} {d : DefRec} {K : Params → PySem.W.Frag} {x : Str} (hn : l.most = some n) (hn2 : n ≤ sizeLine) (hdf : d.params.defaults = []) (hr : Room k callerA) (hi : importsNone q = true)
    (hY : ∀ (w : World) (h : Heap), YP w h → (K w.params).In h) (G : ∀ (w : World) (mg : Str → Option Value) (fa : Addr) (h : Heap), YP w h → (K w.params).In h → h.Ns mainGlobals mg → mg d.name = some (.ref fa) → ∃ fd cs sp, LawG l w (K w.params) k n x mg fa h fd cs sp) :
    PySem.W.WalkO q loose XP YP l.row.toRowW d [] (fun f vs => PySem.call f vs) := by
  refine Att.attach_callB hn hdf fun w s₀ s₁ mg mb fa o pm cd doc a vs ns T Y ho hd hcd hmg hobj hints hlen hbits hgen => ?_
  have KX := hY w _ Y
  obtain ⟨fd, cs, sp, L⟩ := G w mg fa _ Y KX T.T.g hmg
  exact endG ⟨KX, L.hT, L.nT, hobj, hints, Nat.le_trans hlen hn2⟩ T.T.g T.T.b T.T.builtins T.T.nolimit hgen L.C T.T.bmain hr (by obtain ⟨mm, ⟨o, es, ep, e, d, _⟩, _⟩ := (T.T.seer hi).mods; exact ⟨o, es, ep, e, d⟩) L.F L.bind (fun H h1 h2 => L.ask H a ns hlen h1 h2)
end NX

set_option Elab.async false
set_option linter.all false
set_option maxRecDepth 100000
set_option maxHeartbeats 4000000
/-! A rule of my own: C.m(k=e, ..), m a classmethod, by keywords alone. -/
namespace NX
open PySem PySem.Spec PyProof.Rows L2
section
variable {X : Cx} {CX : CXT} {k : Nat} {C p g : Addr} {mc : Value} {sp : Sp} {E : XK} {o : Expr} {kws : List Keyword} {m : Str} {pos apos : Pos} {ta : TE} {t : TA} {pl : Sem Bool} {fd : FuncData} {ps ks : List Str}
theorem pe_cmethK (he : PE X o ta) (r : ClX.CRead X.K C mc) (c : ClX.CMet X.K C mc m p g) (F : FnOk X.prog X.w X.K X.mg X.base CX k g fd ps sp) (hb : ∀ (s : Shared) (us : List Value), us.length + 1 = ps.length → BindsTo s fd ⟨[.ref C], ks.zip us⟩ (ps.zip (.ref C :: us)))
    (hr : Room k X.A) (hx : Passes CX X E) (ha : PK X kws t) (hall : (backToKw pos (keywordEach kws X.env)).all (·.1.isSome) = true := by rfl) (hks : (backToKw pos (keywordEach kws X.env)).filterMap (·.1) = ks := by rfl)
    (hpl : ((backTo pos (starEach [] X.env)).any (·.1) || (backToKw pos (keywordEach kws X.env)).any (·.1.isNone)) = false := by rfl)
    (ht : eval (.Call (.Attribute o m apos) [] kws pos) X.env = (do
      let ov ← eval o X.env
      standAt apos.atName
      let (f, first) ← holding [ov] (getMethod ov m pl)
      callWith pos f first (backTo pos (starEach [] X.env)) (backToKw pos (keywordEach kws X.env))) := by rfl) :
    PE X (.Call (.Attribute o m apos) [] kws pos) (ClX.tCMeth C sp E ta t) := by
  refine ⟨fun pins s σ H Q I h => PySem.W.methodCall_KW (pl := pl) (thn (he.run pins s σ H _ I h) fun u s1 ⟨x, H1, I1, rx, ex, q⟩ => ?_) ht⟩
  subst ex
  obtain rfl : u = Value.ref C := rx
  refine ClX.getmethcm_ok I1 r c fun s2 I2 => ?_
  refine PySem.W.callWith_of hpl (PySem.W.keeps_M (K := X.K) (self := .ref C) c.fi) (PyProof.Rows.evalArgs_kw2_nil hall (thn (ha.run pos _ s2 σ H1 _ I2 q) fun us s3 ⟨vs, H2, I3, rv, q2⟩ => ⟨⟨ClX.pin_at I3, I3.kIn⟩, ?_⟩))
  rw [hks]
  have r2 : Vals (V.ref C :: vs) (Value.ref C :: us) := .cons rfl rv
  have hl : us.length + 1 = ps.length := by
    have z := F.len _ _ _ _ q2
    rw [← z, r2.length]
    rfl
  have z : wpAny (model X.prog X.w) X.A (call (.ref s1.heap.objs.size) ([] ++ []) (ks.zip us)) (EP X ((s1.heap.objs.size, PySem.W.methodObj (.ref g) (.ref C)) :: pins) σ Q) X.xe s3 := by
    refine wpAny_call (PySem.W.method_call (ClX.pin_at I3) (codeAny_mono (F.run X.A X.stack s3 H2 ⟨[.ref C], ks.zip us⟩ (.ref C :: us) (.ref C :: vs) Q E hr I3.env0 (hb s3 us hl) r2 q2) fun r s' hq => ?_))
    cases r with
    | error er => exact hx _ σ H2 s3 er s' I3 hq
    | ok fl =>
      cases fl with
      | ret w => exact I3.after hq
      | next => exact False.elim hq
      | brk => exact False.elim hq
      | cont => exact False.elim hq
  exact thn z fun _ _ y => ClX.unpinE y
end
end NX

set_option Elab.async false
set_option linter.all false
set_option maxRecDepth 100000
set_option maxHeartbeats 4000000
/-! Rules of my own: == and != of an object whose class has an own equality; any answer, any other side. -/
namespace NX
open PySem PySem.Spec PyProof.Rows L2
/-- what the class at C says of == and != -/
structure EqC (K : PySem.W.Frag) (C f : Addr) : Prop where
  cl : Cls K C
  eq : PySem.W.findIn K (.ref C) "__eq__" = some (some (.ref f))
  ne : PySem.W.findIn K (.ref C) "__ne__" = some (some (.builtin "object.__ne__"))
  fn : PySem.W.isFn K (.ref f) = true
  ob : PySem.W.mroIn K C (.type "object") = some true
section
variable {X : Cx} {n : Nat} {f : Addr} {fd : FuncData} {ps : List Str} {sp : Sp} {CX : CXT} {E : XK}
/-- the own equality is called by the machine -/
theorem run_own (F : FnOk X.prog X.w X.K X.mg X.base CX n f fd ps sp) (hb : Binds X.K fd ps []) (hx : Passes CX X E) {A : Around} {pins : List (Addr × Obj)} {σ : L2.St} {H : Hp} {s : Shared} {x y : V} {u v : Value} {Q : VK}
    (sb : Sub X n A) (I : Inv X pins σ H s) (rx : RelV x u) (ry : RelV y v) (q : sp [x, y] H Q E) : wpAny (model X.prog X.w) A (call (.ref f) [u, v]) (EP X pins σ Q) X.xe s := by
  have e := I.env0
  have e0 : Env0 X.prog X.w X.K X.mg X.base A X.stack s H := ⟨by rw [sb.fr]; exact e.frames, e.mod, e.bs, e.bsz, e.funs, e.frf, e.hok, e.bare⟩
  have hl : [u, v].length = ps.length := (F.len _ _ _ _ q)
  have r2 : Vals [x, y] [u, v] := .cons rx (.cons ry .nil)
  refine wpAny_call (codeAny_mono (F.run A X.stack s H ⟨[u, v], []⟩ [u, v] [x, y] Q E sb.room e0 (by
    have z := hb s [u, v] I.kIn (by simpa using hl)
    simpa using z) r2 q) fun r s' hq => ?_)
  cases r with
  | error er => exact hx pins σ H s er s' I hq
  | ok fl =>
    cases fl with
    | ret w => exact I.after hq
    | next => exact False.elim hq
    | brk => exact False.elim hq
    | cont => exact False.elim hq
def rOwn (K : PySem.W.Frag) (f : Addr) (sp : Sp) (E : XK) (neg : Bool) : R2 := fun x y H Q => ∃ (a C dx : Addr) (fs : List (Str × V)) (tb : Value), x = .ref a ∧ H a = some (.ins C dx fs) ∧ EqC K C f ∧ PySem.W.notFirst K C tb = true ∧ TyX K H y tb ∧
  sp [x, y] H (fun v H' => ∃ b, v = .bl b ∧ Q (.bl (if neg then !b else b)) H') E
theorem op_eqOwn (F : FnOk X.prog X.w X.K X.mg X.base CX n f fd ps sp) (hb : Binds X.K fd ps []) (hx : Passes CX X E) (hr : Room n X.A) : OpR X (compareOp .Eq) (rOwn X.K f sp E false) := by
  intro pins s σ H x y u v Q I rx ry h
  obtain ⟨a, C, dx, fs, tb, rfl, ha, T, nf, ty, q⟩ := h
  obtain rfl : u = Value.ref a := rx
  obtain ⟨mA, O, _⟩ := ins_get I.hok ha
  obtain ⟨od, J, _⟩ := O.look
  obtain ⟨m, fr⟩ := I.fr
  obtain ⟨P, Z, p, _⟩ := kit_of I ry ty
  show wpAny (model X.prog X.w) X.A (richCompare .Eq (.ref a) v) (EP X pins σ Q) X.xe s
  refine PySem.W.cmp_K (op := .Eq) (tb := tb) hr.units0 fr I.ok.mod.kin J (Z.ty _ _ I.kIn p) nf T.eq T.fn ?_
  refine wpAny_mono (run_own (x := .ref a) F hb hx ⟨hr, rfl⟩ I rfl ry q) (fun r s' hq => ?_) fun _ _ z => z
  obtain ⟨w, H', I', rw', b, rfl, q'⟩ := hq
  obtain rfl : r = Value.bool b := rw'
  exact ⟨.bl b, H', I', rfl, q'⟩
end
end NX
namespace NX
open PySem PySem.W PyProof.Rows Builtin
section
variable {prog : Program} {w : World} {A : Around} {E : Value → Shared → Prop} {s : Shared} {K : Frag} {x C f : Addr} {ox : Obj} {od : Option Obj} {b tb : Value}
/-- object.__ne__ found by the class is bound and called -/
theorem bound_ne {M : Model} {args : List Value} {Q : Option Value → Shared → Prop} (X : K.In s.heap) (I : InstAt s.heap x ox C od) (hs : findIn K (.ref C) "__ne__" = some (some (.builtin "object.__ne__")))
    (h : wpAny M A (call (.builtin "object.__ne__") (.ref x :: args)) (fun v => Q (some v)) E s) : wpAny M A (callSpecialIfBound? (.ref x) "__ne__" args) Q E s := by
  simp only [callSpecialIfBound?, bindSpecialIfBound?]
  refine wpAny_holding (wpAny_bind (wpAny_bind (wpAny_bind (I.type.here ((looks_findIn X hs).here ?_)))))
  simp only [F.cmp_object.ne.bind]
  have last : wpAny M A (call (.builtin "object.__ne__") ([.ref x] ++ args) >>= fun v => pure (some v)) Q E s := wpAny_bind (wpAny_mono h (fun v s' q => wpAny_pure q) fun _ _ q => q)
  refine wpAny_bind (wpAny_askSetting (wpAny_ite ?_))
  split
  · exact wpAny_bind (wpAny_pure (wpAny_pure last))
  · exact wpAny_tryCatch (wpAny_bind (wpAny_pure (wpAny_pure last)))
/-- .. and asks the own equality, whose answer it turns -/
theorem call_ne {Q : Value → Shared → Prop} (hu : A.units + 1 < cLine) (X : K.In s.heap) (I : InstAt s.heap x ox C od) (he : findIn K (.ref C) "__eq__" = some (some (.ref f))) (hf : isFn K (.ref f) = true) (ho : mroIn K C (.type "object") = some true)
    (h : wpAny (model prog w) A.in1 (call (.ref f) [.ref x, b]) (fun v s' => ∃ k, v = .bool k ∧ Q (.bool (!k)) s') E s) : wpAny (model prog w) A (call (.builtin "object.__ne__") [.ref x, b]) Q E s := by
  obtain ⟨hp, g, d, t, os⟩ := s
  have sub : Looks (model prog w) hp (isInstance (.ref x) (.type "object")) true := I.type.andThen (looks_mroIn X ho)
  refine wpAny_call (codeAny_call_builtin F.cmp_object.ne.plain F.cmpEntry_ne (@check_slot (model prog w) _ _ ⟨hp, g, d, t, os⟩ "object.__ne__" "object" "__ne__" (.ref x) [b] [] _ F.cmpKind_ne F.cmpSplit_ne sub (F.cmpArgs_ne _ _) ?_))
  unfold Builtin.«object.__ne__»
  repeat (first
    | with_reducible refine wpAny_cRoomFor (show A.in1.units < cLine from hu) ?_
    | (refine wpAny_bind (m := callSpecialIfBound? (.ref x) (Str.ofString "__eq__") [b]) (ifBound_K X I he hf (wpAny_mono h (fun r s' hr => ?_) fun _ _ e => e)))
    | wp_step)
  obtain ⟨k, rfl, q⟩ := hr
  exact wpAny_bind (wpAny_truthy_bool (wpAny_pure q))
/-- x != b -/
theorem rich_ne {Q : Value → Shared → Prop} (hu : A.units + 1 < cLine) (X : K.In s.heap) (I : InstAt s.heap x ox C od) (hb : Looks (model prog w) s.heap (typeOf b) tb) (hn : notFirst K C tb = true) (hs : findIn K (.ref C) "__ne__" = some (some (.builtin "object.__ne__")))
    (he : findIn K (.ref C) "__eq__" = some (some (.ref f))) (hf : isFn K (.ref f) = true) (ho : mroIn K C (.type "object") = some true)
    (h : wpAny (model prog w) A.in1 (call (.ref f) [.ref x, b]) (fun v s' => ∃ k, v = .bool k ∧ Q (.bool (!k)) s') E s) : wpAny (model prog w) A (richCompare .NotEq (.ref x) b) Q E s := by
  have one : wpAny (model prog w) A (tryCompare (.ref x) "__ne__" b) (fun r s' => ∃ k, r = some (.bool k) ∧ Q (.bool k) s') E s := by
    unfold tryCompare
    refine wpAny_bind (bound_ne X I hs (call_ne (Q := fun v s' => ∃ k, v = .bool k ∧ Q (.bool k) s') hu X I he hf ho (wpAny_mono h (fun v s' ⟨k, e, q⟩ => ⟨k, e, _, rfl, q⟩) fun _ _ e => e) |> fun z => wpAny_mono z (fun v s' ⟨k, e, q⟩ => ?_) fun _ _ e => e))
    subst e
    exact wpAny_pure ⟨k, rfl, q⟩
  unfold richCompare
  simp only [oneThing_ref]
  refine wpAny_holding (wpAny_bind (wpAny_cRoomFor (Nat.lt_of_succ_lt hu) ?_))
  rw [cmpInfo_NotEq]
  dsimp only
  refine wpAny_bind (I.type.here (wpAny_bind (hb.here ?_)))
  split
  · rename_i q
    have e : subIn K tb (.ref C) = some false := by
      rcases Bool.or_eq_true_iff.mp hn with e | e
      · rw [beq_iff_eq.mp e] at q
        simp at q
      · exact beq_iff_eq.mp e
    refine wpAny_bind ((looks_subIn X e).here ?_)
    simp only [Bool.false_eq_true, if_false]
    refine wpAny_bind (wpAny_mono one (fun r s' ⟨k, z, hq⟩ => ?_) fun _ _ e => e)
    subst z
    exact wpAny_pure hq
  · refine wpAny_bind (wpAny_pure ?_)
    simp only [Bool.false_eq_true, if_false]
    refine wpAny_bind (wpAny_mono one (fun r s' ⟨k, z, hq⟩ => ?_) fun _ _ e => e)
    subst z
    exact wpAny_pure hq
end
end NX
namespace NX
open PySem PySem.Spec PyProof.Rows L2
section
variable {X : Cx} {n : Nat} {f : Addr} {fd : FuncData} {ps : List Str} {sp : Sp} {CX : CXT} {E : XK}
theorem op_neOwn (F : FnOk X.prog X.w X.K X.mg X.base CX n f fd ps sp) (hb : Binds X.K fd ps []) (hx : Passes CX X E) (hr : Room (n + 1) X.A) : OpR X (compareOp .NotEq) (rOwn X.K f sp E true) := by
  intro pins s σ H x y u v Q I rx ry h
  obtain ⟨a, C, dx, fs, tb, rfl, ha, T, nf, ty, q⟩ := h
  obtain rfl : u = Value.ref a := rx
  obtain ⟨mA, O, _⟩ := ins_get I.hok ha
  obtain ⟨od, J, _⟩ := O.look
  obtain ⟨P, Z, p, _⟩ := kit_of I ry ty
  show wpAny (model X.prog X.w) X.A (richCompare .NotEq (.ref a) v) (EP X pins σ Q) X.xe s
  refine rich_ne (hu_of hr) I.kIn J (Z.ty _ _ I.kIn p) nf T.ne T.eq T.fn T.ob (wpAny_mono (run_own (x := .ref a) F hb hx ⟨hr.in1, rfl⟩ I rfl ry q) (fun r s' hq => ?_) fun _ _ z => z)
  obtain ⟨w, H', I', rw', b, rfl, q'⟩ := hq
  obtain rfl : r = Value.bool b := rw'
  exact ⟨b, rfl, .bl (!b), H', I', rfl, q'⟩
end
end NX

set_option Elab.async false
set_option linter.all false
set_option maxRecDepth 100000
set_option maxHeartbeats 4000000
/-! What the head tells of classes, errors and defs, in bundles. -/
namespace NX
open PySem L2 LamX PySem.Spec PyProof.Rows
section
variable {K : PySem.W.Frag}
theorem kit_self {C : Addr} : PySem.W.kitOne K (.ref C) (.ref C) = some true := by
  unfold PySem.W.kitOne
  rw [if_pos (beq_self_eq_true _)]
theorem kitCls_of {t : Value} {D : Addr} {b : Bool} (i : PySem.W.isClsIn K D = true) (ty : PySem.W.typeIn K (.ref D) = some (.type "type")) (s : PySem.W.subIn K t (.ref D) = some b) : PySem.W.kitCls K t (.ref D) = some b := by
  have e : ((PySem.W.clsIn K D).isSome && PySem.W.typeIn K (.ref D) == some (.type "type")) = true := by
    have i' : (PySem.W.clsIn K D).isSome = true := i
    rw [i', ty] <;> rfl
  show (if ((PySem.W.clsIn K D).isSome && PySem.W.typeIn K (.ref D) == some (.type "type")) = true then PySem.W.subIn K t (.ref D) else none) = some b
  rw [if_pos e]
  exact s
theorem kit_of {t : Value} {D : Addr} {b : Bool} (ne : (t == .ref D) = false) (i : PySem.W.isClsIn K D = true) (ty : PySem.W.typeIn K (.ref D) = some (.type "type")) (s : PySem.W.subIn K t (.ref D) = some b) : PySem.W.kitOne K t (.ref D) = some b := by
  unfold PySem.W.kitOne
  rw [if_neg (by rw [ne]; exact Bool.false_ne_true)]
  exact kitCls_of i ty s
theorem kit_ref {C D : Addr} {b : Bool} (ne : decide (C = D) = false) (i : PySem.W.isClsIn K D = true) (ty : PySem.W.typeIn K (.ref D) = some (.type "type")) (s : PySem.W.subIn K (.ref C) (.ref D) = some b) : PySem.W.kitOne K (.ref C) (.ref D) = some b :=
  kit_of (by
    have n : C ≠ D := of_decide_eq_false ne
    cases q : ((.ref C : Value) == .ref D) with
    | false => rfl
    | true =>
      have z : (Value.ref C) = .ref D := eq_of_beq q
      cases z
      exact absurd rfl n) i ty s
theorem kit_tyr {T : String} {D : Addr} {b : Bool} (i : PySem.W.isClsIn K D = true) (ty : PySem.W.typeIn K (.ref D) = some (.type "type")) (s : PySem.W.subIn K (.type T) (.ref D) = some b) : PySem.W.kitOne K (.type T) (.ref D) = some b :=
  kit_of (by
    cases q : ((.type T : Value) == .ref D) with
    | false => rfl
    | true =>
      have z : (Value.type T) = .ref D := eq_of_beq q
      cases z) i ty s
theorem kit_rty {T : String} {C : Addr} {b : Bool} (m : PySem.W.kitMeta T = true) (s : PySem.W.subIn K (.ref C) (.type T) = some b) : PySem.W.kitOne K (.ref C) (.type T) = some b := by
  have ne : ((.ref C : Value) == .type T) = false := by
    cases q : ((.ref C : Value) == .type T) with
    | false => rfl
    | true =>
      have z : (Value.ref C) = .type T := eq_of_beq q
      cases z
  unfold PySem.W.kitOne
  rw [if_neg (by rw [ne]; exact Bool.false_ne_true)]
  show (if PySem.W.kitMeta T = true then PySem.W.subIn K (.ref C) (.type T) else none) = some b
  rw [if_pos m]
  exact s
theorem exm_of {C S : Addr} {b : Bool} (h1 : PySem.W.subIn K (.ref S) (.type "BaseException") = some true) (i : PySem.W.isClsIn K S = true) (ty : PySem.W.typeIn K (.ref S) = some (.type "type")) (s : PySem.W.subIn K (.ref C) (.ref S) = some b) : PySem.W.exmOne K (.ref C) (.ref S) = some b := by
  have e1 : (PySem.W.subIn K (.ref S) (.type "BaseException") == some true) = true := by rw [h1] <;> rfl
  show (if (PySem.W.subIn K (.ref S) (.type "BaseException") == some true) = true then PySem.W.kitCls K (.ref C) (.ref S) else none) = some b
  rw [if_pos e1]
  exact kitCls_of i ty s
/-- a def as it stands in the written part -/
structure FnF (K : PySem.W.Frag) (x q : Str) (st : Stmt) (f : Addr) : Prop where
  ex : ∃ fd, Fun K x q st f fd
theorem fnF {x q : Str} {st : Stmt} {f : Addr} {oc : Value} {od an : Option Addr} {osl : Array (Option Value)} {kV doc pm cdv ct : Value} (l : K.lookup f = some ⟨oc, od, .func (PySem.W.fnOf x q (defArgs st) (defBody st) (defScope st) .none kV doc pm an cdv ct), osl⟩)
    (c : PySem.W.codeIn K cdv q = true) (k : PySem.W.keepIn K (.ref f) = true) : FnF K x q st f := ⟨⟨_, fun_mk l c k⟩⟩
/-- a def of ours, with its code object -/
structure FunC (K : PySem.W.Frag) (x : Str) (st : Stmt) (f : Addr) (fd : FuncData) (c : Addr) : Prop where
  ex : ∃ oc od kV doc pm an ct osl, fd = PySem.W.fnOf x x (defArgs st) (defBody st) (defScope st) .none kV doc pm an (.ref c) ct ∧ K.lookup f = some ⟨oc, od, .func fd, osl⟩ ∧ PySem.W.codeIn K (.ref c) x = true
  kp : PySem.W.keepIn K (.ref f) = true
/-- .. and the table of that -/
structure FnT (K : PySem.W.Frag) (x : Str) (st : Stmt) (f c Pc : Addr) : Prop where
  ex : ∃ fd, FunC K x st f fd c
  hd : PySem.W.codeHdIn K c Pc = true
theorem fnT {x : Str} {st : Stmt} {f c Pc : Addr} {oc e1 : Value} {od an e2 : Option Addr} {osl sl : Array (Option Value)} {kV doc pm ct : Value} {vs : Array Value}
    (l : K.lookup f = some ⟨oc, od, .func (PySem.W.fnOf x x (defArgs st) (defBody st) (defScope st) .none kV doc pm an (.ref c) ct), osl⟩)
    (cd : PySem.W.codeIn K (.ref c) x = true) (k : PySem.W.keepIn K (.ref f) = true) (lc : K.lookup c = some ⟨e1, e2, .fields vs, sl⟩) (h11 : vs[11]? = some (.ref Pc)) (hd : PySem.W.codeHdIn K c Pc = true) : FnT K x st f c Pc :=
  ⟨⟨_, ⟨oc, od, kV, doc, pm, an, ct, osl, rfl, l, cd⟩, k⟩, hd⟩
end
theorem FunC.binds {K : PySem.W.Frag} {x : Str} {st : Stmt} {f c : Addr} {fd : FuncData} {ps : List Str} (F : FunC K x st f fd c) (hb : ∀ (kV doc pm : Value) (an : Option Addr) (ct : Value) (us : List Value), us.length = ps.length → bindArgs (PySem.W.fnOf x x (defArgs st) (defBody st) (defScope st) .none kV doc pm an (.ref c) ct) ⟨us, []⟩ = pure (ps.zip us)) : Binds K fd ps [] := by
  obtain ⟨oc, od, kV, doc, pm, an, ct, osl, rfl, lk, hcd⟩ := F.ex
  exact .all fun us hl => hb kV doc pm an ct us hl
/-- an error of ours, which keeps the field y -/
structure ErrF (K : PySem.W.Frag) (x y : Str) (C fI CS : Addr) : Prop where
  g : PySem.W.nsIn K mainGlobals x = some (some (.ref C))
  i : PySem.W.findIn K (.ref C) "__init__" = some (some (.ref fI))
  t : PySem.W.typeIn K (.ref fI) = some (.type "function")
  cls : ∃ nm q N bs sn sub ab col dd k0 k1 k2 k3 k5, K.lookup C = some (excClassObj nm q C N bs [.ref CS, .type "ValueError", .type "Exception", .type "BaseException", .type "object"] true sn sub ab col dd k0 k1 k2 k3 k5 "ValueError.__new__")
  sa : PySem.W.findIn K (.ref C) "__setattr__" = some (some (.builtin "object.__setattr__"))
  ex : PySem.W.subIn K (.ref C) (.type "BaseException") = some true
  ty : PySem.W.typeIn K (.ref C) = some (.type "type")
  kp : PySem.W.keepIn K (.ref C) = true
  v : PySem.W.findIn K (.ref C) y = some none
  ga : PySem.W.findIn K (.ref C) "__getattribute__" = some (some (.builtin "BaseException.__getattribute__"))
  gg : PySem.W.findIn K (.ref C) "__getattr__" = some none
  hd : PySem.W.hasDictIn K C = true
  cl : PySem.W.findIn K (.ref C) "__class__" = some (some (.builtin "object.__class__"))
  ob : PySem.W.mroIn K C (.type "object") = some true
  ic : PySem.W.isClsIn K C = true
  sS : PySem.W.subIn K (.ref C) (.ref CS) = some true
  sV : PySem.W.subIn K (.ref C) (.type "ValueError") = some true
theorem refs5 (CS : Addr) : PySem.HandSPX.refsVE [.ref CS, .type "ValueError", .type "Exception", .type "BaseException", .type "object"] = true := by
  show PySem.HandSPX.refsVE [.type "ValueError", .type "Exception", .type "BaseException", .type "object"] = true
  decide +kernel
/-- what is asked of the base of the errors, and of isinstance -/
structure BaseF (K : PySem.W.Frag) (CS : Addr) : Prop where
  g : PySem.W.nsIn K mainGlobals "StowError" = some (some (.ref CS))
  sB : PySem.W.subIn K (.ref CS) (.type "BaseException") = some true
  sI : PySem.W.isClsIn K CS = true
  sT : PySem.W.typeIn K (.ref CS) = some (.type "type")
  hn : PySem.W.specialIn K (.builtin "object.__class__") "__get__" = some (some (.builtin "getset_descriptor.__get__"))
  ht : PySem.W.takesIn K (.builtin "object.__class__") = some true
/-- a class of ours, made by an __init__ -/
structure ClsF (K : PySem.W.Frag) (x : Str) (C fI : Addr) : Prop where
  g : PySem.W.nsIn K mainGlobals x = some (some (.ref C))
  pg : PySem.W.plainGet K C Str.empty = true
  hd : PySem.W.hasDictIn K C = true
  po : PySem.W.plainOver K C = true
  sa : PySem.W.findIn K (.ref C) "__setattr__" = some (some (.builtin "object.__setattr__"))
  mkC : PySem.W.makesIn K C = true
  ini : PySem.W.findIn K (.ref C) "__init__" = some (some (.ref fI))
  ifn : PySem.W.isFn K (.ref fI) = true
  kp : PySem.W.keepIn K (.ref C) = true
theorem ClsF.cls {K : PySem.W.Frag} {x : Str} {C fI : Addr} (F : ClsF K x C fI) : Cls K C := ⟨F.pg, F.hd, F.po, F.sa⟩
theorem ClsF.mak {K : PySem.W.Frag} {x : Str} {C fI : Addr} (F : ClsF K x C fI) : Mk K C fI := ⟨F.mkC, F.ini, F.ifn, F.kp⟩
/-- a classmethod read off a class -/
structure CmF (K : PySem.W.Frag) (C : Addr) (m : Str) (p g : Addr) : Prop where
  at_ : PySem.W.findCls K (.ref C) (.type "type") m = some (.get (.builtin "classmethod.__get__") (.ref p) .none (.ref C))
  rc : ∃ rest, PySem.W.recIn K p "classmethod" = some (.ref g :: rest)
  fi : PySem.W.fnIn K g = true
structure RdF (K : PySem.W.Frag) (C : Addr) : Prop where
  rd : PySem.W.readsIn K C (.type "type") = true
  ga : PySem.W.specialIn K (.ref C) "__getattribute__" = some (some (.builtin "type.__getattribute__"))
section
variable {P : Program} {w : World} {K : PySem.W.Frag} {mg : Str → Option Value} {base h : Heap}
theorem ErrF.O {x y : Str} {C fI CS : Addr} (E : ErrF K x y C fI CS) : OexC K C := by
  obtain ⟨nm, q, N, bs, sn, sub, ab, col, dd, k0, k1, k2, k3, k5, e⟩ := E.cls
  exact ⟨⟨nm, q, N, bs, _, sn, sub, ab, col, dd, k0, k1, k2, k3, k5, e, refs5 CS⟩, E.sa, E.ex, E.ty, E.kp⟩
theorem ErrF.ec {x y : Str} {C fI CS : Addr} (E : ErrF K x y C fI CS) (B : BaseF K CS) : ExcC K C := ⟨E.ga, E.gg, E.ex, E.hd, E.cl, B.hn, B.ht, E.ob⟩
theorem ErrF.xf {x y : Str} {C fI CS : Addr} (E : ErrF K x y C fI CS) : XfC K C := ⟨E.ga, E.gg, E.ex, E.hd⟩
theorem ErrF.exm {x y : Str} {C fI CS : Addr} (E : ErrF K x y C fI CS) (B : BaseF K CS) : PySem.W.exmOne K (.ref C) (.ref CS) = some true := exm_of B.sB B.sI B.sT E.sS
theorem ErrF.ve {x y : Str} {C fI CS : Addr} (E : ErrF K x y C fI CS) : PySem.W.kitOne K (.ref C) (.type "ValueError") = some true := kit_rty (by decide +kernel) E.sV
/-- the tables of the lambdas: by the code objects of the defs that hold them -/
structure TbF (h : Heap) (K : PySem.W.Frag) (c p : Addr) : Prop where
  hd : PySem.W.CodeHd h c p
  n : K.lookup p = none
end
end NX

set_option Elab.async false
set_option linter.all false
set_option maxRecDepth 100000
set_option maxHeartbeats 4000000
/-! The head by one run in the kernel: the written part is what the end's heap holds at told addresses; what is asked of it is one Bool. -/
namespace HK
open PySem L2 LamX PySem.Spec PyProof.Rows NX
abbrev Fg := PySem.W.Frag
/-! ### addresses by names -/
/-- what the module's name x holds -/
abbrev g (x : Str) : Fg → Addr := fun K => He.ga K x
/-- what the class at C holds under m -/
abbrev m (C : Fg → Addr) (x : Str) : Fg → Addr := fun K => He.ma K (C K) x
/-- the def within a property, a classmethod -/
def inner (T : String) (p : Fg → Addr) : Fg → Addr := fun K => match PySem.W.recIn K (p K) T with
  | some (.ref a :: _) => a
  | _ => 0
/-- the classmethod object that the class at C holds under m -/
def cmO (C : Fg → Addr) (x : Str) : Fg → Addr := fun K => match PySem.W.findCls K (.ref (C K)) (.type "type") x with
  | some (.get _ (.ref p) _ _) => p
  | _ => 0
def codeAt (f : Fg → Addr) : Fg → Addr := fun K => match K.lookup (f K) with
  | some ⟨_, _, .func fd, _⟩ => (match fd.code with
    | .ref c => c
    | _ => 0)
  | _ => 0
def tabAt (f : Fg → Addr) : Fg → Addr := fun K => He.tabOf K (codeAt f K)
/-! ### defs -/
structure Df where
  at_ : Fg → Addr
  name : Str
  qual : Str
  params : Arguments
  body : List Stmt
  scope : Scope
  dfl : List He.Dv := []
  kwd : List (Str × He.Dv) := []
abbrev dOf (a : Fg → Addr) (x q : Str) (st : Stmt) : Df := ⟨a, x, q, defArgs st, defBody st, defScope st, [], []⟩
def fnW (K : Fg) (a : Addr) : He.FnW := match K.lookup a with
  | some ⟨_, _, .func fd, _⟩ => some (fd.name, fd.qualname, fd.params, fd.body, fd.scope, fd.globals, fd.closure, fd.builtins)
  | _ => none
def Df.val (d : Df) : He.FnW := some (d.name, d.qual, d.params, .stmts d.body, d.scope, mainGlobals, [], builtinsNs)
def Df.dvs (K : Fg) (d : Df) : List V := d.dfl.map (He.Dv.v K)
def Df.kws (K : Fg) (d : Df) : List (Str × V) := d.kwd.map fun q => (q.1, q.2.v K)
def Df.ok (K : Fg) (d : Df) : Bool := PySem.W.keepIn K (.ref (d.at_ K)) && (match K.lookup (d.at_ K) with
  | some ⟨_, _, .func fd, _⟩ => PySem.W.codeIn K fd.code d.qual && (He.dflB K fd.defaults (d.dvs K) && He.kwdB K fd.kwdefaults (d.kws K))
  | _ => false)
theorem Df.funD {K : Fg} {d : Df} (e : fnW K (d.at_ K) = d.val) (c : d.ok K = true) : ∃ fd, FunD K d.name d.qual d.params d.body d.scope (d.dvs K) (d.kws K) (d.at_ K) fd := by
  obtain ⟨kp, c2⟩ := He.ba c
  unfold fnW at e
  cases q : K.lookup (d.at_ K) with
  | none =>
    rw [q] at c2
    cases c2
  | some o =>
    obtain ⟨oc, od, dt, osl⟩ := o
    rw [q] at c2 e
    cases dt with
    | func fd =>
      obtain ⟨n1, n2, n3, n4, n5, n6, n7, n8, n9, n10, n11, n12, n13, n14, n15⟩ := fd
      have e2 : (some (n1, n2, n3, n4, n5, n6, n7, n15) : He.FnW) = some (d.name, d.qual, d.params, .stmts d.body, d.scope, mainGlobals, [], builtinsNs) := e
      simp only [Option.some.injEq, Prod.mk.injEq] at e2
      obtain ⟨h1, h2, h3, h4, h5, h6, h7, h8⟩ := e2
      subst h1 h2 h3 h4 h5 h6 h7 h8
      have c3 : (PySem.W.codeIn K n13 d.qual && (He.dflB K n8 (d.dvs K) && He.kwdB K n9 (d.kws K))) = true := c2
      obtain ⟨k1, k2⟩ := He.ba c3
      obtain ⟨k3, k4⟩ := He.ba k2
      exact ⟨_, ⟨oc, od, n8, n9, n10, n11, n12, n13, n14, osl, rfl, q, k1, He.dflB_ok k3, He.kwdB_ok k4⟩, kp⟩
    | _ => cases c2
/-! ### the Hook -/
/-- what is told of the written part K of the heap h -/
structure Says (fn : List Df) (tf : List (Fg → Addr)) (ex : Fg → List Bool) (h : Heap) (K : Fg) : Prop where
  fns : (fn.map fun d => fnW K (d.at_ K)) = fn.map Df.val
  fok : ∀ d ∈ fn, d.ok K = true
  more : (ex K).all id = true
  hd : ∀ f ∈ tf, PySem.W.codeHdIn K (codeAt f K) (tabAt f K) = true
  out : ∀ f ∈ tf, K.lookup (tabAt f K) = none
  empty : ∀ f ∈ tf, h.get? (tabAt f K) = some { cls := .none, data := .fields #[] }
def tabsB (gt : Addr → Option Obj) (tf : List (Fg → Addr)) (K : Fg) : Bool := tf.all fun f => PySem.W.codeHdIn K (codeAt f K) (tabAt f K) && (match gt (tabAt f K) with
  | some o => He.emptyTab o
  | none => false)
abbrev Al : Type := List He.FnW × Bool
def obsK (fn : List Df) (tf : List (Fg → Addr)) (ex : Fg → List Bool) (gt : Addr → Option Obj) (K : Fg) : Al := (fn.map fun d => fnW K (d.at_ K), (fn.all fun d => d.ok K) && ((ex K).all id && tabsB gt tf K))
/-- a list made of its items, before it is looked at -/
def frL {α β : Type} : List α → (List α → β) → β
  | [], k => k []
  | x :: r, k => frL r fun r => k (x :: r)
theorem frL_eq {α β : Type} : ∀ (l : List α) (k : List α → β), frL l k = k l
  | [], _ => rfl
  | x :: r, k => by
    show frL r (fun r => k (x :: r)) = _
    rw [frL_eq r]
def obs (as : List Addr) (fn : List Df) (tf : List (Fg → Addr)) (ex : Fg → List Bool) (gt : Addr → Option Obj) : Al := frL (He.frT gt as) fun K => obsK fn tf ex gt K
def val (fn : List Df) : Al := (fn.map Df.val, true)
theorem says_of {as : List Addr} {fn : List Df} {tf : List (Fg → Addr)} {ex : Fg → List Bool} {h : Heap} (e : obs as fn tf ex h.get? = val fn) : Says fn tf ex h (He.frT h.get? as) := by
  unfold obs at e
  rw [frL_eq] at e
  generalize hK : He.frT h.get? as = K at e
  have e1 : (fn.map fun d => fnW K (d.at_ K)) = fn.map Df.val := congrArg (fun z : Al => z.1) e
  have e2 : ((fn.all fun d => d.ok K) && ((ex K).all id && tabsB h.get? tf K)) = true := congrArg (fun z : Al => z.2) e
  obtain ⟨h1, h2⟩ := He.ba e2
  obtain ⟨h3, h4⟩ := He.ba h2
  have key : ∀ f ∈ tf, PySem.W.codeHdIn K (codeAt f K) (tabAt f K) = true ∧ ∃ o, h.get? (tabAt f K) = some o ∧ He.emptyTab o = true := fun p hp => by
    obtain ⟨h5, h6⟩ := He.ba (List.all_eq_true.mp h4 p hp)
    refine ⟨h5, ?_⟩
    cases q : h.get? (tabAt p K) with
    | none =>
      rw [q] at h6
      cases h6
    | some o =>
      rw [q] at h6
      exact ⟨o, rfl, h6⟩
  refine ⟨e1, fun d hd => List.all_eq_true.mp h1 d hd, h3, fun p hp => (key p hp).1, fun p hp => ?_, fun p hp => ?_⟩
  · obtain ⟨_, o, q, z⟩ := key p hp
    have r := He.frT_none (as := as) q z
    rw [hK] at r
    exact r
  · obtain ⟨_, o, q, z⟩ := key p hp
    rw [q, He.emptyTab_eq z]
def hook (as : List Addr) (fn : List Df) (tf : List (Fg → Addr)) (ex : Fg → List Bool) : PySem.W.Hook where
  α := Al
  obs := fun s => obs as fn tf ex s.heap.get?
  val := fun _ => val fn
  says := fun _ h => ∃ K : Fg, K.In h ∧ Says fn tf ex h K
  of := fun _ _ e => ⟨_, He.frT_in, says_of e⟩
  keeps := fun _ _ _ ⟨K, hK, c⟩ k => ⟨K, PySem.W.Frag.In.keeps hK k, ⟨c.fns, c.fok, c.more, c.hd, c.out, fun p hp => k _ _ (c.empty p hp)⟩⟩
theorem obs_eq {as : List Addr} {fn : List Df} {tf : List (Fg → Addr)} {ex : Fg → List Bool} (s : PySem.W.SharedT) : obs as fn tf ex (HandSHeadRun.getT s) = (hook as fn tf ex).obs s.abs := by
  have e : HandSHeadRun.getT s = s.abs.heap.get? := funext (HandSHeadRun.getT_eq s)
  rw [e] <;> rfl
section
variable {fn : List Df} {tf : List (Fg → Addr)} {ex : Fg → List Bool} {h : Heap} {K : Fg}
theorem Says.def_ (c : Says fn tf ex h K) (i : Nat) {d : Df} (hi : fn[i]? = some d := by rfl) : ∃ fd, FunD K d.name d.qual d.params d.body d.scope (d.dvs K) (d.kws K) (d.at_ K) fd := by
  have e2 : (fn.map fun d => fnW K (d.at_ K))[i]? = (fn.map Df.val)[i]? := by rw [c.fns]
  rw [List.getElem?_map, List.getElem?_map, hi] at e2
  exact Df.funD (Option.some.inj e2) (c.fok d (List.mem_of_getElem? hi))
/-- a def without defaults -/
theorem fnF_of {x q : Str} {st : Stmt} {f : Addr} (h : ∃ fd, FunD K x q (defArgs st) (defBody st) (defScope st) [] [] f fd) : FnF K x q st f := by
  obtain ⟨fd, F⟩ := h
  obtain ⟨oc, od, dV, kV, doc, pm, an, cdv, ct, osl, rfl, lk, hcd, hd, _⟩ := F.ex
  rcases hd with ⟨_, rfl⟩ | ⟨n, _⟩
  · exact fnF lk hcd F.kp
  · exact absurd rfl n
theorem fnT_of {x : Str} {st : Stmt} {f : Addr} (h : ∃ fd, FunD K x x (defArgs st) (defBody st) (defScope st) [] [] f fd) (a : Fg → Addr) (ha : a K = f) (hd : PySem.W.codeHdIn K (codeAt a K) (tabAt a K) = true) : FnT K x st f (codeAt a K) (tabAt a K) := by
  obtain ⟨fd, F⟩ := h
  obtain ⟨oc, od, dV, kV, doc, pm, an, cdv, ct, osl, rfl, lk, hcd, hdd, _⟩ := F.ex
  rcases hdd with ⟨_, rfl⟩ | ⟨n, _⟩
  · obtain ⟨c, rfl⟩ := He.codeIn_ref hcd
    have e : codeAt a K = c := by
      unfold codeAt
      rw [ha, lk]
    refine ⟨⟨_, ⟨oc, od, kV, doc, pm, an, ct, osl, ?_, lk, ?_⟩, F.kp⟩, hd⟩
    · rw [e]
    · rw [e]
      exact hcd
  · exact absurd rfl n
theorem Says.at_ (c : Says fn tf ex h K) (i : Nat) {b : Bool} (hi : (ex K)[i]? = some b := by rfl) : b = true := List.all_eq_true.mp c.more b (List.mem_of_getElem? hi)
end
/-! ### facts as Bools -/
section
variable {K : Fg}
def eqV (a b : Option (Option Value)) : Bool := decide (a = b)
theorem eqV_ok {a b : Option (Option Value)} (h : eqV a b = true) : a = b := of_decide_eq_true h
def eqB (a b : Option Bool) : Bool := decide (a = b)
theorem eqB_ok {a b : Option Bool} (h : eqB a b = true) : a = b := of_decide_eq_true h
def eqT (a b : Option Value) : Bool := decide (a = b)
theorem eqT_ok {a b : Option Value} (h : eqT a b = true) : a = b := of_decide_eq_true h
theorem notB_ok {b : Bool} (h : (!b) = true) : b = false := by
  cases b with
  | false => rfl
  | true => cases h
/-- a constant that is a text, an int -/
def strB (K : Fg) (x z : Str) : Bool := match PySem.W.nsIn K mainGlobals x with
  | some (some (.str y _)) => decide (y = z)
  | _ => false
theorem strB_ok {x z : Str} (h : strB K x z = true) : ∃ t, PySem.W.nsIn K mainGlobals x = some (some (.str z t)) := by
  unfold strB at h
  split at h
  · rename_i y t q
    rw [of_decide_eq_true h] at q
    exact ⟨t, q⟩
  · cases h
def intB (K : Fg) (x : Str) (i : Int) : Bool := match PySem.W.nsIn K mainGlobals x with
  | some (some (.int j _)) => decide (j = i)
  | _ => false
theorem intB_ok {x : Str} {i : Int} (h : intB K x i = true) : ∃ t, PySem.W.nsIn K mainGlobals x = some (some (.int i t)) := by
  unfold intB at h
  split at h
  · rename_i y t q
    rw [of_decide_eq_true h] at q
    exact ⟨t, q⟩
  · cases h
/-- an error class over the base CS -/
def errC (K : Fg) (C CS : Addr) : Bool := match K.lookup C with
  | some ⟨.type T, _, .cls cd, sl⟩ => decide (T = "type") && (decide (cd.mro = [.ref C, .ref CS, .type "ValueError", .type "Exception", .type "BaseException", .type "object"]) && (cd.hasDict && (!cd.hasDel && (match sl.toList with
    | [_, _, _, _, some (.builtin n), _] => decide (n = "ValueError.__new__")
    | _ => false))))
  | _ => false
theorem errC_ok {C CS : Addr} (h : errC K C CS = true) : ∃ nm q N bs sn sub ab col dd k0 k1 k2 k3 k5, K.lookup C = some (excClassObj nm q C N bs [.ref CS, .type "ValueError", .type "Exception", .type "BaseException", .type "object"] true sn sub ab col dd k0 k1 k2 k3 k5 "ValueError.__new__") := by
  unfold errC at h
  split at h
  · rename_i T dd cd sl q
    obtain ⟨h1, h⟩ := He.ba h
    obtain ⟨h2, h⟩ := He.ba h
    obtain ⟨h3, h⟩ := He.ba h
    obtain ⟨h4, h5⟩ := He.ba h
    obtain ⟨nm, bs, mro, ns, qn, hd, sn, sub, ab, col, del⟩ := cd
    have e1 : T = "type" := of_decide_eq_true h1
    have e2 : mro = [.ref C, .ref CS, .type "ValueError", .type "Exception", .type "BaseException", .type "object"] := of_decide_eq_true h2
    have e3 : hd = true := h3
    have e4 : del = false := by
      cases del with
      | false => rfl
      | true => cases h4
    subst e1 e2 e3 e4
    obtain ⟨l⟩ := sl
    split at h5
    · rename_i k0 k1 k2 k3 n k5 hl
      have e5 : n = "ValueError.__new__" := of_decide_eq_true h5
      have hl' : l = [k0, k1, k2, k3, some (.builtin n), k5] := hl
      subst e5 hl'
      exact ⟨nm, qn, ns, bs, sn, sub, ab, col, dd, k0, k1, k2, k3, k5, q⟩
    · cases h5
  · cases h
/-- an error of ours: the class x, its field y -/
def errB (K : Fg) (x y : Str) (C fI CS : Addr) : List Bool :=
  [eqV (PySem.W.nsIn K mainGlobals x) (some (some (.ref C))), eqV (PySem.W.findIn K (.ref C) "__init__") (some (some (.ref fI))), eqT (PySem.W.typeIn K (.ref fI)) (some (.type "function")), errC K C CS,
   eqV (PySem.W.findIn K (.ref C) "__setattr__") (some (some (.builtin "object.__setattr__"))), eqB (PySem.W.subIn K (.ref C) (.type "BaseException")) (some true), eqT (PySem.W.typeIn K (.ref C)) (some (.type "type")), PySem.W.keepIn K (.ref C),
   eqV (PySem.W.findIn K (.ref C) y) (some none), eqV (PySem.W.findIn K (.ref C) "__getattribute__") (some (some (.builtin "BaseException.__getattribute__"))), eqV (PySem.W.findIn K (.ref C) "__getattr__") (some none), PySem.W.hasDictIn K C,
   eqV (PySem.W.findIn K (.ref C) "__class__") (some (some (.builtin "object.__class__"))), eqB (PySem.W.mroIn K C (.type "object")) (some true), PySem.W.isClsIn K C, eqB (PySem.W.subIn K (.ref C) (.ref CS)) (some true), eqB (PySem.W.subIn K (.ref C) (.type "ValueError")) (some true)]
theorem all_at {l : List Bool} (h : l.all id = true) (i : Nat) {b : Bool} (hi : l[i]? = some b := by rfl) : b = true := List.all_eq_true.mp h b (List.mem_of_getElem? hi)
theorem errB_ok {x y : Str} {C fI CS : Addr} (h : (errB K x y C fI CS).all id = true) : ErrF K x y C fI CS :=
  ⟨eqV_ok (all_at h 0), eqV_ok (all_at h 1), eqT_ok (all_at h 2), errC_ok (all_at h 3), eqV_ok (all_at h 4), eqB_ok (all_at h 5), eqT_ok (all_at h 6), all_at h 7, eqV_ok (all_at h 8), eqV_ok (all_at h 9), eqV_ok (all_at h 10), all_at h 11, eqV_ok (all_at h 12), eqB_ok (all_at h 13), all_at h 14, eqB_ok (all_at h 15), eqB_ok (all_at h 16)⟩
def baseB (K : Fg) (CS : Addr) : List Bool :=
  [eqV (PySem.W.nsIn K mainGlobals "StowError") (some (some (.ref CS))), eqB (PySem.W.subIn K (.ref CS) (.type "BaseException")) (some true), PySem.W.isClsIn K CS, eqT (PySem.W.typeIn K (.ref CS)) (some (.type "type")),
   eqV (PySem.W.specialIn K (.builtin "object.__class__") "__get__") (some (some (.builtin "getset_descriptor.__get__"))), eqB (PySem.W.takesIn K (.builtin "object.__class__")) (some true)]
theorem baseB_ok {CS : Addr} (h : (baseB K CS).all id = true) : BaseF K CS := ⟨eqV_ok (all_at h 0), eqB_ok (all_at h 1), all_at h 2, eqT_ok (all_at h 3), eqV_ok (all_at h 4), eqB_ok (all_at h 5)⟩
def clsB (K : Fg) (x : Str) (C fI : Addr) : List Bool :=
  [eqV (PySem.W.nsIn K mainGlobals x) (some (some (.ref C))), PySem.W.plainGet K C Str.empty, PySem.W.hasDictIn K C, PySem.W.plainOver K C, eqV (PySem.W.findIn K (.ref C) "__setattr__") (some (some (.builtin "object.__setattr__"))), PySem.W.makesIn K C,
   eqV (PySem.W.findIn K (.ref C) "__init__") (some (some (.ref fI))), PySem.W.isFn K (.ref fI), PySem.W.keepIn K (.ref C)]
theorem clsB_ok {x : Str} {C fI : Addr} (h : (clsB K x C fI).all id = true) : ClsF K x C fI := ⟨eqV_ok (all_at h 0), all_at h 1, all_at h 2, all_at h 3, eqV_ok (all_at h 4), all_at h 5, eqV_ok (all_at h 6), all_at h 7, all_at h 8⟩
/-- a record's first -/
def recB (K : Fg) (p : Addr) (T : String) (gt : Addr) : Bool := match PySem.W.recIn K p T with
  | some (.ref a :: _) => decide (a = gt)
  | _ => false
theorem recB_ok {p gt : Addr} {T : String} (h : recB K p T gt = true) : ∃ rest, PySem.W.recIn K p T = some (.ref gt :: rest) := by
  unfold recB at h
  split at h
  · rename_i a r q
    rw [of_decide_eq_true h] at q
    exact ⟨r, q⟩
  · cases h
def getB (K : Fg) (C : Addr) (x : Str) (p : Addr) : Bool := match PySem.W.findCls K (.ref C) (.type "type") x with
  | some (.get gg pp ob c) => decide (gg = .builtin "classmethod.__get__") && (decide (pp = .ref p) && (decide (ob = .none) && decide (c = .ref C)))
  | _ => false
theorem getB_ok {C p : Addr} {x : Str} (h : getB K C x p = true) : PySem.W.findCls K (.ref C) (.type "type") x = some (.get (.builtin "classmethod.__get__") (.ref p) .none (.ref C)) := by
  unfold getB at h
  split at h
  · rename_i gg pp ob c q
    obtain ⟨h1, h⟩ := He.ba h
    obtain ⟨h2, h⟩ := He.ba h
    obtain ⟨h3, h4⟩ := He.ba h
    rw [q, of_decide_eq_true h1, of_decide_eq_true h2, of_decide_eq_true h3, of_decide_eq_true h4]
  · cases h
def cmB (K : Fg) (C : Addr) (x : Str) (p gt : Addr) : List Bool := [getB K C x p, recB K p "classmethod" gt, PySem.W.fnIn K gt]
theorem cmB_ok {C p gt : Addr} {x : Str} (h : (cmB K C x p gt).all id = true) : CmF K C x p gt := ⟨getB_ok (all_at h 0), recB_ok (all_at h 1), all_at h 2⟩
def rdB (K : Fg) (C : Addr) : List Bool := [PySem.W.readsIn K C (.type "type"), eqV (PySem.W.specialIn K (.ref C) "__getattribute__") (some (some (.builtin "type.__getattribute__")))]
theorem rdB_ok {C : Addr} (h : (rdB K C).all id = true) : RdF K C := ⟨all_at h 0, eqV_ok (all_at h 1)⟩
/-- a class's constant that is an int, read off the class -/
def cvalI (K : Fg) (C : Addr) (x : Str) (i : Int) : Bool := match PySem.W.findCls K (.ref C) (.type "type") x with
  | some (.val (.int j _)) => decide (j = i)
  | _ => false
theorem cvalI_ok {C : Addr} {x : Str} {i : Int} (h : cvalI K C x i = true) : ∃ t, PySem.W.findCls K (.ref C) (.type "type") x = some (.val (.int i t)) := by
  unfold cvalI at h
  split at h
  · rename_i j t q
    rw [of_decide_eq_true h] at q
    exact ⟨t, q⟩
  · cases h
end
/-! ### the end -/
theorem walkGE {l : PySem.W.OpenLaw} {n k : Nat} {q : Program} {loose : List Str} {XP : (Str → Option Value) → Heap → Prop} {YP : World → Heap → Prop} {d : DefRec} {x : Str} (hn : l.most = some n) (hn2 : n ≤ sizeLine) (hdf : d.params.defaults = []) (hr : Room k callerA) (hi : importsNone q = true)
    (G : ∀ (w : World) (mg : Str → Option Value) (fa : Addr) (h : Heap), YP w h → h.Ns mainGlobals mg → mg d.name = some (.ref fa) → ∃ K : Fg, K.In h ∧ ∃ fd cs sp, LawG l w K k n x mg fa h fd cs sp) :
    PySem.W.WalkO q loose XP YP l.row.toRowW d [] (fun f vs => PySem.call f vs) := by
  refine Att.attach_callB hn hdf fun w s₀ s₁ mg mb fa o pm cd doc a vs ns T Y ho hd hcd hmg hobj hints hlen hbits hgen => ?_
  obtain ⟨K, KX, fd, cs, sp, L⟩ := G w mg fa _ Y T.T.g hmg
  exact endG ⟨KX, L.hT, L.nT, hobj, hints, Nat.le_trans hlen hn2⟩ T.T.g T.T.b T.T.builtins T.T.nolimit hgen L.C T.T.bmain hr (by obtain ⟨mm, ⟨o, es, ep, e, d, _⟩, _⟩ := (T.T.seer hi).mods; exact ⟨o, es, ep, e, d⟩) L.F L.bind (fun H h1 h2 => L.ask H a ns hlen h1 h2)
end HK

set_option Elab.async false
set_option linter.all false
set_option maxRecDepth 100000
set_option maxHeartbeats 0
namespace K07H
open PySem PySem.W PySem.Calls PyProof.Rows NX L2
def top (i : Nat) : Stmt := PySem.Challenge.pw_loopstow_k07_programs_renamed.main.body.getD i (.Pass ⟨0, 0, 0, 0⟩)
/-- a def's default by keyword -/
def kwA (f : HK.Fg → Addr) (x : PySem.Str) : HK.Fg → Addr := fun K => match K.lookup (f K) with
  | some ⟨_, _, .func fd, _⟩ => (match fd.kwdefaults with
    | .ref D => (match PySem.W.nsIn K D x with
      | some (some (.ref a)) => a
      | _ => 0)
    | _ => 0)
  | _ => 0
/-- a def's default by place -/
def dfA (f : HK.Fg → Addr) (i : Nat) : HK.Fg → Addr := fun K => match K.lookup (f K) with
  | some ⟨_, _, .func fd, _⟩ => (match fd.defaults with
    | .ref T => (match K.lookup T with
      | some ⟨_, _, .seq its _, _⟩ => (match its.toList[i]? with
        | some (.ref a) => a
        | _ => 0)
      | _ => 0)
    | _ => 0)
  | _ => 0
/-- a tuple of texts -/
def tupS (K : HK.Fg) (a : Addr) (zs : List PySem.Str) : Bool := match K.lookup a with
  | some ⟨.type c, _, .seq its _, _⟩ => decide (c = "tuple") && (decide (its.size ≤ sizeLine) && He.relAll (zs.map V.str) its.toList)
  | _ => false
theorem tupS_ok {K : HK.Fg} {a : Addr} {zs : List PySem.Str} (h : tupS K a zs = true) (H : Hp) : SqT K H a (zs.map V.str) := by
  unfold tupS at h
  split at h
  · rename_i c od its n sl q
    obtain ⟨h1, h2⟩ := He.ba h
    obtain ⟨h3, h4⟩ := He.ba h2
    exact .inr ⟨_, its, n, q, congrArg Value.type (of_decide_eq_true h1), rfl, of_decide_eq_true h3, He.relAll_ok h4⟩
  · cases h
def a_CS : HK.Fg → Addr := HK.g "StowError"
def a_CD : HK.Fg → Addr := HK.g "Deed"
def a_pNm : HK.Fg → Addr := HK.m (HK.g "Use") "names"
def a_pRm : HK.Fg → Addr := HK.m (HK.g "Use") "room"
def a_c0 : HK.Fg → Addr := HK.g "BadName"
def a_c1 : HK.Fg → Addr := HK.g "BadDeed"
def a_c4 : HK.Fg → Addr := HK.g "BadNumber"
def a_c10 : HK.Fg → Addr := HK.g "Twice"
def a_c11 : HK.Fg → Addr := HK.g "TooMany"
def a_dU : HK.Fg → Addr := HK.g "Use"
def a_dM : HK.Fg → Addr := HK.g "Make"
def a_dD : HK.Fg → Addr := HK.g "Do"
def a_cP : HK.Fg → Addr := HK.g "Program"
def a_i0 : HK.Fg → Addr := HK.m (HK.g "BadName") "__init__"
def a_i1 : HK.Fg → Addr := HK.m (HK.g "BadDeed") "__init__"
def a_i4 : HK.Fg → Addr := HK.m (HK.g "BadNumber") "__init__"
def a_i10 : HK.Fg → Addr := HK.m (HK.g "Twice") "__init__"
def a_i11 : HK.Fg → Addr := HK.m (HK.g "TooMany") "__init__"
def a_fU : HK.Fg → Addr := HK.m (HK.g "Use") "__init__"
def a_fM : HK.Fg → Addr := HK.m (HK.g "Make") "__init__"
def a_fD : HK.Fg → Addr := HK.m (HK.g "Do") "__init__"
def a_fNm : HK.Fg → Addr := HK.inner "property" (HK.m (HK.g "Use") "names")
def a_fRm : HK.Fg → Addr := HK.inner "property" (HK.m (HK.g "Use") "room")
def a_fEq : HK.Fg → Addr := HK.m (HK.g "Deed") "__eq__"
def a_g0 : HK.Fg → Addr := HK.inner "property" (HK.m (HK.g "Program") "ahead")
def a_g1 : HK.Fg → Addr := HK.inner "property" (HK.m (HK.g "Program") "loop")
def a_g2 : HK.Fg → Addr := HK.inner "property" (HK.m (HK.g "Program") "between")
def a_g3 : HK.Fg → Addr := HK.inner "property" (HK.m (HK.g "Program") "second")
def a_g4 : HK.Fg → Addr := HK.inner "property" (HK.m (HK.g "Program") "behind")
def a_g5 : HK.Fg → Addr := HK.inner "property" (HK.m (HK.g "Program") "given")
def a_g6 : HK.Fg → Addr := HK.inner "property" (HK.m (HK.g "Program") "again")
def a_g7 : HK.Fg → Addr := HK.inner "property" (HK.m (HK.g "Program") "results")
def a_g8 : HK.Fg → Addr := HK.inner "property" (HK.m (HK.g "Program") "names")
def a_g9 : HK.Fg → Addr := HK.inner "property" (HK.m (HK.g "Program") "loops")
def a_g10 : HK.Fg → Addr := HK.inner "property" (HK.m (HK.g "Program") "room")
def a_fRn : HK.Fg → Addr := HK.m (HK.g "Program") "renamed"
def a_fPE : HK.Fg → Addr := HK.m (HK.g "Program") "__eq__"
def a_p0 : HK.Fg → Addr := HK.m (HK.g "Program") "ahead"
def a_p1 : HK.Fg → Addr := HK.m (HK.g "Program") "loop"
def a_p2 : HK.Fg → Addr := HK.m (HK.g "Program") "between"
def a_p3 : HK.Fg → Addr := HK.m (HK.g "Program") "second"
def a_p4 : HK.Fg → Addr := HK.m (HK.g "Program") "behind"
def a_p5 : HK.Fg → Addr := HK.m (HK.g "Program") "given"
def a_p6 : HK.Fg → Addr := HK.m (HK.g "Program") "again"
def a_p7 : HK.Fg → Addr := HK.m (HK.g "Program") "results"
def a_p8 : HK.Fg → Addr := HK.m (HK.g "Program") "names"
def a_p9 : HK.Fg → Addr := HK.m (HK.g "Program") "loops"
def a_p10 : HK.Fg → Addr := HK.m (HK.g "Program") "room"
def a_fP : HK.Fg → Addr := HK.m (HK.g "Program") "__init__"
def a_fSt : HK.Fg → Addr := HK.m (HK.g "Program") "straight"
def a_tPA : HK.Fg → Addr := HK.g "PARTS"
def a_tLO : HK.Fg → Addr := HK.g "LOOPS"
def a_t0 : HK.Fg → Addr := dfA (HK.m (HK.g "Program") "__init__") 0
def a_t1 : HK.Fg → Addr := dfA (HK.m (HK.g "Program") "__init__") 2
def a_t2 : HK.Fg → Addr := dfA (HK.m (HK.g "Program") "__init__") 4
def a_t3 : HK.Fg → Addr := kwA (HK.m (HK.g "Program") "__init__") "given"
def a_t4 : HK.Fg → Addr := kwA (HK.m (HK.g "Program") "__init__") "results"
def a_fIs : HK.Fg → Addr := HK.g "is_name"
def a_fNum : HK.Fg → Addr := HK.g "is_number"
def a_fCnt : HK.Fg → Addr := HK.g "is_count"
def a_fPri : HK.Fg → Addr := HK.g "is_price"
def a_fCns : HK.Fg → Addr := HK.g "check_names"
def a_fCun : HK.Fg → Addr := HK.g "check_unlike"
def a_fAsc : HK.Fg → Addr := HK.g "ascending"
def a_fCus : HK.Fg → Addr := HK.g "check_used"
def a_fCp : HK.Fg → Addr := HK.g "check_parts"
def a_fCz : HK.Fg → Addr := HK.g "check_sizes"
def a_fCt : HK.Fg → Addr := HK.g "check_told_names"
def a_fAn : HK.Fg → Addr := HK.g "all_names"
def a_fCv : HK.Fg → Addr := HK.g "check_values"
def a_fCd : HK.Fg → Addr := HK.g "check_deed_partchecks"
def a_fRep : HK.Fg → Addr := HK.g "repeated"
def a_fRd : HK.Fg → Addr := HK.g "renamed_deed"
def a_fRpt : HK.Fg → Addr := HK.g "renamed_part"
def a_fCr : HK.Fg → Addr := HK.g "check_renames"
def a_fPen : HK.Fg → Addr := HK.g "_law_pen"
def a_fDraw : HK.Fg → Addr := HK.g "_law_draw"
def a_fPick : HK.Fg → Addr := HK.g "_law_pick"
def a_fSome : HK.Fg → Addr := HK.g "_law_some"
def a_fNames : HK.Fg → Addr := HK.g "_law_names"
def a_fReal : HK.Fg → Addr := HK.g "_law_real_deed"
def a_fOr : HK.Fg → Addr := HK.g "_law_order"
def a_fDs : HK.Fg → Addr := HK.g "_law_deeds"
def a_fSi : HK.Fg → Addr := HK.g "_law_site"
def a_fRp : HK.Fg → Addr := HK.g "_law_real_part"
def a_fRl : HK.Fg → Addr := HK.g "_law_real"
def a_fHeard : HK.Fg → Addr := HK.g "_law_heard"
def a_fAl : HK.Fg → Addr := HK.g "_law_all_names"
def a_fLis : HK.Fg → Addr := HK.g "_law_is_name"
def a_fDue : HK.Fg → Addr := HK.g "_law_due"
def a_fLed : HK.Fg → Addr := HK.g "_law_led"
def a_fTab : HK.Fg → Addr := HK.g "_law_table"
def a_fLaw : HK.Fg → Addr := HK.g "law"
def a_cLaw : HK.Fg → Addr := HK.codeAt (HK.g "law")
def a_pLaw : HK.Fg → Addr := HK.tabAt (HK.g "law")
def fns : List HK.Df := [⟨a_fP, "__init__", "Program.__init__", L2.defArgs (L2.inClass (top 66) 0), L2.defBody (L2.inClass (top 66) 0), L2.defScope (L2.inClass (top 66) 0), [.adr a_t0, .non, .adr a_t1, .non, .adr a_t2], [("given", .adr a_t3), ("again", .non), ("results", .adr a_t4)]⟩,
  ⟨a_fSt, "straight", "Program.straight", L2.defArgs (L2.inClass (top 66) 16), L2.defBody (L2.inClass (top 66) 16), L2.defScope (L2.inClass (top 66) 16), [.int 0, .int 0], []⟩,
  HK.dOf a_i0 "__init__" "BadName.__init__" (L2.inClass (top 3) 0),
  HK.dOf a_i1 "__init__" "BadDeed.__init__" (L2.inClass (top 4) 0),
  HK.dOf a_i4 "__init__" "BadNumber.__init__" (L2.inClass (top 5) 0),
  HK.dOf a_i10 "__init__" "Twice.__init__" (L2.inClass (top 8) 0),
  HK.dOf a_i11 "__init__" "TooMany.__init__" (L2.inClass (top 9) 0),
  HK.dOf a_fU "__init__" "Use.__init__" (L2.inClass (top 29) 0),
  HK.dOf a_fM "__init__" "Make.__init__" (L2.inClass (top 30) 0),
  HK.dOf a_fD "__init__" "Do.__init__" (L2.inClass (top 31) 0),
  HK.dOf a_fNm "names" "Deed.names" (L2.inClass (top 28) 1),
  HK.dOf a_fRm "room" "Deed.room" (L2.inClass (top 28) 2),
  HK.dOf a_fEq "__eq__" "Deed.__eq__" (L2.inClass (top 28) 4),
  HK.dOf a_g0 "ahead" "Program.ahead" (L2.inClass (top 66) 1),
  HK.dOf a_g1 "loop" "Program.loop" (L2.inClass (top 66) 2),
  HK.dOf a_g2 "between" "Program.between" (L2.inClass (top 66) 3),
  HK.dOf a_g3 "second" "Program.second" (L2.inClass (top 66) 4),
  HK.dOf a_g4 "behind" "Program.behind" (L2.inClass (top 66) 5),
  HK.dOf a_g5 "given" "Program.given" (L2.inClass (top 66) 6),
  HK.dOf a_g6 "again" "Program.again" (L2.inClass (top 66) 7),
  HK.dOf a_g7 "results" "Program.results" (L2.inClass (top 66) 8),
  HK.dOf a_g8 "names" "Program.names" (L2.inClass (top 66) 9),
  HK.dOf a_g9 "loops" "Program.loops" (L2.inClass (top 66) 10),
  HK.dOf a_g10 "room" "Program.room" (L2.inClass (top 66) 11),
  HK.dOf a_fRn "renamed" "Program.renamed" (L2.inClass (top 66) 20),
  HK.dOf a_fPE "__eq__" "Program.__eq__" (L2.inClass (top 66) 22),
  HK.dOf a_fIs "is_name" "is_name" (top 20),
  HK.dOf a_fNum "is_number" "is_number" (top 21),
  HK.dOf a_fCnt "is_count" "is_count" (top 22),
  HK.dOf a_fPri "is_price" "is_price" (top 23),
  HK.dOf a_fCns "check_names" "check_names" (top 24),
  HK.dOf a_fCun "check_unlike" "check_unlike" (top 25),
  HK.dOf a_fAsc "ascending" "ascending" (top 26),
  HK.dOf a_fCus "check_used" "check_used" (top 32),
  HK.dOf a_fCp "check_parts" "check_parts" (top 53),
  HK.dOf a_fCz "check_sizes" "check_sizes" (top 54),
  HK.dOf a_fCt "check_told_names" "check_told_names" (top 55),
  HK.dOf a_fAn "all_names" "all_names" (top 56),
  HK.dOf a_fCv "check_values" "check_values" (top 57),
  HK.dOf a_fCd "check_deed" "check_deed" (top 58),
  HK.dOf a_fRep "repeated" "repeated" (top 68),
  HK.dOf a_fRd "renamed_deed" "renamed_deed" (top 34),
  HK.dOf a_fRpt "renamed_part" "renamed_part" (top 71),
  HK.dOf a_fCr "check_renames" "check_renames" (top 70),
  HK.dOf a_fPen "_law_pen" "_law_pen" (top 73),
  HK.dOf a_fDraw "_law_draw" "_law_draw" (top 74),
  HK.dOf a_fPick "_law_pick" "_law_pick" (top 75),
  HK.dOf a_fSome "_law_some" "_law_some" (top 76),
  HK.dOf a_fNames "_law_names" "_law_names" (top 77),
  HK.dOf a_fReal "_law_real_deed" "_law_real_deed" (top 78),
  HK.dOf a_fOr "_law_order" "_law_order" (top 79),
  HK.dOf a_fDs "_law_deeds" "_law_deeds" (top 80),
  HK.dOf a_fSi "_law_site" "_law_site" (top 81),
  HK.dOf a_fRp "_law_real_part" "_law_real_part" (top 82),
  HK.dOf a_fRl "_law_real" "_law_real" (top 83),
  HK.dOf a_fHeard "_law_heard" "_law_heard" (top 84),
  HK.dOf a_fAl "_law_all_names" "_law_all_names" (top 85),
  HK.dOf a_fLis "_law_is_name" "_law_is_name" (top 86),
  HK.dOf a_fDue "_law_due" "_law_due" (top 87),
  HK.dOf a_fLed "_law_led" "_law_led" (top 88),
  HK.dOf a_fTab "_law_table" "_law_table" (top 89),
  HK.dOf a_fLaw "law" "law" (top 90)]
def tf : List (HK.Fg → Addr) := [a_fLaw]
def ex (K : HK.Fg) : List Bool := [HK.eqV (PySem.W.nsIn K mainGlobals "int") (some none),
  HK.eqV (PySem.W.nsIn K mainGlobals "len") (some none),
  HK.eqV (PySem.W.nsIn K mainGlobals "abs") (some none),
  HK.eqV (PySem.W.nsIn K mainGlobals "list") (some none),
  HK.eqV (PySem.W.nsIn K mainGlobals "str") (some none),
  HK.eqV (PySem.W.nsIn K mainGlobals "tuple") (some none),
  HK.eqV (PySem.W.nsIn K mainGlobals "isinstance") (some none),
  HK.eqV (PySem.W.nsIn K mainGlobals "repr") (some none),
  HK.eqV (PySem.W.nsIn K mainGlobals "range") (some none),
  HK.eqV (PySem.W.nsIn K mainGlobals "enumerate") (some none),
  HK.eqV (PySem.W.nsIn K mainGlobals "ValueError") (some none),
  HK.eqV (PySem.W.nsIn K mainGlobals "set") (some none),
  HK.eqV (PySem.W.nsIn K mainGlobals "sorted") (some none),
  HK.eqV (PySem.W.nsIn K mainGlobals "min") (some none),
  HK.eqV (PySem.W.nsIn K mainGlobals "bool") (some none),
  HK.eqV (PySem.W.nsIn K mainGlobals "dict") (some none),
  HK.eqV (PySem.W.nsIn K mainGlobals "reversed") (some none),
  HK.eqV (PySem.W.nsIn K mainGlobals "max") (some none),
  HK.eqV (PySem.W.nsIn K mainGlobals "zip") (some none),
  HK.strB K "LETTERS" "abcdefghijklmnopqrstuvwxyz",
  HK.intB K "MOST_LETTERS" 6,
  HK.intB K "MOST_PRICE" 9,
  HK.intB K "MOST_AHEAD" 200,
  HK.intB K "MOST_IN_PART" 24,
  HK.intB K "MOST_NAMES" 6,
  HK.eqV (PySem.W.nsIn K mainGlobals "PARTS") (some (some (.ref (a_tPA K)))),
  HK.eqV (PySem.W.nsIn K mainGlobals "LOOPS") (some (some (.ref (a_tLO K)))),
  tupS K (a_tPA K) ["ahead", "loop", "between", "second", "behind"],
  tupS K (a_tLO K) ["loop", "second"],
  tupS K (a_t1 K) [],
  tupS K (a_t2 K) [],
  (HK.baseB K (a_CS K)).all id,
  (HK.errB K "BadName" "value" (a_c0 K) (a_i0 K) (a_CS K)).all id,
  (HK.errB K "BadDeed" "value" (a_c1 K) (a_i1 K) (a_CS K)).all id,
  (HK.errB K "BadNumber" "value" (a_c4 K) (a_i4 K) (a_CS K)).all id,
  (HK.errB K "Twice" "name" (a_c10 K) (a_i10 K) (a_CS K)).all id,
  (HK.errB K "TooMany" "most" (a_c11 K) (a_i11 K) (a_CS K)).all id,
  HK.eqB (PySem.W.kitOne K (.ref (a_c0 K)) (.ref (a_c10 K))) (some false),
  HK.eqB (PySem.W.kitOne K (.ref (a_c10 K)) (.ref (a_c0 K))) (some false),
  (HK.clsB K "Use" (a_dU K) (a_fU K)).all id,
  HK.eqV (PySem.W.findIn K (.ref (a_dU K)) "uses") (some none),
  HK.eqV (PySem.W.findIn K (.ref (a_dU K)) "makes") (some none),
  HK.eqV (PySem.W.findIn K (.ref (a_dU K)) "_names") (some none),
  HK.eqV (PySem.W.findIn K (.ref (a_dU K)) "names") (some (some (.ref (a_pNm K)))),
  HK.eqV (PySem.W.findIn K (.ref (a_dU K)) "room") (some (some (.ref (a_pRm K)))),
  HK.eqB (PySem.W.kitOne K (.ref (a_dU K)) (.ref (a_CD K))) (some true),
  HK.eqV (PySem.W.findIn K (.ref (a_dU K)) "__eq__") (some (some (.ref (a_fEq K)))),
  HK.eqV (PySem.W.findIn K (.ref (a_dU K)) "__ne__") (some (some (.builtin "object.__ne__"))),
  HK.eqV (PySem.W.findIn K (.ref (a_dU K)) "__class__") (some (some (.builtin "object.__class__"))),
  HK.eqB (PySem.W.mroIn K (a_dU K) (.type "object")) (some true),
  (HK.clsB K "Make" (a_dM K) (a_fM K)).all id,
  HK.eqV (PySem.W.findIn K (.ref (a_dM K)) "uses") (some none),
  HK.eqV (PySem.W.findIn K (.ref (a_dM K)) "makes") (some none),
  HK.eqV (PySem.W.findIn K (.ref (a_dM K)) "_names") (some none),
  HK.eqV (PySem.W.findIn K (.ref (a_dM K)) "names") (some (some (.ref (a_pNm K)))),
  HK.eqV (PySem.W.findIn K (.ref (a_dM K)) "room") (some (some (.ref (a_pRm K)))),
  HK.eqB (PySem.W.kitOne K (.ref (a_dM K)) (.ref (a_CD K))) (some true),
  HK.eqV (PySem.W.findIn K (.ref (a_dM K)) "__eq__") (some (some (.ref (a_fEq K)))),
  HK.eqV (PySem.W.findIn K (.ref (a_dM K)) "__ne__") (some (some (.builtin "object.__ne__"))),
  HK.eqV (PySem.W.findIn K (.ref (a_dM K)) "__class__") (some (some (.builtin "object.__class__"))),
  HK.eqB (PySem.W.mroIn K (a_dM K) (.type "object")) (some true),
  (HK.clsB K "Do" (a_dD K) (a_fD K)).all id,
  HK.eqV (PySem.W.findIn K (.ref (a_dD K)) "uses") (some none),
  HK.eqV (PySem.W.findIn K (.ref (a_dD K)) "makes") (some none),
  HK.eqV (PySem.W.findIn K (.ref (a_dD K)) "_names") (some none),
  HK.eqV (PySem.W.findIn K (.ref (a_dD K)) "names") (some (some (.ref (a_pNm K)))),
  HK.eqV (PySem.W.findIn K (.ref (a_dD K)) "room") (some (some (.ref (a_pRm K)))),
  HK.eqB (PySem.W.kitOne K (.ref (a_dD K)) (.ref (a_CD K))) (some true),
  HK.eqV (PySem.W.findIn K (.ref (a_dD K)) "__eq__") (some (some (.ref (a_fEq K)))),
  HK.eqV (PySem.W.findIn K (.ref (a_dD K)) "__ne__") (some (some (.builtin "object.__ne__"))),
  HK.eqV (PySem.W.findIn K (.ref (a_dD K)) "__class__") (some (some (.builtin "object.__class__"))),
  HK.eqB (PySem.W.mroIn K (a_dD K) (.type "object")) (some true),
  (HK.clsB K "Program" (a_cP K) (a_fP K)).all id,
  HK.eqV (PySem.W.findIn K (.ref (a_cP K)) "_names") (some none),
  HK.eqV (PySem.W.findIn K (.ref (a_cP K)) "_parts") (some none),
  HK.eqV (PySem.W.findIn K (.ref (a_cP K)) "_given") (some none),
  HK.eqV (PySem.W.findIn K (.ref (a_cP K)) "_again") (some none),
  HK.eqV (PySem.W.findIn K (.ref (a_cP K)) "_results") (some none),
  HK.eqV (PySem.W.findIn K (.ref (a_cP K)) "__eq__") (some (some (.ref (a_fPE K)))),
  HK.eqV (PySem.W.findIn K (.ref (a_cP K)) "__ne__") (some (some (.builtin "object.__ne__"))),
  HK.eqV (PySem.W.findIn K (.ref (a_cP K)) "__class__") (some (some (.builtin "object.__class__"))),
  HK.eqB (PySem.W.mroIn K (a_cP K) (.type "object")) (some true),
  HK.eqV (PySem.W.findIn K (.ref (a_cP K)) "ahead") (some (some (.ref (a_p0 K)))),
  HK.eqV (PySem.W.findIn K (.ref (a_cP K)) "loop") (some (some (.ref (a_p1 K)))),
  HK.eqV (PySem.W.findIn K (.ref (a_cP K)) "between") (some (some (.ref (a_p2 K)))),
  HK.eqV (PySem.W.findIn K (.ref (a_cP K)) "second") (some (some (.ref (a_p3 K)))),
  HK.eqV (PySem.W.findIn K (.ref (a_cP K)) "behind") (some (some (.ref (a_p4 K)))),
  HK.eqV (PySem.W.findIn K (.ref (a_cP K)) "given") (some (some (.ref (a_p5 K)))),
  HK.eqV (PySem.W.findIn K (.ref (a_cP K)) "again") (some (some (.ref (a_p6 K)))),
  HK.eqV (PySem.W.findIn K (.ref (a_cP K)) "results") (some (some (.ref (a_p7 K)))),
  HK.eqV (PySem.W.findIn K (.ref (a_cP K)) "names") (some (some (.ref (a_p8 K)))),
  HK.eqV (PySem.W.findIn K (.ref (a_cP K)) "loops") (some (some (.ref (a_p9 K)))),
  HK.eqV (PySem.W.findIn K (.ref (a_cP K)) "room") (some (some (.ref (a_p10 K)))),
  HK.eqV (PySem.W.specialIn K (.ref (a_pNm K)) "__get__") (some (some (.builtin "property.__get__"))),
  HK.eqB (PySem.W.takesIn K (.ref (a_pNm K))) (some true),
  HK.recB K (a_pNm K) "property" (a_fNm K),
  HK.eqV (PySem.W.specialIn K (.ref (a_pRm K)) "__get__") (some (some (.builtin "property.__get__"))),
  HK.eqB (PySem.W.takesIn K (.ref (a_pRm K))) (some true),
  HK.recB K (a_pRm K) "property" (a_fRm K),
  HK.eqV (PySem.W.specialIn K (.ref (a_p0 K)) "__get__") (some (some (.builtin "property.__get__"))),
  HK.eqB (PySem.W.takesIn K (.ref (a_p0 K))) (some true),
  HK.recB K (a_p0 K) "property" (a_g0 K),
  HK.eqV (PySem.W.specialIn K (.ref (a_p1 K)) "__get__") (some (some (.builtin "property.__get__"))),
  HK.eqB (PySem.W.takesIn K (.ref (a_p1 K))) (some true),
  HK.recB K (a_p1 K) "property" (a_g1 K),
  HK.eqV (PySem.W.specialIn K (.ref (a_p2 K)) "__get__") (some (some (.builtin "property.__get__"))),
  HK.eqB (PySem.W.takesIn K (.ref (a_p2 K))) (some true),
  HK.recB K (a_p2 K) "property" (a_g2 K),
  HK.eqV (PySem.W.specialIn K (.ref (a_p3 K)) "__get__") (some (some (.builtin "property.__get__"))),
  HK.eqB (PySem.W.takesIn K (.ref (a_p3 K))) (some true),
  HK.recB K (a_p3 K) "property" (a_g3 K),
  HK.eqV (PySem.W.specialIn K (.ref (a_p4 K)) "__get__") (some (some (.builtin "property.__get__"))),
  HK.eqB (PySem.W.takesIn K (.ref (a_p4 K))) (some true),
  HK.recB K (a_p4 K) "property" (a_g4 K),
  HK.eqV (PySem.W.specialIn K (.ref (a_p5 K)) "__get__") (some (some (.builtin "property.__get__"))),
  HK.eqB (PySem.W.takesIn K (.ref (a_p5 K))) (some true),
  HK.recB K (a_p5 K) "property" (a_g5 K),
  HK.eqV (PySem.W.specialIn K (.ref (a_p6 K)) "__get__") (some (some (.builtin "property.__get__"))),
  HK.eqB (PySem.W.takesIn K (.ref (a_p6 K))) (some true),
  HK.recB K (a_p6 K) "property" (a_g6 K),
  HK.eqV (PySem.W.specialIn K (.ref (a_p7 K)) "__get__") (some (some (.builtin "property.__get__"))),
  HK.eqB (PySem.W.takesIn K (.ref (a_p7 K))) (some true),
  HK.recB K (a_p7 K) "property" (a_g7 K),
  HK.eqV (PySem.W.specialIn K (.ref (a_p8 K)) "__get__") (some (some (.builtin "property.__get__"))),
  HK.eqB (PySem.W.takesIn K (.ref (a_p8 K))) (some true),
  HK.recB K (a_p8 K) "property" (a_g8 K),
  HK.eqV (PySem.W.specialIn K (.ref (a_p9 K)) "__get__") (some (some (.builtin "property.__get__"))),
  HK.eqB (PySem.W.takesIn K (.ref (a_p9 K))) (some true),
  HK.recB K (a_p9 K) "property" (a_g9 K),
  HK.eqV (PySem.W.specialIn K (.ref (a_p10 K)) "__get__") (some (some (.builtin "property.__get__"))),
  HK.eqB (PySem.W.takesIn K (.ref (a_p10 K))) (some true),
  HK.recB K (a_p10 K) "property" (a_g10 K),
  HK.eqV (PySem.W.findIn K (.ref (a_cP K)) "straight") (some (some (.ref (a_fSt K)))),
  (PySem.W.isFn K (.ref (a_fSt K))),
  HK.eqV (PySem.W.findIn K (.ref (a_cP K)) "renamed") (some (some (.ref (a_fRn K)))),
  (PySem.W.isFn K (.ref (a_fRn K))),
  (PySem.W.isFn K (.ref (a_fEq K))),
  (PySem.W.isFn K (.ref (a_fPE K))),
  (PySem.W.notFirst K (a_cP K) (.ref (a_cP K))),
  HK.eqV (PySem.W.nsIn K mainGlobals "Deed") (some (some (.ref (a_CD K)))),
  (HK.rdB K (a_CD K)).all id,
  HK.cvalI K (a_CD K) "MOST" 3,
  HK.eqV (PySem.W.nsIn K mainGlobals "is_name") (some (some (.ref (a_fIs K)))),
  HK.eqV (PySem.W.nsIn K mainGlobals "is_number") (some (some (.ref (a_fNum K)))),
  HK.eqV (PySem.W.nsIn K mainGlobals "is_count") (some (some (.ref (a_fCnt K)))),
  HK.eqV (PySem.W.nsIn K mainGlobals "is_price") (some (some (.ref (a_fPri K)))),
  HK.eqV (PySem.W.nsIn K mainGlobals "check_names") (some (some (.ref (a_fCns K)))),
  HK.eqV (PySem.W.nsIn K mainGlobals "check_unlike") (some (some (.ref (a_fCun K)))),
  HK.eqV (PySem.W.nsIn K mainGlobals "ascending") (some (some (.ref (a_fAsc K)))),
  HK.eqV (PySem.W.nsIn K mainGlobals "check_used") (some (some (.ref (a_fCus K)))),
  HK.eqV (PySem.W.nsIn K mainGlobals "check_parts") (some (some (.ref (a_fCp K)))),
  HK.eqV (PySem.W.nsIn K mainGlobals "check_sizes") (some (some (.ref (a_fCz K)))),
  HK.eqV (PySem.W.nsIn K mainGlobals "check_told_names") (some (some (.ref (a_fCt K)))),
  HK.eqV (PySem.W.nsIn K mainGlobals "all_names") (some (some (.ref (a_fAn K)))),
  HK.eqV (PySem.W.nsIn K mainGlobals "check_values") (some (some (.ref (a_fCv K)))),
  HK.eqV (PySem.W.nsIn K mainGlobals "check_deed_partchecks") (some (some (.ref (a_fCd K)))),
  HK.eqV (PySem.W.nsIn K mainGlobals "repeated") (some (some (.ref (a_fRep K)))),
  HK.eqV (PySem.W.nsIn K mainGlobals "renamed_deed") (some (some (.ref (a_fRd K)))),
  HK.eqV (PySem.W.nsIn K mainGlobals "renamed_part") (some (some (.ref (a_fRpt K)))),
  HK.eqV (PySem.W.nsIn K mainGlobals "check_renames") (some (some (.ref (a_fCr K)))),
  HK.eqV (PySem.W.nsIn K mainGlobals "_law_pen") (some (some (.ref (a_fPen K)))),
  HK.eqV (PySem.W.nsIn K mainGlobals "_law_draw") (some (some (.ref (a_fDraw K)))),
  HK.eqV (PySem.W.nsIn K mainGlobals "_law_pick") (some (some (.ref (a_fPick K)))),
  HK.eqV (PySem.W.nsIn K mainGlobals "_law_some") (some (some (.ref (a_fSome K)))),
  HK.eqV (PySem.W.nsIn K mainGlobals "_law_names") (some (some (.ref (a_fNames K)))),
  HK.eqV (PySem.W.nsIn K mainGlobals "_law_real_deed") (some (some (.ref (a_fReal K)))),
  HK.eqV (PySem.W.nsIn K mainGlobals "_law_order") (some (some (.ref (a_fOr K)))),
  HK.eqV (PySem.W.nsIn K mainGlobals "_law_deeds") (some (some (.ref (a_fDs K)))),
  HK.eqV (PySem.W.nsIn K mainGlobals "_law_site") (some (some (.ref (a_fSi K)))),
  HK.eqV (PySem.W.nsIn K mainGlobals "_law_real_part") (some (some (.ref (a_fRp K)))),
  HK.eqV (PySem.W.nsIn K mainGlobals "_law_real") (some (some (.ref (a_fRl K)))),
  HK.eqV (PySem.W.nsIn K mainGlobals "_law_heard") (some (some (.ref (a_fHeard K)))),
  HK.eqV (PySem.W.nsIn K mainGlobals "_law_all_names") (some (some (.ref (a_fAl K)))),
  HK.eqV (PySem.W.nsIn K mainGlobals "_law_is_name") (some (some (.ref (a_fLis K)))),
  HK.eqV (PySem.W.nsIn K mainGlobals "_law_due") (some (some (.ref (a_fDue K)))),
  HK.eqV (PySem.W.nsIn K mainGlobals "_law_led") (some (some (.ref (a_fLed K)))),
  HK.eqV (PySem.W.nsIn K mainGlobals "_law_table") (some (some (.ref (a_fTab K)))),
  HK.eqV (PySem.W.nsIn K mainGlobals "law") (some (some (.ref (a_fLaw K))))]
def as_ : List Addr := [3, 2, 6, 4, 21, 38, 58, 77, 96, 115, 134, 153, 172, 191, 210, 222, 234, 253, 262, 269, 276, 283, 290, 297, 304, 354, 375, 394, 413, 422, 429, 434, 435, 443, 450, 457, 464, 471, 478, 485, 543, 492, 499, 500, 501, 508, 515, 522, 529, 536, 550, 557, 562, 567, 761, 772, 779, 786, 793, 798, 805, 812, 819, 824, 831, 838, 845, 852, 857, 862, 867, 874, 879, 884, 889, 894, 901, 906, 0, 20, 37, 57, 76, 95, 114, 133, 152, 171, 190, 209, 221, 233, 252, 261, 268, 275, 282, 289, 296, 303, 353, 374, 393, 412, 421, 428, 433, 436, 437, 438, 442, 449, 456, 463, 470, 477, 484, 542, 491, 498, 507, 514, 521, 528, 535, 549, 556, 561, 566, 760, 771, 778, 785, 792, 797, 804, 811, 818, 823, 830, 837, 844, 851, 856, 861, 866, 873, 878, 883, 888, 893, 900, 905, 15, 16, 17, 18, 19, 35, 36, 39, 55, 56, 74, 75, 93, 94, 112, 113, 131, 132, 150, 151, 169, 170, 188, 189, 207, 208, 220, 232, 250, 251, 256, 257, 258, 259, 260, 263, 264, 265, 266, 267, 270, 271, 272, 273, 274, 277, 278, 279, 280, 281, 284, 285, 286, 287, 288, 291, 292, 293, 294, 295, 298, 299, 300, 301, 302, 319, 327, 336, 344, 351, 352, 355, 356, 372, 373, 391, 392, 410, 411, 416, 417, 418, 419, 420, 423, 424, 425, 426, 427, 430, 431, 432, 439, 440, 441, 444, 445, 446, 447, 448, 451, 452, 453, 454, 455, 458, 459, 460, 461, 462, 465, 466, 467, 468, 469, 472, 473, 474, 475, 476, 479, 480, 481, 482, 483, 537, 538, 539, 540, 541, 486, 487, 488, 489, 490, 493, 494, 495, 496, 497, 502, 503, 504, 505, 506, 509, 510, 511, 512, 513, 516, 517, 518, 519, 520, 523, 524, 525, 526, 527, 530, 531, 532, 533, 534, 544, 545, 546, 547, 548, 551, 552, 553, 554, 555, 558, 559, 560, 563, 564, 565, 588, 596, 604, 612, 620, 628, 636, 644, 652, 660, 666, 672, 679, 686, 693, 700, 708, 715, 722, 729, 734, 743, 751, 758, 759, 762, 763, 766, 767, 768, 769, 770, 773, 774, 775, 776, 777, 780, 781, 782, 783, 784, 787, 788, 789, 790, 791, 794, 795, 796, 799, 800, 801, 802, 803, 806, 807, 808, 809, 810, 813, 814, 815, 816, 817, 820, 821, 822, 825, 826, 827, 828, 829, 832, 833, 834, 835, 836, 839, 840, 841, 842, 843, 846, 847, 848, 849, 850, 853, 854, 855, 858, 859, 860, 863, 864, 865, 868, 869, 870, 871, 872, 875, 876, 877, 880, 881, 882, 885, 886, 887, 890, 891, 892, 895, 896, 897, 898, 899, 902, 903, 904, 34, 54, 73, 92, 111, 130, 149, 168, 187, 206, 249, 318, 326, 334, 335, 343, 350, 371, 390, 409, 587, 580, 581, 595, 603, 611, 619, 627, 635, 643, 651, 659, 665, 671, 678, 685, 692, 699, 707, 701, 714, 721, 728, 733, 741, 742, 750, 757, 29, 30, 31, 32, 33, 49, 50, 51, 52, 53, 68, 69, 70, 71, 72, 87, 88, 89, 90, 91, 106, 107, 108, 109, 110, 125, 126, 127, 128, 129, 144, 145, 146, 147, 148, 163, 164, 165, 166, 167, 182, 183, 184, 185, 186, 201, 202, 203, 204, 205, 244, 245, 246, 247, 248, 317, 325, 333, 337, 338, 339, 340, 341, 342, 345, 346, 347, 348, 349, 366, 367, 368, 369, 370, 385, 386, 387, 388, 389, 404, 405, 406, 407, 408, 582, 583, 584, 585, 586, 575, 576, 577, 578, 579, 594, 602, 610, 618, 626, 634, 642, 650, 658, 664, 670, 673, 674, 675, 676, 677, 680, 681, 682, 683, 684, 687, 688, 689, 690, 691, 694, 695, 696, 697, 698, 702, 703, 704, 705, 706, 709, 710, 711, 712, 713, 716, 717, 718, 719, 720, 723, 724, 725, 726, 727, 730, 731, 732, 740, 744, 745, 746, 747, 748, 749, 752, 753, 754, 755, 756, 312, 313, 314, 315, 316, 320, 321, 322, 323, 324, 328, 329, 330, 331, 332, 589, 590, 591, 592, 593, 597, 598, 599, 600, 601, 605, 606, 607, 608, 609, 613, 614, 615, 616, 617, 621, 622, 623, 624, 625, 629, 630, 631, 632, 633, 637, 638, 639, 640, 641, 645, 646, 647, 648, 649, 653, 654, 655, 656, 657, 661, 662, 663, 667, 668, 669, 735, 736, 737, 738, 739]
abbrev R : OpenRow := OpenLaw.row PySem.Challenge.rw_loopstow_k07_programs_renamed
def loose : List PySem.Str := (["_wall", "StowError", "BadName", "BadDeed", "BadNumber", "BadPrice", "BadPart", "Twice", "TooMany", "Unmade", "MadeAgain", "NoLoop", "TwoLoops", "BadText", "LETTERS", "DIGITS", "MOST_LETTERS", "MOST_PRICE", "is_name", "is_number", "is_count", "is_price", "check_names", "check_unlike", "ascending", "Deed", "Use", "Make", "Do", "check_used"] : List PySem.Str) ++ (["deed_of", "renamed_deed", "DEED_FORMS", "program_of_text", "begins", "read_names", "read_again", "read_parts", "read_loop", "read_deeds", "check_deed", "check_deed_parsing", "check_length", "PARTS", "LOOPS", "MOST_AHEAD", "MOST_IN_PART", "MOST_NAMES", "check_parts", "check_sizes", "check_told_names", "all_names", "check_values", "check_deed_partchecks", "show_program", "names_line", "again_lines", "deed_lines", "Program", "check_one_loop"] : List PySem.Str) ++ (["repeated", "with_parts", "check_renames", "renamed_part", "_law_pen", "_law_draw", "_law_pick", "_law_some", "_law_names", "_law_real_deed", "_law_order", "_law_deeds", "_law_site", "_law_real_part", "_law_real", "_law_heard", "_law_all_names", "_law_is_name", "_law_due", "_law_led", "_law_table"] : List PySem.Str)
abbrev hk : Hook := HK.hook as_ fns tf ex
def ob (s : SharedT) : HK.Al := HK.obs as_ fns tf ex (HandSHeadRun.getT s)
theorem runF (w : World) : HandSHeadRun.RunEq R (view R.prog [90]) hk ob 20000 loose (w.withFollow "special-get-raises" false) := by
  intro os
  kernel_rfl
theorem runT (w : World) : HandSHeadRun.RunEq R (view R.prog [90]) hk ob 20000 loose (w.withFollow "special-get-raises" true) := by
  intro os
  kernel_rfl
theorem run (w : World) : HandSHeadRun.RunEq R (view R.prog [90]) hk ob 20000 loose w := byRow2 "special-get-raises" (P := fun w => HandSHeadRun.RunEq R (view R.prog [90]) hk ob 20000 loose w) runF runT w
end K07H
set_option Elab.async false
set_option linter.all false
set_option maxRecDepth 100000
set_option maxHeartbeats 4000000
namespace K07
open PySem L2
def top (i : Nat) : Stmt := PySem.Challenge.pw_loopstow_k07_programs_renamed.main.body.getD i (.Pass ⟨0, 0, 0, 0⟩)
abbrev sPen : Stmt := top 73
abbrev sDraw : Stmt := top 74
abbrev sPick : Stmt := top 75
/-- the pen at p: its cells at c, how many cells are read, what is left of a great cell -/
structure Pen (H : Hp) (p c : Addr) (ns : List Int) (at_ rest : Int) : Prop where
  hp : H p = some (.lst [.ref c, .int at_, .int rest])
  hc : H c = some (.lst (ns.map V.int))
  la : 0 ≤ at_
  lr : 0 ≤ rest
theorem Pen.ne {H : Hp} {p c : Addr} {ns : List Int} {at_ rest : Int} (P : Pen H p c ns at_ rest) : c ≠ p := fun e => by
  have h1 := P.hp
  rw [← e, P.hc] at h1
  have h2 : ns.map V.int = [.ref c, .int at_, .int rest] := by injection h1 with h; injection h
  cases ns with
  | nil => cases h2
  | cons a r => simp at h2
/-- all but what stands at p is as it was -/
def But (p : Addr) (H H' : Hp) : Prop := ∀ b o, H b = some o → b ≠ p → H' b = some o
/-- what a draw leaves -/
def Drawn (H : Hp) (p c : Addr) (ns : List Int) (m : Int) (H' : Hp) : Prop := ∃ at' rest', Pen H' p c ns at' rest' ∧ at' ≤ m ∧ But p H H'
def spDraw : Sp := fun vs H Q _ => ∃ (p c : Addr) (ns : List Int) (at_ rest many : Int), vs = [.ref p, .int many] ∧ Pen H p c ns at_ rest ∧ at_ ≤ 1000000 ∧ 1 ≤ many ∧ many < 1073741824 ∧
  ∀ d H', 0 ≤ d → d < many → Drawn H p c ns (at_ + 1) H' → Q (.int d) H'
theorem scDraw : FnScope ["_law_pen_here", "_law_many", "_law_digit", "_law_at", "_law_cell", "_law_great", "_law_mixed"] ["_law_pen_here", "_law_many"] (defScope sDraw) := ⟨rfl, rfl, rfl, by decide +kernel, rfl, by decide +kernel, by decide +kernel⟩
theorem dpInts {K : PySem.W.Frag} {H : Hp} : ∀ ns : List Int, DpAll K H (ns.map V.int) (ns.map PyData.int)
  | [] => .nil
  | n :: r => .cons (.int n) (dpInts r)
structure TxtB (mg : Str → Option Value) : Prop where
  bint : mg "int" = none
  blen : mg "len" = none
  babs : mg "abs" = none
  blist : mg "list" = none
  bstr : mg "str" = none
  btuple : mg "tuple" = none
  bisinstance : mg "isinstance" = none
  brepr : mg "repr" = none
  brange : mg "range" = none
  benumerate : mg "enumerate" = none
  bVE : mg "ValueError" = none
section
variable {P : Program} {w : World} {K : PySem.W.Frag} {mg : Str → Option Value} {base : Heap}
theorem ok_draw {f : Addr} {fd : FuncData} (F : Fun K "_law_draw" "_law_draw" sDraw f fd) (T : TxtB mg) : FnOk P w K mg base CX0 1 f fd ["_law_pen_here", "_law_many"] spDraw := by
  refine F.ok scDraw (fun vs H Q E h => ?_) (fun cdv A outer s H vs Q E hr h => ?_)
  · obtain ⟨p, c, ns, a, r, m, rfl, _⟩ := h
    rfl
  · obtain ⟨p, c, ns, at_, rest, many, rfl, Pn, ha, hm1, hm2, k⟩ := h
    have hu := hu_of hr
    refine ⟨_, (pss_cons (ps_if (pt_cmpR op_gt (pe_ix ix_list (pv 0) pe_int (fun _ _ => rfl)) pe_int (nomark _)) (pss_cons (ps_set (i := 2) scDraw.nd rfl (Or.inl rfl) (pe_op op_mod (pe_callTy call_int1 (by rfl) T.bint (by decide +kernel) (pa_cons (pe_ix ix_list (pv 0) pe_int (fun _ _ => rfl)) pa_nil)) (pv 1)))
      (pss_cons (ps_asg (pe_op op_fdiv (pe_callTy call_int1 (by rfl) T.bint (by decide +kernel) (pa_cons (pe_ix ix_list (pv 0) pe_int (fun _ _ => rfl)) pa_nil)) (pv 1)) (pg_sub (pv 0) pe_int set_list))
      (pss_one (ps_ret (pv 2))))) pss_nil)
      (pss_cons (ps_set (i := 3) scDraw.nd rfl (Or.inl rfl) (pe_ix ix_list (pv 0) pe_int (fun _ _ => rfl)))
      (pss_cons (ps_asg (pe_op op_add (pv 3) pe_int) (pg_sub (pv 0) pe_int set_list))
      (pss_cons (ps_set (i := 4) scDraw.nd rfl (Or.inl rfl) (pe_op op_add (pe_op op_mul pe_int (pv 3)) pe_int))
      (C8.pss_cut (ps_if (pt_cmpR (op_neD hr.units) (pe_ix ix_list (pv 0) pe_int (fun _ _ => rfl)) (pe_lst pa_nil) (nomark _)) (pss_one (ps_set (i := 4) scDraw.nd rfl (Or.inl rfl) (pe_ix ix_list (pe_ix ix_list (pv 0) pe_int (fun _ _ => rfl)) (pe_op op_mod (pe_callTy call_int1 (by rfl) T.bint (by decide +kernel) (pa_cons (pv 3) pa_nil)) (pe_callB call_len_seq (by rfl) T.blen (by decide +kernel) (pa_cons (pe_ix ix_list (pv 0) pe_int (fun _ _ => rfl)) pa_nil))) (fun _ _ => rfl)))) pss_nil)
      (C8.pss_cut (ps_if (PW.pt (pw_and (pt_cmpR op_lt (pv 3) (pe_callB call_len_seq (by rfl) T.blen (by decide +kernel) (pa_cons (pe_ix ix_list (pv 0) pe_int (fun _ _ => rfl)) pa_nil)) (nomark _)) (pw_and1 (pt_cmpR op_ge (pe_callB call_abs (by rfl) T.babs (by decide +kernel) (pa_cons (pv 4) pa_nil)) (pe_op op_pow pe_int pe_int) (nomark _))))) (pss_cons (ps_set (i := 5) scDraw.nd rfl (Or.inl rfl) (pe_op op_add (pe_op op_mul pe_int (pe_op op_sub (pe_callB call_abs (by rfl) T.babs (by decide +kernel) (pa_cons (pv 4) pa_nil)) (pe_op op_pow pe_int pe_int))) (pe_callTy call_int1 (by rfl) T.bint (by decide +kernel) (pa_cons (pe_cmpR op_lt (pv 4) pe_int (nomark _)) pa_nil))))
      (pss_cons (ps_asg (pe_op op_fdiv (pe_callTy call_int1 (by rfl) T.bint (by decide +kernel) (pa_cons (pv 5) pa_nil)) (pv 1)) (pg_sub (pv 0) pe_int set_list))
      (pss_one (ps_ret (pe_op op_mod (pe_callTy call_int1 (by rfl) T.bint (by decide +kernel) (pa_cons (pv 5) pa_nil)) (pv 1)))))) pss_nil)
      (pss_cons (ps_set (i := 6) scDraw.nd rfl (Or.inl rfl) (pe_op op_mod (pe_callTy call_int1 (by rfl) T.bint (by decide +kernel) (pa_cons (pe_op op_pow (pe_op op_add (pe_op op_add (pe_op op_mod (pe_callTy call_int1 (by rfl) T.bint (by decide +kernel) (pa_cons (pv 4) pa_nil)) pe_int) (pe_op op_mul pe_int (pv 3))) pe_int) pe_int) pa_nil)) pe_int))
      (pss_cons (ps_set (i := 6) scDraw.nd rfl (Or.inl rfl) (pe_op op_mod (pe_callTy call_int1 (by rfl) T.bint (by decide +kernel) (pa_cons (pe_op op_pow (pe_op op_add (pe_op op_add (pe_op op_mul (pv 6) (pe_op op_add (pe_op op_mul pe_int (pv 3)) pe_int)) (pe_op op_mul (pe_op op_mul pe_int (pv 3)) (pv 3))) pe_int) pe_int) pa_nil)) pe_int))
      (pss_one (ps_ret (pe_op op_mod (pe_callTy call_int1 (by rfl) T.bint (by decide +kernel) (pa_cons (pe_op op_fdiv (pv 6) pe_int) pa_nil)) (pv 1)))))))))))), ?_⟩
    -- pen[2] > 0
    refine ⟨_, rfl, p, _, _, _, rfl, rfl, SqL.of Pn.hp, rfl, rest, 0, rfl, rfl, _, rfl, ite2 (fun h0 => ?_) (fun h0 => ?_)⟩
    · have hr0 : 0 < rest := of_decide_eq_true h0
      refine ⟨_, rfl, p, _, _, _, rfl, rfl, SqL.of Pn.hp, rfl, .inl ⟨rest, rfl, _, rfl, rest, many, rfl, rfl, (by show 0 < many; omega), ?_⟩⟩
      refine ⟨_, rfl, p, _, _, _, rfl, rfl, SqL.of Pn.hp, rfl, .inl ⟨rest, rfl, _, rfl, rest, many, rfl, rfl, ⟨by omega, by omega⟩, ?_⟩⟩
      refine ⟨_, rfl, p, _, _, _, rfl, rfl, Pn.hp, rfl, _, rfl, ?_⟩
      refine k _ _ (Int.emod_nonneg _ (by omega)) (Int.emod_lt_of_pos _ (by omega)) ⟨at_, rest / many, ⟨upd_same, by rw [upd_ne Pn.ne]; exact Pn.hc, Pn.la, Int.ediv_nonneg Pn.lr (by omega)⟩, by omega, fun b o hb hn => by rw [upd_ne hn]; exact hb⟩
    · -- at = pen[1]; pen[1] = at + 1
      refine ⟨_, rfl, p, _, _, _, rfl, rfl, SqL.of Pn.hp, rfl, ?_⟩
      refine ⟨_, rfl, at_, 1, rfl, rfl, _, rfl, p, _, _, _, rfl, rfl, Pn.hp, rfl, ?_⟩
      have P1 : Pen (upd H p (.lst [.ref c, .int (at_ + 1), .int rest])) p c ns (at_ + 1) rest := ⟨upd_same, by rw [upd_ne Pn.ne]; exact Pn.hc, by have := Pn.la; omega, Pn.lr⟩
      have B1 : But p H (upd H p (.lst [.ref c, .int (at_ + 1), .int rest])) := fun b o hb hn => by rw [upd_ne hn]; exact hb
      -- cell = ..
      refine ⟨_, rfl, _, at_, rfl, rfl, .inl ⟨by decide, by decide⟩, _, _, rfl, rfl, ?_⟩
      refine ⟨fun σ H' => ∃ (cell : Int) (v2 v5 v6 : Option V), σ = [some (.ref p), some (.int many), v2, some (.int at_), some (.int cell), v5, v6] ∧ Pen H' p c ns (at_ + 1) rest ∧ But p H H', ?_, ?_⟩
      · -- if pen[0] != []
        refine ⟨_, rfl, p, _, _, _, rfl, rfl, SqL.of P1.hp, rfl, by decide, fun l hl => ?_⟩
        have npl : p ≠ l := ne_of_none P1.hp hl
        have ncl : c ≠ l := ne_of_none P1.hc hl
        have P2 : Pen (upd (upd H p (.lst [.ref c, .int (at_ + 1), .int rest])) l (.lst [])) p c ns (at_ + 1) rest := ⟨by rw [upd_ne npl]; exact P1.hp, by rw [upd_ne ncl]; exact P1.hc, P1.la, P1.lr⟩
        have B2 : But p H (upd (upd H p (.lst [.ref c, .int (at_ + 1), .int rest])) l (.lst [])) := fun b o hb hn => by
          rw [upd_ne (ne_of_none (B1 b o hb hn) hl)]
          exact B1 b o hb hn
        refine ⟨_, _, .lst (SqL.of P2.hc) (dpInts ns), .lst (SqL.of upd_same) .nil, PySem.W.ke_shaped_ints ns, by decide +kernel, _, rfl, ?_⟩
        cases ns with
        | nil => exact iteF ⟨_, none, none, none, rfl, P2, B2⟩
        | cons n0 nr =>
          refine iteT ?_
          refine ⟨_, rfl, p, _, _, _, rfl, rfl, SqL.of P2.hp, rfl, _, rfl, .inl ⟨at_, rfl, _, rfl, p, _, _, _, rfl, rfl, SqL.of P2.hp, rfl, c, _, rfl, .inl (SqL.of P2.hc), at_, _, rfl, rfl, (by simp), ?_⟩⟩
          have hpos : (0 : Int) < (((n0 :: nr).map V.int).length : Int) := by simp
          have h1 := Int.emod_nonneg at_ (Int.ne_of_gt hpos)
          have h2 := Int.emod_lt_of_pos at_ hpos
          obtain ⟨j, hj⟩ := Int.eq_ofNat_of_zero_le h1
          have hjl : j < (n0 :: nr).length := by rw [hj] at h2; simp at h2 ⊢; omega
          refine ⟨c, _, _, .int ((n0 :: nr)[j]'hjl), rfl, rfl, SqL.of P2.hc, ?_, ?_⟩
          · rw [hj]
            exact atI_nat (by rw [List.getElem?_map, List.getElem?_eq_getElem hjl]; rfl)
          · exact ⟨_, none, none, none, rfl, P2, B2⟩
      · rintro σ' H' ⟨cell, v2, v5, v6, rfl, P2, B2⟩
        have hla := Pn.la
        have fin : ∀ (H2 : Hp) (x : Int), Drawn H p c ns (at_ + 1) H2 → Q (.int (x % many)) H2 := fun H2 x hd => k _ _ (Int.emod_nonneg _ (by omega)) (Int.emod_lt_of_pos _ (by omega)) hd
        have D2 : Drawn H p c ns (at_ + 1) H' := ⟨_, _, P2, by omega, B2⟩
        have m1 := Int.emod_nonneg cell (show (2147483563 : Int) ≠ 0 by decide)
        have m2 := Int.emod_lt_of_pos cell (show (0 : Int) < 2147483563 by decide)
        refine ⟨fun σ H2 => σ = [some (.ref p), some (.int many), v2, some (.int at_), some (.int cell), v5, v6] ∧ H2 = H', ?_, ?_⟩
        · -- at < len(pen[0]) and abs(cell) >= 10 ** 18
          refine ⟨_, rfl, _, rfl, p, _, _, _, rfl, rfl, SqL.of P2.hp, rfl, c, _, rfl, .inl (SqL.of P2.hc), at_, _, rfl, rfl, _, rfl, ?_⟩
          refine ite2 (fun hlt => ?_) (fun hlt => iteF ⟨rfl, rfl⟩)
          refine ⟨_, rfl, cell, rfl, 10, 18, rfl, rfl, ⟨by decide, by decide, by decide⟩, _, _, rfl, rfl, _, rfl, ?_⟩
          refine ite2 (fun hge => ?_) (fun hge => ⟨rfl, rfl⟩)
          have hge := of_decide_eq_true hge
          have h3 : (1000000000000000000 : Int) ≤ if cell < 0 then -cell else cell := hge
          refine ⟨_, rfl, cell, rfl, 10, 18, rfl, rfl, ⟨by decide, by decide, by decide⟩, _, _, rfl, rfl, 2, _, rfl, rfl, .inl ⟨by decide, by decide⟩, _, rfl, cell, 0, rfl, rfl, .inr ⟨_, rfl, _, _, rfl, rfl, ?_⟩⟩
          refine ⟨_, rfl, .inl ⟨_, rfl, _, rfl, _, many, rfl, rfl, ⟨by omega, by omega⟩, _, rfl, p, _, _, _, rfl, rfl, P2.hp, rfl, ?_⟩⟩
          refine ⟨_, rfl, .inl ⟨_, rfl, _, rfl, _, many, rfl, rfl, (by show 0 < many; omega), ?_⟩⟩
          refine fin _ _ ⟨at_ + 1, _, ⟨upd_same, by rw [upd_ne Pn.ne]; exact P2.hc, P2.la, Int.ediv_nonneg ?_ (by omega)⟩, by omega, fun b o hb hn => by rw [upd_ne hn]; exact B2 b o hb hn⟩
          have h4 : (0 : Int) ≤ if decide (cell < 0) = true then 1 else 0 := by split <;> omega
          show (0 : Int) ≤ 2 * ((if cell < 0 then -cell else cell) - 1000000000000000000) + (if decide (cell < 0) = true then 1 else 0)
          omega
        · rintro σ2 H2 ⟨rfl, rfl⟩
          -- mixed, twice
          refine ⟨_, rfl, .inl ⟨cell, rfl, cell, _, rfl, rfl, (by show (0 : Int) < 2147483563; decide), _, rfl, _, at_, rfl, rfl, .inl ⟨by decide, by decide⟩, _, _, rfl, rfl, _, _, rfl, rfl, _, 3, rfl, rfl, ⟨by decide, by decide, ?_⟩, .inl ⟨_, rfl, _, _, rfl, rfl, (by show (0 : Int) < 2147483629; decide), ?_⟩⟩⟩
          · show (cell % 2147483563 + 50101 * at_ + 113).natAbs < 2 ^ 64
            omega
          obtain ⟨M, hM⟩ : ∃ M : Int, M = (cell % 2147483563 + 50101 * at_ + 113) ^ (3 : Int).toNat % 2147483629 := ⟨_, rfl⟩
          have m3 : 0 ≤ M := by rw [hM]; exact Int.emod_nonneg _ (by decide)
          have m4 : M < 2147483629 := by rw [hM]; exact Int.emod_lt_of_pos _ (by decide)
          have m5 : 0 ≤ M * (2 * at_ + 127) := Int.mul_nonneg m3 (by omega)
          have m6 : M * (2 * at_ + 127) ≤ 2147483629 * 2000127 := Int.mul_le_mul (by omega) (by omega) (by omega) (by decide)
          have m7 : 0 ≤ 61153 * at_ * at_ := Int.mul_nonneg (by omega) (by omega)
          have m8 : 61153 * at_ * at_ ≤ 61153 * 1000000 * 1000000 := Int.mul_le_mul (by omega) (by omega) (by omega) (by decide)
          refine ⟨V.int M, by rw [hM]; rfl, _, rfl, 2, at_, rfl, rfl, .inl ⟨by decide, by decide⟩, _, _, rfl, rfl, M, _, rfl, rfl, .inl ⟨by omega, by omega⟩, ?_⟩
          refine ⟨_, rfl, 61153, at_, rfl, rfl, .inl ⟨by decide, by decide⟩, _, rfl, _, at_, rfl, rfl, .inr ⟨by omega, by omega⟩, _, _, rfl, rfl, _, _, rfl, rfl, _, 5, rfl, rfl, ⟨by decide, by decide, ?_⟩, ?_⟩
          · show (M * (2 * at_ + 127) + 61153 * at_ * at_ + 43).natAbs < 2 ^ 64
            omega
          refine .inl ⟨_, rfl, _, _, rfl, rfl, (by show (0 : Int) < 2147483549; decide), ?_⟩
          exact ⟨_, rfl, _, 16, rfl, rfl, ⟨by decide, by decide⟩, .inl ⟨_, rfl, _, rfl, _, many, rfl, rfl, (by show 0 < many; omega), fin _ _ D2⟩⟩
end
end K07

set_option Elab.async false
set_option linter.all false
set_option maxRecDepth 100000
set_option maxHeartbeats 4000000
namespace K07
open PySem L2
theorem But.seq {K : PySem.W.Frag} {H H' : Hp} {p a : Addr} {xs : List V} (B : But p H H') (n : a ≠ p) (h : SqL K H a xs) : SqL K H' a xs := by
  rcases h with (h | ⟨o, h⟩) | h
  · exact .inl (.inl (B _ _ h n))
  · exact .inl (.inr ⟨o, B _ _ h n⟩)
  · exact .inr h
theorem But.trans {p : Addr} {H H1 H2 : Hp} (a : But p H H1) (b : But p H1 H2) : But p H H2 := fun c o h n => b c o (a c o h n) n
theorem But.refl {p : Addr} {H : Hp} : But p H H := fun _ _ h _ => h
theorem But.new {p a : Addr} {H : Hp} {o : HO} (h : H a = none) : But p H (upd H a o) := fun b u e _ => by rw [upd_ne (ne_of_none e h)]; exact e
theorem But.same {p : Addr} {H H1 : Hp} (s : Same H H1) : But p H H1 := fun b o h _ => s b o h
theorem Same.new {a : Addr} {H : Hp} {o : HO} (h : H a = none) : Same H (upd H a o) := fun b u e => by rw [upd_ne (ne_of_none e h)]; exact e
theorem Pen.same {H H' : Hp} {p c : Addr} {ns : List Int} {at_ rest : Int} (P : Pen H p c ns at_ rest) (s : Same H H') : Pen H' p c ns at_ rest := ⟨s _ _ P.hp, s _ _ P.hc, P.la, P.lr⟩
def spPen (K : PySem.W.Frag) : Sp := fun vs H Q _ => ∃ (a : Addr) (ns : List Int), vs = [.ref a] ∧ SqL K H a (ns.map V.int) ∧ ∀ (p c : Addr) (ms : List Int) (H' : Hp), H p = none → Pen H' p c ms 0 0 → Same H H' → Q (.ref p) H'
theorem scPen : FnScope ["_law_script"] ["_law_script"] (defScope sPen) := ⟨rfl, rfl, rfl, by decide +kernel, rfl, by decide +kernel, by decide +kernel⟩
def spPick (K : PySem.W.Frag) : Sp := fun vs H Q _ => ∃ (p c : Addr) (ns : List Int) (at_ rest : Int) (x : V), vs = [.ref p, x] ∧ Pen H p c ns at_ rest ∧ at_ ≤ 1000000 ∧
  ((∃ (a : Addr) (xs : List V), x = .ref a ∧ SqL K H a xs ∧ a ≠ p ∧ 0 < xs.length ∧ xs.length < 1000 ∧ ∀ v H', v ∈ xs → Drawn H p c ns (at_ + 1) H' → Q v H') ∨
   (∃ (z : Str), x = .str z ∧ 0 < z.length ∧ z.length < 1000 ∧ ∀ (ch : Nat) H', ch ∈ z.cps.toList → Drawn H p c ns (at_ + 1) H' → Q (.str ⟨#[ch]⟩) H'))
theorem scPick : FnScope ["_law_pen_here", "_law_some_here"] ["_law_pen_here", "_law_some_here"] (defScope sPick) := ⟨rfl, rfl, rfl, by decide +kernel, rfl, by decide +kernel, by decide +kernel⟩
def cutM (ns : List Int) : List Int := (ns.drop (HT.sIx ns.length 0 none)).take (HT.sIx ns.length ns.length (some 63) - HT.sIx ns.length 0 none)
section
variable {P : Program} {w : World} {K : PySem.W.Frag} {mg : Str → Option Value} {base : Heap}
theorem ok_pen {f : Addr} {fd : FuncData} (F : Fun K "_law_pen" "_law_pen" sPen f fd) (T : TxtB mg) : FnOk P w K mg base CX0 1 f fd ["_law_script"] (spPen K) := by
  refine F.ok scPen (fun vs H Q E h => ?_) (fun cdv A outer s H vs Q E hr h => ?_)
  · obtain ⟨a, ns, rfl, _⟩ := h
    rfl
  · obtain ⟨a, ns, rfl, hS, k⟩ := h
    refine ⟨_, (pss_one (ps_ret (pe_lst (pa_cons (pe_callTy call_list_of (by rfl) T.blist (by decide +kernel) (pa_cons (pe_slice sl_list (pv 0) po_none (po_some pe_int)) pa_nil)) (pa_cons pe_int (pa_cons pe_int pa_nil)))))), ?_⟩
    refine ⟨_, rfl, _, rfl, a, _, rfl, hS, fun d hd => ?_⟩
    refine ⟨d, _, rfl, .inl (SqL.of upd_same), fun c hc => ⟨by show 3 ≤ sizeLine; decide, fun p hp => ?_⟩⟩
    have n1 : d ≠ c := ne_of_none upd_same hc
    have n2 : c ≠ p := ne_of_none upd_same hp
    have s1 : Same H (upd H d (.lst (cutV (ns.map V.int) none (some 63)))) := Same.new hd
    have s2 : Same (upd H d (.lst (cutV (ns.map V.int) none (some 63)))) (upd (upd H d (.lst (cutV (ns.map V.int) none (some 63)))) c (.lst (cutV (ns.map V.int) none (some 63)))) := Same.new hc
    have e : cutV (ns.map V.int) none (some 63) = (cutM ns).map V.int := by
      unfold cutV cutM
      rw [← List.map_drop, ← List.map_take, List.length_map]
    refine k p c (cutM ns) _ ((s1.trans s2).free hp) ⟨upd_same, ?_, Int.le_refl _, Int.le_refl _⟩ ((s1.trans s2).trans (Same.new hp))
    rw [upd_ne n2, upd_same, e]
theorem ok_pick {f : Addr} {fd : FuncData} (F : Fun K "_law_pick" "_law_pick" sPick f fd) (T : TxtB mg) (cDraw : C8.Cal P w K mg base 1 "_law_draw" spDraw []) : FnOk P w K mg base CX0 2 f fd ["_law_pen_here", "_law_some_here"] (spPick K) := by
  refine F.ok scPick (fun vs H Q E h => ?_) (fun cdv A outer s H vs Q E hr h => ?_)
  · obtain ⟨p, c, ns, at_, rest, x, rfl, _⟩ := h
    rfl
  · obtain ⟨p, c, ns, at_, rest, x, rfl, Pn, ha, h⟩ := h
    refine ⟨_, (pss_one (ps_ret (pe_ix ix_seq (pv 1) (C8.pe_c cDraw hr (by decide) rfl (pa_cons (pv 0) (pa_cons (pe_callB (CallR.or call_len_seq call_len_str) (by rfl) T.blen (by decide +kernel) (pa_cons (pv 1) pa_nil)) pa_nil))) (fun _ _ => rfl)))), ?_⟩
    rcases h with ⟨a, xs, rfl, hS, hne, h0, h1, k⟩ | ⟨z, rfl, h0, h1, k⟩
    · refine ⟨_, rfl, _, rfl, _, rfl, .inl ⟨a, xs, rfl, .inl hS, ?_⟩⟩
      refine ⟨p, c, ns, at_, rest, _, rfl, Pn, ha, by omega, by omega, fun d H' d0 d1 hD => ?_⟩
      obtain ⟨at', rest', _, _, hB⟩ := id hD
      obtain ⟨j, rfl⟩ := Int.eq_ofNat_of_zero_le d0
      have hj : j < xs.length := by omega
      refine .inl ⟨a, xs, _, xs[j], rfl, rfl, hB.seq hne hS, atI_nat (List.getElem?_eq_getElem hj), k _ _ (List.getElem_mem hj) hD⟩
    · refine ⟨_, rfl, _, rfl, _, rfl, .inr ⟨z, rfl, Nat.le_of_lt (small1000 (by omega)), ?_⟩⟩
      refine ⟨p, c, ns, at_, rest, _, rfl, Pn, ha, by omega, by omega, fun d H' d0 d1 hD => ?_⟩
      obtain ⟨j, rfl⟩ := Int.eq_ofNat_of_zero_le d0
      have hj : j < z.cps.toList.length := by show j < z.cps.toList.length; rw [Array.length_toList]; exact Int.ofNat_lt.mp d1
      refine .inr (.inr ⟨z, _, z.cps.toList[j], rfl, rfl, Nat.le_of_lt (small1000 (by omega)), atI_nat (List.getElem?_eq_getElem hj), k _ _ (List.getElem_mem hj) hD⟩)
end
end K07

set_option linter.all false
namespace NX
open PySem PySem.Builtin PySem.Builtin.Str
theorem tw_all {p : Nat → Bool} : ∀ {l : List Nat}, l.all p = true → l.takeWhile p = l
  | [], _ => rfl
  | c :: r, h => by
    rw [List.all_cons, Bool.and_eq_true] at h
    rw [List.takeWhile_cons, if_pos h.1, tw_all h.2]
theorem tw_lt {p : Nat → Bool} {l : List Nat} (h : l.all p = false) : (l.takeWhile p).length < l.length := by
  induction l with
  | nil => simp at h
  | cons c r ih =>
    rw [List.all_cons] at h
    rw [List.takeWhile_cons]
    by_cases hc : p c = true
    · rw [if_pos hc, List.length_cons, List.length_cons]
      rw [hc, Bool.true_and] at h
      have := ih h
      omega
    · rw [if_neg hc]
      simp
theorem drop_all {p : Nat → Bool} {l : List Nat} (h : l.all p = false) : (l.drop (l.takeWhile p).length).all p = false := by
  induction l with
  | nil => simp at h
  | cons c r ih =>
    rw [List.all_cons] at h
    rw [List.takeWhile_cons]
    by_cases hc : p c = true
    · rw [if_pos hc, List.length_cons, List.drop_succ_cons]
      rw [hc, Bool.true_and] at h
      exact ih h
    · rw [if_neg hc]
      simp [hc]
theorem strip_empty (x y : Str) : (Txt.stripChars x y = ("" : Str)) ↔ x.cps.toList.all y.cps.contains = true := by
  have len : x.length = x.cps.toList.length := by show x.cps.size = _; simp
  have empty : ∀ {z : Str}, z = ("" : Str) ↔ z.cps.toList = [] := fun {z} => by
    constructor
    · intro e
      rw [e]
      decide +kernel
    · intro e
      obtain ⟨⟨l⟩⟩ := z
      have e' : l = [] := e
      subst e'
      decide +kernel
  unfold Txt.stripChars Txt.stripBy stripSame stripped stripLo stripHi
  simp only [if_true]
  cases ha : x.cps.toList.all y.cps.contains with
  | true =>
    rw [tw_all ha]
    refine ⟨fun _ => rfl, fun _ => ?_⟩
    split
    · rename_i q
      rw [Bool.and_eq_true, beq_iff_eq] at q
      exact empty.mpr (List.length_eq_zero_iff.mp q.1)
    · refine empty.mpr ?_
      simp [strSub, len]
  | false =>
    refine ⟨fun e => ?_, fun e => by cases e⟩
    exfalso
    have h1 := tw_lt ha
    have h2 : (((x.cps.toList.drop (x.cps.toList.takeWhile y.cps.contains).length).reverse).takeWhile y.cps.contains).length < (x.cps.toList.drop (x.cps.toList.takeWhile y.cps.contains).length).length := by
      have := tw_lt (p := y.cps.contains) (l := (x.cps.toList.drop (x.cps.toList.takeWhile y.cps.contains).length).reverse) (by rw [List.all_reverse]; exact drop_all ha)
      rwa [List.length_reverse] at this
    rw [List.length_drop] at h2
    split at e
    · rw [empty] at e
      rw [e] at ha
      cases ha
    · rw [empty] at e
      have q := congrArg List.length e
      simp [strSub] at q
      rw [len] at q
      simp at q h1 h2
      omega
/-- a small letter -/
def lett (c : Nat) : Bool := decide (97 ≤ c) && decide (c ≤ 122)
theorem letters_list : ("abcdefghijklmnopqrstuvwxyz" : Str).cps.toList = List.range' 97 26 := by decide +kernel
theorem letters_mem (c : Nat) : c ∈ ("abcdefghijklmnopqrstuvwxyz" : Str).cps.toList ↔ lett c = true := by
  rw [letters_list, List.mem_range'_1]
  unfold lett
  rw [Bool.and_eq_true, decide_eq_true_eq, decide_eq_true_eq]
  omega
theorem letters_has (c : Nat) : ("abcdefghijklmnopqrstuvwxyz" : Str).cps.contains c = lett c := by
  rw [Bool.eq_iff_iff, Array.contains_iff_mem, ← Array.mem_toList_iff]
  exact letters_mem c
/-- is it a name -/
def nm (z : Str) : Bool := decide (1 ≤ z.length) && (decide (z.length ≤ 6) && z.cps.toList.all lett)
theorem strip_nm (z : Str) : decide (Txt.stripChars z ("abcdefghijklmnopqrstuvwxyz" : Str) = ("" : Str)) = z.cps.toList.all lett := by
  rw [Bool.eq_iff_iff, decide_eq_true_eq, strip_empty]
  have e : ("abcdefghijklmnopqrstuvwxyz" : Str).cps.contains = lett := funext letters_has
  rw [e]
end NX

set_option Elab.async false
set_option linter.all false
set_option maxRecDepth 100000
set_option maxHeartbeats 4000000
/-! A rule of my own: «a, *b = xs», xs a list. -/
namespace NX
open PySem PySem.Spec PyProof.Rows L2
def gStar (K : PySem.W.Frag) (t : TGs) : TG := fun v σ H Q => ∃ (a : Addr) (x : V) (rest : List V), v = .ref a ∧ SqL K H a (x :: rest) ∧ rest.length < 16384 ∧ ∀ D, H D = none → t [x, .ref D] σ (upd H D (.lst rest)) Q
section
variable {X : Cx} {e1 e2 : Expr} {k : Nat} {pos sp : Pos} {t : TGs}
theorem pg_star (hc : X.calm = true) (h : PGs X [e1, e2] t) (hm : (assignEach [e1, .Starred e2 sp] X.env).map (·.2) = (assignEach [e1, e2] X.env).map (·.2) := by rfl) (hl : (assignEach [e1, .Starred e2 sp] X.env).length = 2 := by rfl)
    (hi : (assignEach [e1, .Starred e2 sp] X.env).findIdx? (·.1) = some 1 := by rfl) : PG X (.Tuple [e1, .Starred e2 sp] k pos) (gStar X.K t) := by
  refine ⟨fun pins s σ H v u Q I r hw => ?_⟩
  obtain ⟨a, x, rest, rfl, hq, hz, hw⟩ := hw
  cases r
  obtain ⟨its, rv, pl, _⟩ := I.list hq
  cases rv with
  | @cons _ u1 _ us ra rr =>
    have hlen : rest.length = us.length := Paired.length rr
    have ll := pl.isList
    have hlt : a ≠ s.heap.objs.size := by
      obtain ⟨o, ho, _⟩ := id ll
      exact Nat.ne_of_lt (Heap.lt_size ho)
    rw [PyProof.Rows.assign_Tuple]
    refine wpAny_bind (wpAny_standAt ?_)
    unfold unpack
    rw [hl, hi, hm]
    -- one is drawn, the others are collected, a new list is made of them
    have items : ∀ {R : List Value → Shared → Prop}, (∀ (h2 : Heap) tk, (∀ b o, s.heap.get? b = some o → h2.get? b = some o) → R [u1, .ref h2.objs.size] { s with heap := h2.push { cls := .type "list", data := .seq us.toArray }, toks := tk }) →
        wpAny (model X.prog X.w) X.A (unpackItems (.ref a) 2 (some 1)) R X.xe s := fun {R} hR => by
      unfold unpackItems
      refine wpAny_bind ?_
      unfold notIterableAtAll
      refine wpAny_bind (wpAny_specialOf ll.typeIs slot_list_iter.lookup (wpAny_pure ?_))
      simp only [Bool.false_eq_true, if_false]
      refine wpAny_bind (wpAny_holding (wpAny_pyIter_list ll ?_))
      refine wpAny_bind (wpAny_holding (PySem.W.kun_draw hlt 1 0 _ _ ⟨_, Heap.get?_push_size _ rfl, rfl, rfl⟩ (ll.push _) (by simp) fun h1 it1 sb1 => ?_))
      have l1 : h1.IsList a (u1 :: us).toArray := (ll.push _).extBut sb1.extBut hlt
      obtain ⟨oi, hoi, _⟩ := id it1
      obtain ⟨ol, hol, _⟩ := id l1
      have k1 : ∀ b o, s.heap.get? b = some o → h1.get? b = some o := fun b o e => sb1.extBut b o (Nat.ne_of_lt (Heap.lt_size e)) (Heap.get?_push_of_some _ e)
      show wpAny _ _ (if [u1].length < 1 then _ else _) _ _ _
      rw [if_neg (by simp)]
      refine wpAny_bind (wpAny_holding (PySem.W.kun_collect (s := { s with heap := h1 }) (T := "list_iterator") (.inr (.inr (.inl rfl))) (Walks.list (A := X.A.in1) (I.ok.hd hc) s.heap.objs.size a hlt (u1 :: us).toArray) (fun j u st => st.1.typeIs) (k := 1) (by simp) ⟨it1, l1⟩ (Heap.lt_size hoi) (Heap.lt_size hol) (fun h2 tk k2 => ?_) (by rw [sizeLine_eq]; simp; omega)))
      have e0 : (u1 :: us).toArray.toList.drop 1 = us := by simp
      rw [e0]
      show wpAny _ _ (if us.length < 2 - 1 - 1 then _ else _) _ _ _
      rw [if_neg (by omega)]
      have e1 : us.take (us.length - (2 - 1 - 1)) = us := by simp
      have e2 : us.drop (us.length - (2 - 1 - 1)) = [] := by simp
      have K2 : ∀ b o, s.heap.get? b = some o → h2.get? b = some o := fun b o e => k2 b o (Nat.ne_of_lt (Heap.lt_size e)) (k1 b o e)
      refine wpAny_bind (wpAny_newList (s := { s with heap := h2, toks := tk }) (wpAny_pure ?_) (by rw [e1, sizeLine_eq]; omega))
      have q := hR h2 tk K2
      rw [e1, e2]
      exact q
    refine wpAny_bind (wpAny_holding (items fun h2 tk kp => ?_))
    have I2 : Inv X pins σ H { s with heap := h2, toks := tk } := I.kept kp
    have hn : H h2.objs.size = none := I2.hok.fresh (Nat.le_refl _)
    have J : Inv X pins σ (upd H h2.objs.size (.lst rest)) { s with heap := h2.push { cls := .type "list", data := .seq us.toArray }, toks := tk } :=
      I2.laid (t' := tk) (h' := h2.push { cls := .type "list", data := .seq us.toArray }) (fun b o e => Heap.get?_push_of_some _ e) (Nat.le_refl _) ⟨by rw [sizeLine_eq]; omega, us, 0, rr, Heap.get?_push_size _ rfl⟩
    exact h.run pins _ σ _ [x, .ref h2.objs.size] [u1, .ref h2.objs.size] Q J (.cons ra (.cons rfl .nil)) (hw _ hn)
end
end NX

set_option Elab.async false
set_option linter.all false
set_option maxRecDepth 100000
set_option maxHeartbeats 4000000
namespace K07
open PySem L2 NX
abbrev sIs : Stmt := top 20
theorem scIs : FnScope ["value"] ["value"] (defScope sIs) := ⟨rfl, rfl, rfl, by decide +kernel, rfl, by decide +kernel, by decide +kernel⟩
/-- no text -/
def NoStr (K : PySem.W.Frag) (H : Hp) (x : V) : Prop := ∃ t, TyX K H x t ∧ PySem.W.kitOne K t (.type "str") = some false
def spIs (K : PySem.W.Frag) : Sp := fun vs H Q _ => ∃ x, vs = [x] ∧ ((∃ z, x = .str z ∧ z.length ≤ 1000 ∧ Q (.bl (nm z)) H) ∨ (NoStr K H x ∧ Q (.bl false) H))
structure TxtN (mg : Str → Option Value) : Prop where
  gLet : ∃ t, mg "LETTERS" = some (.str "abcdefghijklmnopqrstuvwxyz" t)
  gMost : ∃ t, mg "MOST_LETTERS" = some (.int 6 t)
section
variable {P : Program} {w : World} {K : PySem.W.Frag} {mg : Str → Option Value} {base : Heap}
theorem ok_is {f : Addr} {fd : FuncData} (F : Fun K "is_name" "is_name" sIs f fd) (T : TxtB mg) (N : TxtN mg) : FnOk P w K mg base CX0 1 f fd ["value"] (spIs K) := by
  refine F.ok scIs (fun vs H Q E h => ?_) (fun cdv A outer s H vs Q E hr h => ?_)
  · obtain ⟨x, rfl, _⟩ := h
    rfl
  · obtain ⟨x, rfl, h⟩ := h
    obtain ⟨t1, gL⟩ := N.gLet
    obtain ⟨t2, gM⟩ := N.gMost
    refine ⟨_, (pss_one (ps_ret (pe_and (pe_callB call_isi (by rfl) T.bisinstance (by decide +kernel) (pa_cons (pv 0) (pa_cons (pe_bltn (v := .ty "str") (by rfl) T.bstr (by decide +kernel) rfl) pa_nil))) (pe_and (pe_chain op_le op_le pe_int (pe_callB call_len_str (by rfl) T.blen (by decide +kernel) (pa_cons (pv 0) pa_nil)) (pe_glob (v := .int 6) rfl gM ⟨_, rfl⟩)) (pe_one (pe_cmpR op_eq (pe_bm PySem.F.plainAttrs_str PySem.F.slot_str_strip PySem.F.type_str_strip mt_stripChars (pv 0) (pa_cons (pe_glob (v := .str "abcdefghijklmnopqrstuvwxyz") rfl gL ⟨_, rfl⟩) pa_nil)) pe_str (nomark _))))))), ?_⟩
    rcases h with ⟨z, rfl, hz, q⟩ | ⟨⟨t, ty, k⟩, q⟩
    · refine ⟨_, rfl, _, _, _, _, true, rfl, .ty "str", .base (.str z), kit_ty (by decide +kernel), true, rfl, iteT ?_⟩
      refine ⟨_, rfl, z, rfl, Nat.le_of_lt (small1000 hz), 1, _, rfl, rfl, _, rfl, ite2 (fun h1 => ?_) (fun h1 => ?_)⟩
      · refine ⟨_, 6, rfl, rfl, _, rfl, ite2 (fun h2 => ?_) (fun h2 => ?_)⟩
        · have e : ∀ b : Bool, b = nm z → Q (.bl b) H := fun b e => by rw [e]; exact q
          refine ⟨_, rfl, rfl, z, _, rfl, rfl, Nat.le_trans hz (by decide), by rfl, e _ ?_⟩
          have e1 := of_decide_eq_true h1
          have e2 := of_decide_eq_true h2
          have g : decide (V.str (Txt.stripChars z (Str.ofString "abcdefghijklmnopqrstuvwxyz")) = V.str (Str.ofString "")) = decide (Txt.stripChars z ("abcdefghijklmnopqrstuvwxyz" : Str) = ("" : Str)) := by
            rw [Bool.eq_iff_iff, decide_eq_true_eq, decide_eq_true_eq]
            exact ⟨fun h => by injection h, fun h => by rw [← h]⟩
          rw [g, strip_nm]
          unfold nm
          rw [decide_eq_true (by omega : 1 ≤ z.length), decide_eq_true (by omega : z.length ≤ 6)]
          rfl
        · have e1 : ¬ (z.length ≤ 6) := fun h => h2 (decide_eq_true (by omega))
          have e : nm z = false := by unfold nm; rw [decide_eq_false e1]; simp
          rw [e] at q
          exact q
      · have e1 : ¬ (1 ≤ z.length) := fun h => h1 (decide_eq_true (by omega))
        have e : nm z = false := by unfold nm; rw [decide_eq_false e1]; simp
        rw [e] at q
        exact ⟨false, rfl, iteF q⟩
    · exact ⟨_, rfl, _, _, _, _, false, rfl, .ty "str", ty, k, false, rfl, iteF q⟩
end
end K07

set_option Elab.async false
set_option linter.all false
set_option maxRecDepth 100000
set_option maxHeartbeats 4000000
/-! Sets of texts: made of a list or a tuple, their length, sorted. -/
namespace NU
open PySem PySem.Spec PyProof.Rows L2
/-- the text of a row of a set's table -/
def txOf (e : Int × Value) : Str := match e.2 with | .str x _ => x | _ => Str.empty
def Tx (wo : World) (e : Int × Value) : Prop := ∃ x u, e.2 = Value.str x u ∧ e.1 = hashStr wo x
/-- the rows of a set of the texts mem, cnt of them -/
structure Rws (wo : World) (mem : Str → Bool) (cnt : Nat) (es : Array (Int × Value)) (t : SetTable) : Prop where
  tx : ∀ e ∈ es.toList, Tx wo e
  nd : (es.toList.map txOf).Nodup
  mm : ∀ x, mem x = true ↔ x ∈ es.toList.map txOf
  few : es.size < scanBound
  fit : t.fits es.size = true
  num : es.size = cnt
  ris : Ris t.place.toList
  led : wo.params.followText "set-order" = true ∨ t.led = true
def SetT (wo : World) (h : Heap) (a : Addr) (mem : Str → Bool) (cnt : Nat) : Prop :=
  ∃ o es ep t, h.get? a = some o ∧ o.ExactSet ∧ o.data = .set es ep t ∧ Rws wo mem cnt es t
section
variable {Pg : Program} {wo : World} {h h2 : Heap} {a : Addr} {mem : Str → Bool} {cnt : Nat}
theorem SetT.mv (R : SetT wo h a mem cnt) (k : ∀ o, h.get? a = some o → h2.get? a = some o) : SetT wo h2 a mem cnt :=
  have ⟨o, es, ep, t, g, r⟩ := R
  ⟨o, es, ep, t, k o g, r⟩
theorem SetT.eqv {mem2 : Str → Bool} (R : SetT wo h a mem cnt) (e : ∀ x, mem2 x = mem x) : SetT wo h a mem2 cnt := (funext e : mem2 = mem) ▸ R
theorem tx_elems {l : List (Int × Value)} (g : ∀ e ∈ l, Tx wo e) : ElemsOf (PySem.strKind Pg wo) l := fun e he =>
  have ⟨x, u, e1, e2⟩ := g e he
  ⟨⟨x, by rw [e1]; exact PySem.strKind_is Pg wo x u, e2⟩, by rw [e1]; rfl⟩
theorem tx_is {e : Int × Value} (g : Tx wo e) (x : Str) : (PySem.strKind Pg wo).is x e.2 = true ↔ txOf e = x := by
  have ⟨y, u, e1, _⟩ := g
  unfold txOf
  rw [e1]
  constructor
  · intro z
    have ⟨u2, e2⟩ := Value.isStrOf_shape (x := x) (v := .str y u) z
    injection e2
  · intro z
    have z : y = x := z
    subst z
    exact PySem.strKind_is Pg wo y u
theorem tx_mem {l : List (Int × Value)} (g : ∀ e ∈ l, Tx wo e) (x : Str) : x ∈ l.map txOf ↔ ∃ e ∈ l, (PySem.strKind Pg wo).is x e.2 = true := by
  rw [List.mem_map]
  exact ⟨fun ⟨e, he, z⟩ => ⟨e, he, (tx_is (g e he) x).2 z⟩, fun ⟨e, he, z⟩ => ⟨e, he, (tx_is (g e he) x).1 z⟩⟩
end
section
variable {Pg : Program} {wo : World} {Ar : Around} {Er : Value → Shared → Prop} {st : Shared} {a : Addr} {mem : Str → Bool} {cnt : Nat}
/-- the rest of a set's add: the new rows are kept, or kept and laid anew -/
theorem rest_add {tell : Bool → Sem Unit} (quiet : ∀ (b : Bool) (s1 : Shared) (Q1 : Unit → Shared → Prop), Q1 () s1 → wpAny (model Pg wo) Ar (tell b) Q1 Er s1)
    {o : Obj} {es es1 : Array (Int × Value)} {ep : Nat} {t t1 : SetTable} (g : st.heap.get? a = some o) (x : o.ExactSet) (d : o.data = .set es ep t) {mem2 : Str → Bool} {c : Nat} (W : Rws wo mem2 c es1 t1)
    {was : Bool} {R : Option Bool → Shared → Prop} (out : ∀ h2, Heap.SameBut a st.heap h2 → SetT wo h2 a mem2 c → R (some true) { st with heap := h2 }) :
    wpAny (model Pg wo) Ar (storeSet a es1 t1 >>= fun _ =>
        if (!was && t1.tooFull) = true then (do tell (relayAll t1 es1 (SetTable.grown es1.size)).2.2; storeSet a (relayAll t1 es1 (SetTable.grown es1.size)).1 (relayAll t1 es1 (SetTable.grown es1.size)).2.1; pure (some true)) else pure (some true)) R Er st := by
  refine wpAny_bind (wpAny_storeSet_of g d ?_ (fits_of_scanBound W.few))
  have g1 := L2.store_at (es' := es1) (t' := t1) g d
  have b1 := Heap.SameBut.update st.heap a (Obj.putSet es1 t1)
  by_cases full : (!was && t1.tooFull) = true
  · rw [if_pos full]
    have p := relayAll_perm t1 es1 (SetTable.grown es1.size)
    have f2 := relayAll_fits t1 es1 (SetTable.grown es1.size)
    have r2 := L2.relayAll_ris t1 es1 (SetTable.grown es1.size)
    have l2 := L2.relayAll_led t1 es1 (SetTable.grown es1.size)
    revert p f2 r2 l2
    generalize relayAll t1 es1 (SetTable.grown es1.size) = Z
    obtain ⟨es2, t2, gave⟩ := Z
    intro p f2 r2 l2
    have same : es2.size = es1.size := by simpa using p.length_eq
    have few2 : es2.size < scanBound := by rw [same]; exact W.few
    refine wpAny_bind (quiet _ _ _ (wpAny_bind (wpAny_storeSet_of g1 rfl (wpAny_pure (out _ (b1.trans (Heap.SameBut.update _ a _)) ?_)) (fits_of_scanBound few2))))
    exact ⟨_, es2, _, t2, L2.store_at (es' := es2) (t' := t2) g1 rfl, x, rfl, fun e he => W.tx e (p.mem_iff.mp he), (p.map txOf).nodup_iff.mpr W.nd, fun y => (W.mm y).trans (p.map txOf).mem_iff.symm, few2, f2,
      same.trans W.num, r2, W.led.imp id fun z => l2.trans z⟩
  · rw [if_neg full]
    exact wpAny_pure (out _ b1 ⟨_, es1, _, t1, g1, x, rfl, W⟩)
theorem add_tx {x : Str} {u : Tok} {Q : Bool → Shared → Prop} (R : SetT wo st.heap a mem cnt) (room : cnt + 1 < scanBound)
    (out : ∀ h2, Heap.SameBut a st.heap h2 → SetT wo h2 a (fun y => mem y || decide (y = x)) (if mem x = true then cnt else cnt + 1) → Q (!mem x) { st with heap := h2 }) :
    wpAny (model Pg wo) Ar (setAddHashed a (.str x u) ((PySem.strKind Pg wo).hash x)) Q Er st := by
  obtain ⟨o, es, ep, t, g, ex, d, W⟩ := R
  have key : (PySem.strKind Pg wo).is x (.str x u) = true := PySem.strKind_is Pg wo x u
  have elems : ElemsOf (PySem.strKind Pg wo) es.toList := tx_elems W.tx
  have plain : (Value.str x u).scannable = true := rfl
  unfold setAddHashed setAddHashedIn
  refine wpAny_holding (wpAny_bind (wpAny_setState_of g d W.fit ?_))
  dsimp only
  rw [byScan_of plain W.few elems, if_pos rfl]
  unfold setAddByScan
  refine wpAny_bind (wpAny_bind (wpAny_rule (wpAny_bind (wpAny_setScan_of key g d W.fit elems ?_))))
  cases at_ : List.findIdx? (fun e => (PySem.strKind Pg wo).is x e.2) es.toList with
  | some j =>
    dsimp only
    obtain ⟨lt, yes, _⟩ := List.findIdx?_eq_some_iff_getElem.mp at_
    have has : mem x = true := (W.mm x).2 ((tx_mem (Pg := Pg) W.tx x).2 ⟨es.toList[j], List.getElem_mem lt, yes⟩)
    have z := out st.heap (Heap.SameBut.refl a st.heap) ⟨o, es, ep, t, g, ex, d, { W with
      mm := fun y => by
        rw [Bool.or_eq_true, decide_eq_true_eq]
        exact ⟨fun q => (W.mm y).1 (q.elim id fun e => by rw [e]; exact has), fun q => .inl ((W.mm y).2 q)⟩
      num := by rw [if_pos has]; exact W.num }⟩
    rw [has] at z
    exact wpAny_pure (wpAny_pure z)
  | none =>
    dsimp only
    have no : x ∉ es.toList.map txOf := fun z => by
      obtain ⟨e, he, q⟩ := (tx_mem (Pg := Pg) W.tx x).1 z
      rw [List.findIdx?_eq_none_iff.mp at_ e he] at q
      cases q
    have not : mem x = false := Bool.eq_false_iff.mpr fun z => no ((W.mm x).1 z)
    have hush : ∀ (b : Bool) {s1 : Shared} {Q1 : Unit → Shared → Prop}, Q1 () s1 → wpAny (model Pg wo) Ar (match b with | true => rule "set.scan.the-table-gave-way" | false => pure ()) Q1 Er s1
      | true, _, _, q => wpAny_rule q
      | false, _, _, q => wpAny_pure q
    have p := layNew_perm t es ((PySem.strKind Pg wo).hash x) (.str x u)
    have f1 := layNew_fits t es ((PySem.strKind Pg wo).hash x) (.str x u)
    have r1 := L2.layNew_ris t es ((PySem.strKind Pg wo).hash x) (.str x u) W.ris
    have l1 := L2.layNew_led t es ((PySem.strKind Pg wo).hash x) (.str x u)
    revert p f1 r1 l1
    generalize layNew t es ((PySem.strKind Pg wo).hash x) (.str x u) = Z
    obtain ⟨es1, t1, was, gave⟩ := Z
    intro p f1 r1 l1
    dsimp only at p f1 r1 l1 ⊢
    rw [Array.toList_push] at p
    have p : es1.toList.Perm (((PySem.strKind Pg wo).hash x, Value.str x u) :: es.toList) := p.trans (List.perm_append_singleton _ _)
    have pt : (es1.toList.map txOf).Perm (x :: es.toList.map txOf) := p.map txOf
    have size1 : es1.size = cnt + 1 := by rw [← W.num]; simpa using p.length_eq
    have V : ∀ t2 : SetTable, t2.fits es1.size = true → Ris t2.place.toList → (wo.params.followText "set-order" = true ∨ t2.led = true) → Rws wo (fun y => mem y || decide (y = x)) (cnt + 1) es1 t2 := fun t2 f r l =>
      { tx := fun e he => (List.mem_cons.mp (p.mem_iff.mp he)).elim (fun z => by rw [z]; exact ⟨x, u, rfl, rfl⟩) (W.tx e)
        nd := pt.nodup_iff.mpr (List.nodup_cons.mpr ⟨no, W.nd⟩)
        mm := fun y => by rw [Bool.or_eq_true, decide_eq_true_eq, W.mm y, pt.mem_iff, List.mem_cons]; exact Or.comm
        few := by rw [size1]; exact room
        fit := f
        num := size1
        ris := r
        led := l }
    have led1 : wo.params.followText "set-order" = true ∨ t1.led = true := W.led.imp id fun z => l1.trans z
    have fin : ∀ h2, Heap.SameBut a st.heap h2 → SetT wo h2 a (fun y => mem y || decide (y = x)) (cnt + 1) → Q true { st with heap := h2 } := fun h2 b r => by
      have z := out h2 b
      rw [not] at z
      exact z r
    refine wpAny_bind (hush _ ?_)
    split
    · refine wpAny_bind ?_
      rw [hashByValue_scannable 8 plain]
      refine wpAny_pure (rest_add (fun b s1 Q1 q => ?_) g ex d (V _ ?_ ?_ ?_) fun h2 b r => wpAny_pure (fin h2 b r))
      · cases b <;> first | exact wpAny_pure q | exact wpAny_rule q
      · first | (split <;> first | exact f1 | exact SetTable.fits_plain_off f1) | exact f1
      · first | (split <;> exact r1) | exact r1
      · first | (split <;> exact led1) | exact led1
    · refine wpAny_bind (wpAny_pure ?_)
      rw [if_pos rfl]
      refine rest_add (fun b s1 Q1 q => ?_) g ex d (V t1 f1 r1 led1) fun h2 b r => wpAny_pure (fin h2 b r)
      cases b <;> first | exact wpAny_pure q | exact wpAny_rule q
end

section
variable {Pg : Program} {wo : World} {Ar : Around} {Er : Value → Shared → Prop} {st : Shared}
abbrev bare (wo : World) : Obj := { cls := .type "set", dict := none, data := .set #[] 0 (.fresh 0 0 (!wo.params.followText "set-order")) }
theorem led0 (wo : World) : wo.params.followText "set-order" = true ∨ (SetTable.fresh 0 0 (!wo.params.followText "set-order")).led = true := by
  show _ ∨ (!wo.params.followText "set-order") = true
  cases wo.params.followText "set-order"
  · exact .inr rfl
  · exact .inl rfl
theorem setT_bare {h : Heap} {a : Addr} (g : h.get? a = some (bare wo)) : SetT wo h a (fun _ => false) 0 :=
  ⟨_, #[], 0, _, g, ⟨rfl, rfl, rfl⟩, rfl, { tx := nofun, nd := List.nodup_nil, mm := fun x => ⟨nofun, nofun⟩, few := by decide, fit := rfl, num := rfl, ris := List.Pairwise.nil, led := led0 wo }⟩
/-- the texts of xs that are new, from the last on: as many as the set of xs has members -/
def many : List Str → Nat
  | [] => 0
  | x :: l => if x ∈ l then many l else many l + 1
theorem many_le : ∀ l : List Str, many l ≤ l.length
  | [] => Nat.le_refl 0
  | x :: l => by
    have q := many_le l
    unfold many
    rw [List.length_cons]
    split <;> omega
theorem many_snoc (x : Str) : ∀ l : List Str, many (l ++ [x]) = if x ∈ l then many l else many l + 1
  | [] => rfl
  | y :: l => by
    have q := many_snoc x l
    show many (y :: (l ++ [x])) = _
    unfold many
    rw [q]
    by_cases e : x = y
    · subst e
      by_cases m : x ∈ l <;> simp [m]
    · have e2 : ¬ y = x := fun z => e z.symm
      by_cases m : x ∈ l <;> by_cases n : y ∈ l <;> simp [m, n, e, e2]
theorem upd_tx {I : Addr} {fp wr : List Addr} {G : Array GenState → Array GenState → Prop} {n : Nat} {Pv : Nat → Value → Prop} {St : Nat → Shared → Prop} {R : Result → Shared → Prop} (W : WalksS Pg wo Ar.in1 I fp wr G n Pv St) (D : Addr) (far : D ∉ fp)
    (xs : List Str) (len : n = xs.length) (room : xs.length + 1 < scanBound) (val : ∀ i v, Pv i v → ∃ x u, xs[i]? = some x ∧ v = .str x u) :
    ∀ (left i : Nat) (t : Shared), n - i = left → i ≤ n → St i t → SetT wo t.heap D (fun y => decide (y ∈ xs.take i)) (many (xs.take i)) →
      (∀ t2, Moved (D :: wr) G t t2 → SetT wo t2.heap D (fun y => decide (y ∈ xs)) (many xs) → R (.ok (.ret .none)) t2) → codeAny (model Pg wo) Ar (.builtin "set.update.loop" ⟨[.ref D, .ref I], []⟩) R t := by
  have off : D ∉ wr := fun z => far (W.sub _ z)
  have sub : ∀ b ∈ wr, b ∈ D :: wr := fun b z => List.mem_cons_of_mem _ z
  intro left
  induction left with
  | zero =>
    intro i t e le here S out
    obtain rfl : i = n := by omega
    refine codeAny_builtin F.entry_set_update_loop ?_
    rw [Around.under_plainId F.plain_set_update_loop _]
    refine wpAny_bind (m := pyNext (.ref I)) (W.done t _ _ here fun t2 mv => wpAny_pure (out t2 (mv.mono sub) ?_))
    have all : xs.take i = xs := List.take_of_length_le (by omega)
    rw [all] at S
    exact S.mv fun o z => mv.heap D o off z
  | succ left ih =>
    intro i t e le here S out
    have lt : i < n := by omega
    refine codeAny_builtin F.entry_set_update_loop ?_
    rw [Around.under_plainId F.plain_set_update_loop _]
    refine wpAny_bind (m := pyNext (.ref I)) (W.item i t _ _ lt here fun v t2 pv next mv => ?_)
    obtain ⟨x, u, at_, rfl⟩ := val i v pv
    have S2 : SetT wo t2.heap D (fun y => decide (y ∈ xs.take i)) (many (xs.take i)) := S.mv fun o z => mv.heap D o off z
    refine wpAny_bind (m := holding [Value.str x u] (setAdd D (.str x u))) (wpAny_holding ?_)
    unfold setAdd
    have low : many (xs.take i) ≤ i := Nat.le_trans (many_le _) (by rw [List.length_take]; omega)
    refine wpAny_holding (wpAny_bind ((PySem.strKind Pg wo).pyHash (k := x) (PySem.strKind_is _ _ _ _) (add_tx (st := { t2 with toks := t2.toks + 1 }) S2 (by omega) fun h3 but S3 => ?_)))
    have more : xs.take (i + 1) = xs.take i ++ [x] := by rw [List.take_add_one, at_]; rfl
    have S4 : SetT wo h3 D (fun y => decide (y ∈ xs.take (i + 1))) (many (xs.take (i + 1))) := by
      rw [more, many_snoc]
      have z : (fun y => decide (y ∈ xs.take i ++ [x])) = fun y => decide (y ∈ xs.take i) || decide (y = x) := funext fun y => by simp [List.mem_append]
      rw [z]
      by_cases m : x ∈ xs.take i
      · rw [if_pos m]
        rw [if_pos (decide_eq_true m)] at S3
        exact S3
      · rw [if_neg m]
        rw [if_neg (by simpa using m)] at S3
        exact S3
    have keep : ∀ b o, b ≠ D → t2.heap.get? b = some o → h3.get? b = some o := fun b o ne z => by rw [but.2 b ne]; exact z
    refine wpAny_pure ⟨plainId_quiet F.plain_set_update_loop _, ih (i + 1) _ (by omega) lt (W.frame _ t2 _ _ next (Nat.le_succ _) fun b z o q => keep b o (fun e2 => far (e2 ▸ z)) q) S4 fun t4 mv2 S5 => out t4 ?_ S5⟩
    exact Moved.trans W.gtrans ((mv.mono sub).then_heap (Nat.le_succ _) fun b o z q => keep b o (fun e2 => z (e2 ▸ List.mem_cons_self)) q) mv2
/-- set(xs), xs a list or a tuple of texts -/
theorem call_set {l : Addr} {its : Array Value} (xs : List Str) {Q : Value → Shared → Prop} (cold : Ar.handled = none) (hl : st.heap.IsList l its ∨ st.heap.IsTuple l its) (each : StrsAre its.toList xs) (room : xs.length + 1 < scanBound)
    (out : ∀ h2 tk, SetT wo h2 st.heap.objs.size (fun y => decide (y ∈ xs)) (many xs) → (∀ b o, st.heap.get? b = some o → h2.get? b = some o) → Q (.ref st.heap.objs.size) { st with heap := h2, toks := tk }) :
    wpAny (model Pg wo) Ar (call (.type "set") [.ref l]) Q Er st := by
  have len : its.size = xs.length := by simpa using each.length
  have val : ∀ (i : Nat) (v : Value), its[i]? = some v → ∃ x u, xs[i]? = some x ∧ v = .str x u := fun i v z => by
    have lt : i < xs.length := by rw [← len]; exact (Array.getElem?_eq_some_iff.mp z).1
    obtain ⟨u, e⟩ := SS.strs_at each i v (by rw [Array.getElem?_toList]; exact z)
    exact ⟨xs[i], u, List.getElem?_eq_getElem lt, by rw [e, List.getD_eq_getElem?_getD, List.getElem?_eq_getElem lt]; rfl⟩
  have lo : l < st.heap.objs.size := by
    rcases hl with ⟨o, g, _⟩ | ⟨o, g, _⟩ <;> exact Heap.lt_size g
  obtain ⟨c, tl, hmro⟩ := PySem.F.called_set.mro
  have hmade := PySem.F.called_set.made
  have hsub := PySem.F.called_set.sub
  refine wpAny_call (codeAny_of_tree ?_)
  show wpAny _ _ (callAny (.type "set") _) _ _ _
  refine wpAny_pure ⟨Code.quiet_builtin _ (by decide +kernel), codeAny_builtin PySem.F.entry_type_call ?_⟩
  rw [Around.under_plain (weight_type_call_type "set" [.ref l] []) rfl]
  have h1 := PySem.F.called_set.notType
  have h2 := PySem.F.called_set.canCreate
  have hct := PySem.F.typeCall_set_1 (.ref l)
  repeat (any_goals (first | assumption | wp_step))
  refine codeAny_mono (L2.code_set_led1 (.ref l) (E := Er) (Q₁ := fun v t => v = .ref st.heap.objs.size ∧ t = { st with heap := st.heap.push (bare wo) }) ⟨rfl, rfl⟩) fun r t z => ?_
  rcases r with e | fl
  · exact z
  cases fl with
  | ret v =>
    obtain ⟨rfl, rfl⟩ := z
    have gD : (st.heap.push (bare wo)).get? st.heap.objs.size = some (bare wo) := Heap.get?_push_size _ rfl
    have isD : Shared.TypeIs { st with heap := st.heap.push (bare wo) } (.ref st.heap.objs.size) "set" := ⟨_, gD, rfl⟩
    have sz : (st.heap.push (bare wo)).objs.size = st.heap.objs.size + 1 := Heap.size_push ..
    have hli := PySem.F.called_set.init.lookup
    have hbi := PySem.F.called_set.init.bind (.ref st.heap.objs.size)
    repeat (any_goals (first | assumption | wp_step))
    refine codeAny_mono (codeAny_call_builtin (R := wants (fun r t => r = .none ∧ ∃ h2 tk, t = { st with heap := h2, toks := tk } ∧ SetT wo h2 st.heap.objs.size (fun y => decide (y ∈ xs)) (many xs) ∧ (∀ b o, st.heap.get? b = some o → h2.get? b = some o)) Er)
      PySem.F.called_set.init.plain PySem.F.entry_set_init (check_set_init_1 isD ?_)) fun r2 t2 z2 => ?_
    · have cold3 : Ar.in1.in1.in1.handled = none := by simp [cold]
      have start : ∀ {h : Heap}, h.get? st.heap.objs.size = some (bare wo) → SetT wo h st.heap.objs.size (fun y => decide (y ∈ xs.take 0)) (many (xs.take 0)) := fun g => (setT_bare g).eqv fun y => by simp
      have neI : l ≠ (st.heap.push (bare wo)).objs.size := Nat.ne_of_lt (by rw [sz]; exact Nat.lt_succ_of_lt lo)
      have far : st.heap.objs.size ∉ [(st.heap.push (bare wo)).objs.size, l] := by
        simp only [List.mem_cons, List.not_mem_nil, or_false, not_or]
        exact ⟨Nat.ne_of_lt (by rw [sz]; exact Nat.lt_succ_self _), Nat.ne_of_gt lo⟩
      have old : ∀ b o, st.heap.get? b = some o → b ∉ [st.heap.objs.size, (st.heap.push (bare wo)).objs.size] := fun b o g => by
        have lb := Heap.lt_size g
        simp only [List.mem_cons, List.not_mem_nil, or_false, not_or]
        exact ⟨Nat.ne_of_lt lb, Nat.ne_of_lt (by rw [sz]; exact Nat.lt_succ_of_lt lb)⟩
      have ne : (Value.type "tuple" == Value.type "dict") = false := by decide
      have ne2 : (Value.type "list" == Value.type "dict") = false := by decide
      rcases hl with hl | hl
      · obtain ⟨⟨ocls, odict, odata, oslots⟩, g, hc, nl, hd⟩ := hl
        simp only at hc hd
        subst hc; subst hd
        have g2 : (st.heap.push (bare wo)).get? l = some { cls := .type "list", dict := odict, data := .seq its nl, slots := oslots } := Heap.get?_push_of_some _ g
        have s1 := PySem.F.sub_list_set
        have s2 := PySem.F.sub_list_frozenset
        have hl2 : (st.heap.push (bare wo)).IsList l its := ⟨_, g2, rfl, nl, rfl⟩
        unfold Builtin.«set.__init__» noKeywords Builtin.Frozenset.updateFrom
        generalize hPI : pyIter = PI
        wp_walk
        subst hPI
        refine wpAny_pyIter_list hl2 (wpAny_bind (wpAny_runValue ?_))
        refine upd_tx (Walks.list cold3 _ l neI its).toS st.heap.objs.size far xs len room val (its.size - 0) 0 _ rfl (Nat.zero_le _) ⟨⟨_, Heap.get?_push_size _ rfl, rfl, rfl⟩, hl2.push _⟩
          (start (Heap.get?_push_of_some _ gD)) fun t4 mv S => ?_
        obtain ⟨h4, g4, d4, k4, o4⟩ := t4
        have eg : g4 = st.gens := mv.gens
        have ed : d4 = st.drawn := mv.drawn
        have eo : o4 = st.os := mv.os
        subst eg ed eo
        refine wpAny_pure (wpAny_pure ⟨rfl, h4, k4, rfl, S, fun b o q => mv.heap b o (old b o q) (Heap.get?_push_of_some _ (Heap.get?_push_of_some _ q))⟩)
      · obtain ⟨⟨ocls, odict, odata, oslots⟩, g, hc, nl, hd⟩ := hl
        simp only at hc hd
        subst hc; subst hd
        have g2 : (st.heap.push (bare wo)).get? l = some { cls := .type "tuple", dict := odict, data := .seq its nl, slots := oslots } := Heap.get?_push_of_some _ g
        have s1 := PySem.F.sub_tuple_set
        have s2 := PySem.F.sub_tuple_frozenset
        have hl2 : (st.heap.push (bare wo)).IsTuple l its := ⟨_, g2, rfl, nl, rfl⟩
        unfold Builtin.«set.__init__» noKeywords Builtin.Frozenset.updateFrom
        generalize hPI : pyIter = PI
        wp_walk
        subst hPI
        refine wpAny_pyIter_tuple hl2 (wpAny_bind (wpAny_runValue ?_))
        refine upd_tx (Walks.tuple cold3 _ l neI its).toS st.heap.objs.size far xs len room val (its.size - 0) 0 _ rfl (Nat.zero_le _) ⟨⟨_, Heap.get?_push_size _ rfl, rfl, rfl⟩, hl2.push _⟩
          (start (Heap.get?_push_of_some _ gD)) fun t4 mv S => ?_
        obtain ⟨h4, g4, d4, k4, o4⟩ := t4
        have eg : g4 = st.gens := mv.gens
        have ed : d4 = st.drawn := mv.drawn
        have eo : o4 = st.os := mv.os
        subst eg ed eo
        refine wpAny_pure (wpAny_pure ⟨rfl, h4, k4, rfl, S, fun b o q => mv.heap b o (old b o q) (Heap.get?_push_of_some _ (Heap.get?_push_of_some _ q))⟩)
    · rcases r2 with e | fl
      · exact z2
      cases fl with
      | ret r =>
        obtain ⟨rfl, h4, tk, rfl, S, k⟩ := z2
        repeat (any_goals (first | assumption | wp_step))
        exact out _ _ S k
      | _ => exact z2.elim
  | _ => exact z.elim
end
end NU

set_option Elab.async false
set_option linter.all false
set_option maxRecDepth 100000
set_option maxHeartbeats 4000000
/-! Sets of texts under the invariant: set(xs), len(set), sorted(set). -/
namespace NU
open PySem PySem.Spec PyProof.Rows L2
section
variable {Pg : Program} {wo : World} {Ar : Around} {Er : Value → Shared → Prop} {st : Shared} {a : Addr}
/-- texts in the order of their first row are listed once: how many -/
theorem many_of : ∀ l : List Str, l.Nodup → many l = l.length
  | [], _ => rfl
  | x :: l, d => by
    have ⟨d1, d2⟩ := List.nodup_cons.mp d
    show (if x ∈ l then many l else many l + 1) = l.length + 1
    rw [if_neg d1, many_of l d2]
theorem texts_of : ∀ l : List Value, (∀ v ∈ l, ∃ x u, v = Value.str x u) → ∃ xs, StrsAre l xs ∧ xs = l.map fun v => txOf (0, v)
  | [], _ => ⟨[], .nil, rfl⟩
  | v :: l, h => by
    obtain ⟨x, u, rfl⟩ := h v List.mem_cons_self
    obtain ⟨xs, s, e⟩ := texts_of l fun z hz => h z (List.mem_cons_of_mem _ hz)
    exact ⟨x :: xs, .cons x u s, by rw [e]; rfl⟩
theorem sorted_tx {mem : Str → Bool} {cnt : Nat} {Q : Value → Shared → Prop} (R : SetT wo st.heap a mem cnt) (cold : Ar.handled = none) (small : cnt < 64)
    (out : ∀ t p (arr : Array Value) (c : Nat) (ys : List Str), (∀ b o, st.heap.get? b = some o → t.heap.get? b = some o) → t.gens = st.gens → t.os = st.os → st.heap.objs.size ≤ p →
      t.heap.get? p = some (seqObj "list" arr c) → StrsAre arr.toList ys → sortedS ys = true → ys.Nodup → (∀ y, y ∈ ys ↔ mem y = true) → ys.length = cnt → Q (.ref p) t) :
    wpAny (model Pg wo) Ar (call (.builtin "sorted") [.ref a]) Q Er st := by
  obtain ⟨o, es, ep, t, g, ex, d, W⟩ := R
  refine Calls.call_function_entry kind_sorted plain_sorted entry_sorted (args_sorted1 _) ?_
  unfold Builtin.«sorted»
  refine wpAny_bind (m := checkCount "sorted" 1 1 _) (wpAny_pure (wpAny_bind (L2.collect_set (A := Ar.in1) cold ⟨o, g, ex.1, d⟩ W.fit W.few W.ris W.led fun t1 vs k1 z1 g1 o1 pm => ?_)))
  have lv : vs.length = cnt := by rw [pm.length_eq, List.length_map, Array.length_toList]; exact W.num
  obtain ⟨xs, are, exs⟩ := texts_of vs fun v hv => by
    obtain ⟨e, he, q⟩ := List.mem_map.mp (pm.mem_iff.mp hv)
    obtain ⟨x, u, e1, _⟩ := W.tx e he
    exact ⟨x, u, q ▸ e1⟩
  have px : xs.Perm (es.toList.map txOf) := by
    have q := pm.map fun v => txOf (0, v)
    rw [List.map_map, ← exs] at q
    exact q
  refine wpAny_bind (wpAny_newList ?_ (by rw [lv, sizeLine_eq]; omega))
  have oL : (t1.heap.push (seqObj "list" vs.toArray 0)).get? t1.heap.objs.size = some (seqObj "list" vs.toArray 0) := Heap.get?_push_size _ rfl
  refine wpAny_bind (wpAny_holding (wpAny_call_entry slot_list_sort ⟨_, oL, rfl⟩ entry_list_sort (list_sort_treeK strKind_oneLt (s := { t1 with heap := t1.heap.push (seqObj "list" vs.toArray 0) }) oL are.keysOf (fun v1 v2 rest e => keyKind_strs (by rw [← e]; exact are)) (by rw [lv]; exact small)
    fun st' hp hs => ⟨_, rfl, ?_⟩) (args_list_sort _)))
  obtain ⟨ys, q1, q2, q3⟩ := sorted_out_str are hp hs
  obtain ⟨c, hc⟩ := sortedHeap_at (vs := vs) (out := (arrOf st').map (·.2)) oL
  have py := q2.trans px
  refine wpAny_pure ⟨_, rfl, out _ t1.heap.objs.size _ c ys (fun b u e => ?_) g1 o1 z1 hc q1 q3 (py.nodup_iff.mpr W.nd) (fun y => py.mem_iff.trans (W.mm y).symm) (by rw [py.length_eq, List.length_map, Array.length_toList]; exact W.num)⟩
  have q := k1 b u e
  have lb := Heap.lt_size q
  show (sortedHeap (t1.heap.push (seqObj "list" vs.toArray 0)) t1.heap.objs.size vs _).get? b = some u
  rw [sortedHeap_old (Nat.ne_of_lt lb) (by rw [size_push']; exact Nat.lt_succ_of_lt lb)]
  exact Heap.get?_push_of_some _ q
end
section
variable {X : Cx}
/-- the set of the texts xs at a -/
def SetX (wo : World) (a : Addr) (xs : List Str) : HO := .ext fun h => SetT wo h a (fun y => decide (y ∈ xs)) (many xs)
theorem setX_get {pins : List (Addr × Obj)} {σ : L2.St} {H : Hp} {s : Shared} {a : Addr} {xs : List Str} (I : Inv X pins σ H s) (g : H a = some (SetX X.w a xs)) : SetT X.w s.heap a (fun y => decide (y ∈ xs)) (many xs) := (I.hok a _ g).1
/-- set(xs), xs a list or a tuple of texts -/
def rSetX (K : PySem.W.Frag) (wo : World) : List V → Hp → VK → Prop := fun vs H Q => ∃ (l : Addr) (xs : List Str), vs = [.ref l] ∧ (SqL K H l (xs.map V.str) ∨ SqT K H l (xs.map V.str)) ∧ xs.length ≤ 1000 ∧ ∀ p, H p = none → Q (.ref p) (upd H p (SetX wo p xs))
theorem cr_setX (hc : X.calm = true) : CallR X (.type "set") (rSetX X.K X.w) := by
  intro pins s σ H vs us Q I r h
  obtain ⟨l, xs, rfl, at_, few, q⟩ := h
  rw [Vals.ref1 r]
  have room : xs.length + 1 < scanBound := Nat.lt_of_le_of_lt (Nat.succ_le_succ few) (by decide)
  have look : ∃ its : Array Value, Vals (xs.map V.str) its.toList ∧ (s.heap.IsList l its ∨ s.heap.IsTuple l its) := by
    rcases at_ with z | z
    · obtain ⟨its, rv, pl, _⟩ := I.list z
      exact ⟨its.toArray, rv, .inl pl.isList⟩
    · obtain ⟨its, rv, pl, _⟩ := I.tuple z
      exact ⟨its.toArray, rv, .inr pl⟩
  obtain ⟨its, rv, pl⟩ := look
  refine call_set xs (I.ok.hd hc) pl rv.strs room fun h2 tk R k => ?_
  refine ⟨.ref _, upd H s.heap.objs.size (SetX X.w s.heap.objs.size xs), I.laid (t' := tk) k (Nat.le_refl _) ⟨R, ?_, fun h3 h4 p k2 => SetT.mv p k2⟩, rfl, q _ (I.hok.fresh (Nat.le_refl _))⟩
  have ⟨o, _, _, _, g, _⟩ := R
  exact ⟨o, g⟩
/-- len of a set of texts -/
def rLenX (wo : World) : List V → Hp → VK → Prop := fun vs H Q => ∃ (a : Addr) (xs : List Str), vs = [.ref a] ∧ H a = some (SetX wo a xs) ∧ Q (.int ((many xs : Nat) : Int)) H
theorem cr_lenX : CallR X (.builtin "len") (rLenX X.w) := by
  intro pins s σ H vs us Q I r h
  obtain ⟨a, xs, rfl, g, q⟩ := h
  obtain ⟨o, es, ep, t, go, ex, d, W⟩ := setX_get I g
  rw [Vals.ref1 r]
  have low : es.size < 2 ^ 24 := Nat.lt_of_lt_of_le W.few (by decide)
  refine call_len_set go ex d W.fit (by omega) ?_
  rw [W.num]
  exact ⟨.int ((many xs : Nat) : Int), H, I.tok _, ⟨_, rfl⟩, q⟩
/-- sorted of a set of fewer than 64 texts -/
def rSrtX (wo : World) : List V → Hp → VK → Prop := fun vs H Q => ∃ (a : Addr) (xs : List Str), vs = [.ref a] ∧ H a = some (SetX wo a xs) ∧ xs.length < 64 ∧
  ∀ (ys : List Str) (p : Addr), sortedS ys = true → ys.Nodup → (∀ y, y ∈ ys ↔ y ∈ xs) → H p = none → Q (.ref p) (upd H p (.lst (ys.map V.str)))
theorem cr_srtX (hc : X.calm = true) : CallR X (.builtin "sorted") (rSrtX X.w) := by
  intro pins s σ H vs us Q I r h
  obtain ⟨a, xs, rfl, ga, few, q⟩ := h
  rw [Vals.ref1 r]
  have low := many_le xs
  refine sorted_tx (setX_get I ga) (I.ok.hd hc) (by omega) fun t p arr c ys k g o lp gp are srt nd mm len => ?_
  have fits : (ys.map V.str).length ≤ sizeLine := by rw [List.length_map, len, sizeLine_eq]; omega
  have new : H p = none := I.hok.fresh lp
  have J : Inv X pins σ (upd H p (.lst (ys.map V.str))) { s with heap := t.heap, gens := t.gens, drawn := t.drawn, toks := t.toks } :=
    I.call (ch := []) (Un.laid k lp new) (I.hok.laid k lp ⟨fits, arr.toList, c, vals_of_strs are, gp⟩) (by rw [g]; exact I.bare) nofun
  have same : t = { s with heap := t.heap, gens := t.gens, drawn := t.drawn, toks := t.toks } := by
    obtain ⟨_, _, _, _, _⟩ := t
    subst o
    rfl
  rw [same]
  exact ⟨.ref p, _, J, rfl, q ys p srt nd (fun y => (mm y).trans decide_eq_true_iff) new⟩
end
end NU

set_option Elab.async false
set_option linter.all false
set_option maxRecDepth 100000
set_option maxHeartbeats 4000000
/-! Defs that raise where nothing is handled, said with the context None: what they ask; the weaker promise. -/
namespace NN
open PySem PySem.Spec PyProof.Rows L2
section
variable {P : Program} {w : World} {K : PySem.W.Frag} {mg : Str → Option Value} {base : Heap} {k : Nat} {f : Addr} {fd : FuncData} {ps : List Str} {sp : Sp}
theorem cx_less {outer : List Env} {H : Hp} {s s' : Shared} {E : XK} {u : Value} (h : L2N.CX P w outer H s E u s') : L2.CX P w outer H s E u s' :=
  have ⟨a, B, H2, cls, d, e, fl, r⟩ := h
  ⟨a, B, H2, cls, d, e, L2H.flyingZ_imp (fun _ z => z.zc) fl, r⟩
theorem cr_less {outer : List Env} {H : Hp} {s s' : Shared} {Q : VK} {E : XK} {r : Result} (h : CR (L2N.CX P w) outer P w H s Q E r s') : CR (L2.CX P w) outer P w H s Q E r s' := by
  cases r with
  | error e => exact cx_less h
  | ok fl => cases fl <;> exact h
theorem fnOk_less (F : FnOk P w K mg base (L2N.CX P w) k f fd ps sp) : FnOk P w K mg base (L2.CX P w) k f fd ps sp :=
  ⟨F.len, fun A outer s H args us vs Q E hr e0 hb r h => codeAny_mono (F.run A outer s H args us vs Q E hr e0 hb r h) fun _ _ q => cr_less q⟩
theorem fnR_less (F : FnR P w K mg base (L2N.CX P w) k f sp) : FnR P w K mg base (L2.CX P w) k f sp :=
  fun A outer s H us vs Q E hr e0 r h => codeAny_mono (F A outer s H us vs Q E hr e0 r h) fun _ _ q => cr_less q
theorem upN : StX.CXUp (L2N.CX P w) := by
  intro outer s H s2 H2 E e s' un kp ho h
  obtain ⟨a, B, H3, cls, d, ea, fl, hok, ub, na, os, ag, he⟩ := h
  refine ⟨a, B, H3, cls, d, ea, fl, hok, { keep := fun b o q n hb => ?_, slot := fun b o q hb => ub.slot b o (kp b o q) hb, free := fun b o q n => ?_, there := fun b o q hb => ub.there b o (kp b o q) hb, tups := fun b xs q => ub.tups b xs (un.tups b xs q), frzs := fun b o xs q => ub.frzs b o xs (un.frzs b o xs q), tbls := fun b ts q => ?_ }, na, os.trans ho, ag, he⟩
  · exact ub.keep b o (kp b o q) (un.free b o q n (by simp)) hb
  · exact ub.free b o (kp b o q) (un.free b o q n (by simp))
  · obtain ⟨m1, e1⟩ := un.tbls b ts q
    obtain ⟨m2, e2⟩ := ub.tbls b _ e1
    exact ⟨m1 ++ m2, e2.trans (by rw [Array.append_assoc])⟩
/-- a def of the text that may raise, its exceptions with the context None -/
theorem okN {x qual : Str} {st : Stmt} {N : List Str} (F : Fun K x qual st f fd) (S : FnScope N ps (defScope st)) (len : ∀ vs H Q E, sp vs H Q E → vs.length = ps.length)
    (run : ∀ (cdv : Value) (A : Around) (outer : List Env) (s : Shared) (H : Hp) (vs : List V) (Q : VK) (E : XK), Room k (A.deeper (envOfC qual (defScope st) s.heap.objs.size f cdv)) → sp vs H Q E →
      ∃ t, PSs (cxOf (L2N.CX P w) P w K mg base N qual (defScope st) f cdv A outer s H E) (defBody st) t ∧ t { nx := fun _ H2 => Q .non H2, rt := Q } (start N vs) H) : FnOk P w K mg base (L2N.CX P w) (k + 1) f fd ps sp := by
  obtain ⟨oc, od, kV, doc, pm, an, cdv, ct, osl, e, lk, cd⟩ := F.ex
  subst e
  exact fn_of lk cd S len fun A outer s H vs Q E hr h => run cdv A outer s H vs Q E hr h
end
theorem passN {X : Cx} {E : XK} (tk : L2N.Takes X (fun cls d _ H => E cls d H)) : Passes (L2N.CX X.prog X.w) X E := fun pins σ H s e s' I h => L2N.passAt tk σ pins H s e s' I h
section
variable {X : Cx} {CX : CXT} {x : Str} {e : Expr} {es : List Expr} {ta : TA} {p pos : Pos} {C fI : Addr} {k : Nat} {fd : FuncData} {ps : List Str} {sp : Sp}
/-- C(e, ..), an exception class of ours with an __init__, where nothing is handled: made with the context None -/
theorem pmkN (T : OexC X.K C) (iC : PySem.W.findIn X.K (.ref C) "__init__" = some (some (.ref fI))) (tI : PySem.W.typeIn X.K (.ref fI) = some (.type "function"))
    (F1 : FnOk X.prog X.w X.K X.mg X.base CX k fI fd ps sp) (hr : Room (k + 1) X.A) (hb : Binds X.K fd ps []) (hx : Passes CX X (fun _ _ _ => False)) (hg : Gl X x) (hm : X.mg x = some (.ref C)) (ha : PA X (e :: es) ta)
    (hdb : (x == ("__debug__" : Str)) = false := by decide) (he : starEach (e :: es) X.env = (false, eval e X.env) :: starEach es X.env := by rfl) (hpl : (backTo pos (starEach es X.env)).any (·.1) = false := by rfl) :
    L2N.PMk X (.Call (.Name x p) (e :: es) [] pos) (tMkO C sp [] ta) := by
  intro pins s σ H Q I h
  have tc := T.cls
  obtain ⟨nm, q, N, bs, bm, sn, sub, ab, col, dd, k0, k1, k2, k3, k5, hC, hbm⟩ := tc
  refine wpAny_Call_Name_kw (ld_glob I hg hm ?_ hdb)
  refine PySem.W.callWith_K (h₀ := X.base) I.ok.mod.kin T.kC (thn (ha.run pos pins s σ H _ I h) fun us s1 ⟨vs, H1, I1, r1, few, q1⟩ => ⟨I1.kIn, ?_⟩) he hpl
  show wpAny _ _ (call (.ref C) us) _ _ _
  obtain ⟨hp, g, dr, tk, os⟩ := s1
  have up : hp.objs.size ≤ hp.objs.size + 1 := Nat.le_succ _
  have new : H1 (hp.objs.size + 1) = none := I1.hok.fresh up
  have ask := q1 (hp.objs.size + 1) new
  rw [List.append_nil] at ask
  let hp2 : Heap := (hp.push (PySem.W.kdv_tup us)).push (PySem.HandSPX.excO C hp.objs.size)
  have keeps : ∀ b o, hp.get? b = some o → hp2.get? b = some o := fun b o z => Heap.get?_push_of_some _ (Heap.get?_push_of_some _ z)
  have at_ : hp2.get? (hp.objs.size + 1) = some (PySem.HandSPX.excO C hp.objs.size) := by
    show ((hp.push (PySem.W.kdv_tup us)).push (PySem.HandSPX.excO C hp.objs.size)).get? (hp.objs.size + 1) = _
    heap_get
  have I2 : Inv X pins σ (upd H1 (hp.objs.size + 1) (exo (hp.objs.size + 1) C none)) ⟨hp2, g, dr, tk, os⟩ := I1.laid (t' := tk) (a := hp.objs.size + 1) (o := exo (hp.objs.size + 1) C none) (h' := hp2) keeps up (exo_ok at_)
  have r2 : Vals (V.ref (hp.objs.size + 1) :: vs) (Value.ref (hp.objs.size + 1) :: us) := .cons rfl r1
  have len : (Value.ref (hp.objs.size + 1) :: us ++ []).length = ps.length := by
    rw [List.append_nil]
    exact r2.length.symm.trans (F1.len _ _ _ _ ask)
  have low : us.length ≤ sizeLine := by
    rw [← Paired.length r1, sizeLine_eq]
    omega
  have bd := hb _ (Value.ref (hp.objs.size + 1) :: us) I2.kIn len
  rw [List.append_nil] at bd
  refine wpAny_call (PySem.HandSPX.call_own F.excBase_ValueError (fun Y => PySem.HandSPX.refsVE_contains Y bm hbm) (I1.kIn _ _ hC) (PySem.W.looks_findIn I1.kIn iC) (fun self => PySem.W.bind_fn I1.kIn self tI) low
    (codeAny_mono (F1.run _ X.stack _ _ ⟨Value.ref (hp.objs.size + 1) :: us, []⟩ _ _ _ (fun _ _ _ => False) (hr.make C us []) (I2.env0.make C us []) bd r2 ask) fun r s2 z => ?_))
  cases r with
  | error er => exact hx pins σ _ _ er s2 I2 z
  | ok fl =>
    cases fl with
    | ret u =>
      obtain ⟨v, H2, os2, bare2, un2, hok2, rv, ev, d, fs, ea, ed, hd1, q2⟩ := z
      subst ev
      obtain ⟨h2, g2, d2, t2, os3⟩ := s2
      obtain ⟨t0, G, J, kG, ge, hoe, na⟩ := mk_end0 (d2 := d2) (t2 := t2) I1 up keeps un2 hok2 os2 bare2 ea ed hd1
      refine ⟨rv, hp.objs.size + 1, _, _, ⟨G, g2, d2, t2, os3⟩, _, .ref C, some d, rfl, J, kG, ge, hoe, ⟨rfl, rfl, fun ws hv => ?_⟩, rfl, rfl, na, rfl, bare2, raises_own T.exC T.tyC, q2⟩
      cases hv
      rfl
    | next => exact z.elim
    | brk => exact z.elim
    | cont => exact z.elim
end
end NN

set_option Elab.async false
set_option linter.all false
set_option maxRecDepth 100000
set_option maxHeartbeats 4000000
namespace K07
open PySem L2 NX NU
abbrev sErrN : Stmt := inClass (top 3) 0
abbrev sErrD : Stmt := inClass (top 4) 0
abbrev sErrT : Stmt := inClass (top 8) 0
abbrev sErrM : Stmt := inClass (top 9) 0
abbrev sCns : Stmt := top 24
abbrev sCun : Stmt := top 25
abbrev sAsc : Stmt := top 26
abbrev sCus : Stmt := top 32
/-- what stood stands, and an error's dict at d is new, with its one field -/
def Told (H : Hp) (d : Addr) (x : Str) (v : V) (H' : Hp) : Prop := Same H H' ∧ H d = none ∧ H' d = some (.xd [(x, v)])
theorem sameNone {H H' : Hp} {d : Addr} (s : Same H H') (h : H' d = none) : H d = none := by
  cases e : H d with
  | none => rfl
  | some o =>
    rw [s d o e] at h
    cases h
theorem Told.old {H0 H H' : Hp} {d : Addr} {x : Str} {v : V} (s : Same H0 H) (t : Told H d x v H') : Told H0 d x v H' := ⟨s.trans t.1, sameNone s t.2.1, t.2.2⟩
def spErr (K : PySem.W.Frag) (x : Str) : Sp := fun vs H Q _ => ∃ (a C : Addr) (v : V), vs = [.ref a, v] ∧ OexC K C ∧ PySem.W.findIn K (.ref C) x = some none ∧ H a = some (exo a C none) ∧
  ∀ dx, H dx = none → dx ≠ a → Q .non (upd (upd H dx (exd dx [(x, v)])) a (exo a C (some dx)))
theorem scErrN : FnScope ["self", "value"] ["self", "value"] (defScope sErrN) := ⟨rfl, rfl, rfl, by decide +kernel, rfl, by decide +kernel, by decide +kernel⟩
theorem scErrD : FnScope ["self", "value"] ["self", "value"] (defScope sErrD) := ⟨rfl, rfl, rfl, by decide +kernel, rfl, by decide +kernel, by decide +kernel⟩
theorem scErrT : FnScope ["self", "name"] ["self", "name"] (defScope sErrT) := ⟨rfl, rfl, rfl, by decide +kernel, rfl, by decide +kernel, by decide +kernel⟩
theorem scErrM : FnScope ["self", "most"] ["self", "most"] (defScope sErrM) := ⟨rfl, rfl, rfl, by decide +kernel, rfl, by decide +kernel, by decide +kernel⟩
theorem scCns : FnScope ["values", "value"] ["values"] (defScope sCns) := ⟨rfl, rfl, rfl, by decide +kernel, rfl, by decide +kernel, by decide +kernel⟩
theorem scCun : FnScope ["names", "seen", "name"] ["names"] (defScope sCun) := ⟨rfl, rfl, rfl, by decide +kernel, rfl, by decide +kernel, by decide +kernel⟩
theorem scAsc : FnScope ["names"] ["names"] (defScope sAsc) := ⟨rfl, rfl, rfl, by decide +kernel, rfl, by decide +kernel, by decide +kernel⟩
theorem scCus : FnScope ["names"] ["names"] (defScope sCus) := ⟨rfl, rfl, rfl, by decide +kernel, rfl, by decide +kernel, by decide +kernel⟩
/-- a name, or something that is none -/
def IsNm (v : V) (z : Str) : Prop := v = .str z ∧ z.length ≤ 1000 ∧ nm z = true
def NoNm (K : PySem.W.Frag) (H : Hp) (v : V) : Prop := (∃ z, v = .str z ∧ z.length ≤ 1000 ∧ nm z = false) ∨ NoStr K H v
/-- the texts ws are names -/
def Nms (ws : List Str) : Prop := ∀ z ∈ ws, z.length ≤ 1000 ∧ nm z = true
/-- the first of some values that is no name, behind the names ws -/
def Bad (K : PySem.W.Frag) (H : Hp) (xs : List V) (ws : List Str) (v : V) : Prop := ∃ l, xs = ws.map V.str ++ v :: l ∧ Nms ws ∧ NoNm K H v
section
variable {P : Program} {w : World} {K : PySem.W.Frag} {mg : Str → Option Value} {base : Heap}
theorem ok_errN {f : Addr} {fd : FuncData} (F : Fun K "__init__" "BadName.__init__" sErrN f fd) : FnOk P w K mg base CX0 1 f fd ["self", "value"] (spErr K "value") := by
  refine F.ok scErrN (fun vs H Q E h => ?_) (fun cdv A outer s H vs Q E hr h => ?_)
  · obtain ⟨a, C, v, rfl, _⟩ := h
    rfl
  · obtain ⟨a, C, v, rfl, T, hf, ha, k⟩ := h
    exact ⟨_, (pss_one (ps_ost (pv 0) (pv 1))), _, rfl, _, rfl, a, C, rfl, T, hf, .inl ⟨ha, fun dx h1 h2 => k dx h1 h2⟩⟩
theorem ok_errD {f : Addr} {fd : FuncData} (F : Fun K "__init__" "BadDeed.__init__" sErrD f fd) : FnOk P w K mg base CX0 1 f fd ["self", "value"] (spErr K "value") := by
  refine F.ok scErrD (fun vs H Q E h => ?_) (fun cdv A outer s H vs Q E hr h => ?_)
  · obtain ⟨a, C, v, rfl, _⟩ := h
    rfl
  · obtain ⟨a, C, v, rfl, T, hf, ha, k⟩ := h
    exact ⟨_, (pss_one (ps_ost (pv 0) (pv 1))), _, rfl, _, rfl, a, C, rfl, T, hf, .inl ⟨ha, fun dx h1 h2 => k dx h1 h2⟩⟩
theorem ok_errT {f : Addr} {fd : FuncData} (F : Fun K "__init__" "Twice.__init__" sErrT f fd) : FnOk P w K mg base CX0 1 f fd ["self", "name"] (spErr K "name") := by
  refine F.ok scErrT (fun vs H Q E h => ?_) (fun cdv A outer s H vs Q E hr h => ?_)
  · obtain ⟨a, C, v, rfl, _⟩ := h
    rfl
  · obtain ⟨a, C, v, rfl, T, hf, ha, k⟩ := h
    exact ⟨_, (pss_one (ps_ost (pv 0) (pv 1))), _, rfl, _, rfl, a, C, rfl, T, hf, .inl ⟨ha, fun dx h1 h2 => k dx h1 h2⟩⟩
theorem ok_errM {f : Addr} {fd : FuncData} (F : Fun K "__init__" "TooMany.__init__" sErrM f fd) : FnOk P w K mg base CX0 1 f fd ["self", "most"] (spErr K "most") := by
  refine F.ok scErrM (fun vs H Q E h => ?_) (fun cdv A outer s H vs Q E hr h => ?_)
  · obtain ⟨a, C, v, rfl, _⟩ := h
    rfl
  · obtain ⟨a, C, v, rfl, T, hf, ha, k⟩ := h
    exact ⟨_, (pss_one (ps_ost (pv 0) (pv 1))), _, rfl, _, rfl, a, C, rfl, T, hf, .inl ⟨ha, fun dx h1 h2 => k dx h1 h2⟩⟩
/-- an error class x of ours with its __init__, which keeps the field y -/
structure ErrC (P : Program) (w : World) (K : PySem.W.Frag) (mg : Str → Option Value) (base : Heap) (x y : Str) (C fI : Addr) : Prop where
  O : OexC K C
  i : PySem.W.findIn K (.ref C) "__init__" = some (some (.ref fI))
  t : PySem.W.typeIn K (.ref fI) = some (.type "function")
  ok : ∃ fd, FnOk P w K mg base CX0 1 fI fd ["self", y] (spErr K y) ∧ Binds K fd ["self", y] []
  g : mg x = some (.ref C)
  v : PySem.W.findIn K (.ref C) y = some none
/-- what making an error of ours asks -/
theorem mkO_of {H : Hp} {C : Addr} {y : Str} {v : V} {Q : XK} (O : OexC K C) (hv : PySem.W.findIn K (.ref C) y = some none) (k : ∀ d H', Told H d y v H' → Q (.ref C) (some d) H') :
    [v].length ≤ 1000 ∧ ∀ a : Addr, H a = none → spErr K y (.ref a :: ([v] ++ [])) (upd H a (exo a C none)) (fun x H2 => x = .non ∧ ∃ (d : Addr) (fs : List (Str × V)), H2 a = some (exo a C (some d)) ∧ H2 d = some (exd d fs) ∧ H d = none ∧ Q (.ref C) (some d) (upd (L2.del H2 a) d (.xd fs))) (fun _ _ _ => False) := by
  refine ⟨by show 1 ≤ 1000; decide, fun a ha => ⟨a, C, v, rfl, O, hv, upd_same, fun d hd hne => ?_⟩⟩
  have hd' : H d = none := by rw [upd_ne hne] at hd; exact hd
  refine ⟨rfl, d, [(y, v)], upd_same, by rw [upd_ne hne]; exact upd_same, hd', k d _ ⟨fun b o hb => ?_, hd', upd_same⟩⟩
  have n1 : b ≠ d := fun e => by rw [e, hd'] at hb; cases hb
  have n2 : b ≠ a := fun e => by rw [e, ha] at hb; cases hb
  rw [upd_ne n1]
  unfold L2.del
  rw [if_neg n2, upd_ne n2, upd_ne n1, upd_ne n2]
  exact hb
/-- check_names(values) -/
def spCns (K : PySem.W.Frag) (CN : Addr) : Sp := fun vs H Q E => ∃ (p : Addr) (xs : List V), vs = [.ref p] ∧ SqT K H p xs ∧
  ((∃ ws, xs = ws.map V.str ∧ Nms ws ∧ Q .non H) ∨ ∃ ws v, Bad K H xs ws v ∧ ∀ d H', Told H d "value" v H' → E (.ref CN) (some d) H')
theorem ok_cns {CN fI f : Addr} {fd : FuncData} (F : Fun K "check_names" "check_names" sCns f fd) (cIs : C8.Cal P w K mg base 1 "is_name" (spIs K) []) (B : ErrC P w K mg base "BadName" "value" CN fI) :
    FnOk P w K mg base (L2N.CX P w) 3 f fd ["values"] (spCns K CN) := by
  obtain ⟨fde, Fe, hbe⟩ := B.ok
  refine NN.okN F scCns (fun vs H Q E h => ?_) (fun cdv A outer s H vs Q E hr h => ?_)
  · obtain ⟨p, xs, rfl, _⟩ := h
    rfl
  · obtain ⟨p, xs, rfl, hS, h⟩ := h
    refine ⟨_, (pss_one (ps_for (passes_of rfl) rfl (pi_tup (pv 0)) (pg_name (i := 1) scCns.nd rfl (Or.inl rfl)) (pss_one (ps_if (pt_not (pt_val (C8.pe_c cIs hr (by decide) rfl (pa_cons (pv 1) pa_nil))))
      (pss_one (L2N.ps_raise rfl (L2N.takes_of rfl rfl rfl rfl) (NN.pmkN B.O B.i B.t Fe hr hbe pass0 rfl B.g (pa_cons (pv 1) pa_nil)))) pss_nil)))), ?_⟩
    refine ⟨_, rfl, p, rfl, ⟨xs, hS⟩, ?_⟩
    rcases h with ⟨ws, rfl, hn, q⟩ | ⟨ws, v, ⟨l, rfl, hn, bad⟩, q⟩
    · refine for_tup (xs := ws.map V.str) (fun i σ H' => H' = H ∧ ∃ y, σ = [some (.ref p), y]) ⟨rfl, _, rfl⟩ (fun i σ H' _ ⟨e, _⟩ => by rw [e]; exact hS) (fun i x σ H' hx ⟨e, y, eσ⟩ => ?_) (fun σ H' ⟨e, _⟩ => by rw [e]; exact q)
      subst e eσ
      rw [List.getElem?_map] at hx
      obtain ⟨z, hz, rfl⟩ : ∃ z, ws[i]? = some z ∧ V.str z = x := by
        cases e : ws[i]? with
        | none => rw [e] at hx; cases hx
        | some z => rw [e] at hx; exact ⟨z, rfl, Option.some.inj hx⟩
      obtain ⟨h1, h2⟩ := hn z (List.mem_of_getElem? hz)
      refine ⟨_, rfl, _, rfl, .inl ⟨z, rfl, h1, ?_⟩⟩
      rw [h2]
      exact ⟨_, rfl, iteF ⟨rfl, _, rfl⟩⟩
    · refine for_tup (xs := ws.map V.str ++ v :: l) (fun i σ H' => i ≤ ws.length ∧ H' = H ∧ ∃ y, σ = [some (.ref p), y]) ⟨Nat.zero_le _, rfl, _, rfl⟩ (fun i σ H' _ ⟨_, e, _⟩ => by rw [e]; exact hS) (fun i x σ H' hx ⟨hi, e, y, eσ⟩ => ?_) (fun σ H' ⟨hi, _⟩ => ?_)
      · subst e eσ
        by_cases lt : i < ws.length
        · rw [List.getElem?_append_left (by rw [List.length_map]; exact lt), List.getElem?_map, List.getElem?_eq_getElem lt] at hx
          obtain rfl := Option.some.inj hx
          obtain ⟨h1, h2⟩ := hn ws[i] (List.getElem_mem lt)
          refine ⟨_, rfl, _, rfl, .inl ⟨ws[i], rfl, h1, ?_⟩⟩
          rw [h2]
          exact ⟨_, rfl, iteF ⟨lt, rfl, _, rfl⟩⟩
        · obtain rfl : i = ws.length := by omega
          rw [List.getElem?_append_right (by rw [List.length_map]; exact Nat.le_refl _), List.length_map, Nat.sub_self] at hx
          obtain rfl : v = x := Option.some.inj hx
          refine ⟨_, rfl, _, rfl, ?_⟩
          rcases bad with ⟨z, rfl, hz, hb⟩ | bad
          · refine .inl ⟨z, rfl, hz, ?_⟩
            rw [hb]
            exact ⟨_, rfl, iteT ⟨_, rfl, mkO_of B.O B.v q⟩⟩
          · exact .inr ⟨bad, _, rfl, iteT ⟨_, rfl, mkO_of B.O B.v q⟩⟩
      · rw [List.length_append, List.length_map, List.length_cons] at hi
        omega
end
end K07

set_option Elab.async false
set_option linter.all false
set_option maxRecDepth 100000
set_option maxHeartbeats 4000000
namespace K07
open PySem L2 NX NU
open PyProof.Rows (sortedS)
theorem sqT_same {K : PySem.W.Frag} {H H' : Hp} {a : Addr} {xs : List V} (s : Same H H') (h : SqT K H a xs) : SqT K H' a xs := by
  rcases h with (h | ⟨o, h⟩) | h
  · exact .inl (.inl (s _ _ h))
  · exact .inl (.inr ⟨o, s _ _ h⟩)
  · exact .inr h
/-- a def of ours that may raise, called by its name -/
structure CalL (P : Program) (w : World) (K : PySem.W.Frag) (mg : Str → Option Value) (base : Heap) (k : Nat) (x : Str) (sp : Sp) : Prop where
  ex : ∃ (f : Addr) (fd : FuncData) (ps : List Str), FnOk P w K mg base (L2N.CX P w) k f fd ps sp ∧ mg x = some (.ref f) ∧ PySem.W.keepIn K (.ref f) = true ∧ Binds K fd ps []
theorem pe_cL {X : Cx} {k j : Nat} {x : Str} {sp : Sp} {E : XK} {e : Expr} {es : List Expr} {t : TA} {p pos : Pos} (c : CalL X.prog X.w X.K X.mg X.base k x sp) (hr : Room j X.A) (hk : k ≤ j) (hg : Gl X x) (hx : Passes (L2N.CX X.prog X.w) X E) (ha : PA X (e :: es) t)
    (hdb : (x == ("__debug__" : Str)) = false := by decide) (he : starEach (e :: es) X.env = (false, eval e X.env) :: starEach es X.env := by rfl) (hpl : (backTo pos (starEach es X.env)).any (·.1) = false := by rfl) :
    PE X (.Call (.Name x p) (e :: es) [] pos) (tCall sp [] E t) := by
  obtain ⟨f, fd, ps, F, hm, kp, b⟩ := c.ex
  exact pe_call F (hr.mono hk) hg hm kp b .nil hx ha hdb he hpl
/-- no text stands twice; the first that does, at place i -/
def NoRep (ws : List Str) : Prop := ∀ i z, ws[i]? = some z → z ∉ ws.take i
def Rep (ws : List Str) (i : Nat) (z : Str) : Prop := ws[i]? = some z ∧ z ∈ ws.take i ∧ ∀ j, j < i → ∀ y, ws[j]? = some y → y ∉ ws.take j
theorem rep_or (ws : List Str) : NoRep ws ∨ ∃ i z, Rep ws i z := by
  suffices h : ∀ n, n ≤ ws.length → (∀ j, j < n → ∀ y, ws[j]? = some y → y ∉ ws.take j) ∨ ∃ i z, Rep ws i z by
    rcases h ws.length (Nat.le_refl _) with h | h
    · exact .inl fun i z e => h i (List.getElem?_eq_some_iff.mp e).1 z e
    · exact .inr h
  intro n
  induction n with
  | zero => exact fun _ => .inl nofun
  | succ n ih =>
    intro hn
    rcases ih (by omega) with h | h
    · have at_ : ws[n]? = some ws[n] := List.getElem?_eq_getElem (by omega)
      by_cases m : ws[n] ∈ ws.take n
      · exact .inr ⟨n, _, at_, m, h⟩
      · refine .inl fun j hj y e => ?_
        by_cases e2 : j = n
        · subst e2
          rw [at_] at e
          exact Option.some.inj e ▸ m
        · exact h j (by omega) y e
    · exact .inr h
/-- check_unlike(names), the names texts -/
def spCun (K : PySem.W.Frag) (CT : Addr) : Sp := fun vs H Q E => ∃ (p : Addr) (ws : List Str), vs = [.ref p] ∧ SqT K H p (ws.map V.str) ∧ ws.length ≤ 1000 ∧
  ((NoRep ws ∧ ∀ H', Same H H' → Q .non H') ∨ ∃ i z, Rep ws i z ∧ ∀ d H', Told H d "name" (.str z) H' → E (.ref CT) (some d) H')
/-- ascending(names) -/
structure TxtA (mg : Str → Option Value) : Prop where
  bset : mg "set" = none
  bsorted : mg "sorted" = none
  btuple : mg "tuple" = none
def spAsc (K : PySem.W.Frag) : Sp := fun vs H Q _ => ∃ (p : Addr) (ws : List Str), vs = [.ref p] ∧ (SqL K H p (ws.map V.str) ∨ SqT K H p (ws.map V.str)) ∧ ws.length < 64 ∧
  ∀ (ys : List Str) q H', sortedS ys = true → ys.Nodup → (∀ y, y ∈ ys ↔ y ∈ ws) → Same H H' → H q = none → H' q = some (.tup (ys.map V.str)) → Q (.ref q) H'
section
variable {P : Program} {w : World} {K : PySem.W.Frag} {mg : Str → Option Value} {base : Heap}
theorem ok_cun {CT fI f : Addr} {fd : FuncData} (F : Fun K "check_unlike" "check_unlike" sCun f fd) (B : ErrC P w K mg base "Twice" "name" CT fI) :
    FnOk P w K mg base (L2N.CX P w) 3 f fd ["names"] (spCun K CT) := by
  obtain ⟨fde, Fe, hbe⟩ := B.ok
  refine NN.okN F scCun (fun vs H Q E h => ?_) (fun cdv A outer s H vs Q E hr h => ?_)
  · obtain ⟨p, ws, rfl, _⟩ := h
    rfl
  · obtain ⟨p, ws, rfl, hS, few, h⟩ := h
    have hu := hu_of hr
    refine ⟨_, (pss_cons (ps_set (i := 1) scCun.nd rfl (Or.inl rfl) pe_dnewK) (pss_one (ps_for (passes_of rfl) rfl (pi_tup (pv 0)) (pg_name (i := 2) scCun.nd rfl (Or.inl rfl))
      (pss_cons (ps_if (pt_cmp (pc_din hu (pv 2) (pv 1))) (pss_one (L2N.ps_raise rfl (L2N.takes_of rfl rfl rfl rfl) (NN.pmkN B.O B.i B.t Fe hr hbe pass0 rfl B.g (pa_cons (pv 2) pa_nil)))) pss_nil)
        (pss_one (ps_dput hu (pv 1) (pv 2) pe_bl rfl)))))), ?_⟩
    intro d hd
    refine ⟨_, rfl, p, rfl, ⟨_, sqT_same (Same.new hd) hS⟩, ?_⟩
    have step : ∀ (i : Nat) (z : Str) (H' : Hp) (kvs : List (Key × V)), ws[i]? = some z → (∀ b o, H b = some o → H' b = some o) → H' d = some (.dK kvs) → kvs.length ≤ i → (∀ y : Str, (valV kvs (.inr y)).isSome = decide (y ∈ ws.take i)) →
        z ∉ ws.take i → (∀ b o, H b = some o → upd H' d (.dK (putK kvs (.inr z) (.bl true))) b = some o) ∧ (putK kvs (.inr z) (.bl true)).length ≤ i + 1 ∧ ∀ y : Str, (valV (putK kvs (.inr z) (.bl true)) (.inr y)).isSome = decide (y ∈ ws.take (i + 1)) := fun i z H' kvs hz s g l k no => by
      refine ⟨fun b o hb => ?_, Nat.le_trans (length_putK kvs _ _) (by omega), fun y => ?_⟩
      · have ne : b ≠ d := fun e => by rw [e, hd] at hb; cases hb
        rw [upd_ne ne]
        exact s b o hb
      · rw [valV_put, List.take_add_one, hz]
        by_cases e : y = z
        · subst e
          rw [if_pos rfl]
          simp
        · rw [if_neg (fun q => e (Sum.inr.inj q)), k y]
          simp [e]
    let Iv : Nat → L2.St → Hp → Prop := fun i σ H' => (∀ b o, H b = some o → H' b = some o) ∧ (∃ kvs, H' d = some (.dK kvs) ∧ kvs.length ≤ i ∧ ∀ y : Str, (valV kvs (.inr y)).isSome = decide (y ∈ ws.take i)) ∧ ∃ y, σ = [some (.ref p), some (.ref d), y]
    have base0 : Iv 0 [some (.ref p), some (.ref d), none] (upd H d (.dK [])) := ⟨Same.new hd, ⟨[], upd_same, Nat.le_refl _, fun y => by simp [valV]⟩, _, rfl⟩
    rcases h with ⟨nr, q⟩ | ⟨n, zn, ⟨hn, hin, hfirst⟩, q⟩
    · refine for_tup (xs := ws.map V.str) Iv base0 (fun i σ H' _ ⟨s, _⟩ => sqT_same s hS) (fun i x σ H' hx ⟨s, ⟨kvs, g, l, k⟩, y, eσ⟩ => ?_) (fun σ H' ⟨s, _⟩ => q _ s)
      subst eσ
      rw [List.getElem?_map] at hx
      obtain ⟨z, hz, rfl⟩ : ∃ z, ws[i]? = some z ∧ V.str z = x := by
        cases e : ws[i]? with
        | none => rw [e] at hx; cases hx
        | some z => rw [e] at hx; exact ⟨z, rfl, Option.some.inj hx⟩
      have no := nr i z hz
      obtain ⟨a1, a2, a3⟩ := step i z H' kvs hz s g l k no
      refine ⟨_, rfl, _, rfl, _, _, rfl, DGet.k (k := .inr z) g, ?_⟩
      rw [k z, decide_eq_false no]
      exact ⟨_, rfl, iteF ⟨_, rfl, _, rfl, _, _, rfl, DPut.k (k := .inr z) g (by have := (List.getElem?_eq_some_iff.mp hz).1; rw [sizeLine_eq]; omega), a1, ⟨_, upd_same, a2, a3⟩, _, rfl⟩⟩
    · have ltn : n < ws.length := (List.getElem?_eq_some_iff.mp hn).1
      refine for_tup (xs := ws.map V.str) (fun i σ H' => i ≤ n ∧ Iv i σ H') ⟨Nat.zero_le _, base0⟩ (fun i σ H' _ ⟨_, s, _⟩ => sqT_same s hS) (fun i x σ H' hx ⟨hi, s, ⟨kvs, g, l, k⟩, y, eσ⟩ => ?_) (fun σ H' ⟨hi, _⟩ => ?_)
      · subst eσ
        rw [List.getElem?_map] at hx
        obtain ⟨z, hz, rfl⟩ : ∃ z, ws[i]? = some z ∧ V.str z = x := by
          cases e : ws[i]? with
          | none => rw [e] at hx; cases hx
          | some z => rw [e] at hx; exact ⟨z, rfl, Option.some.inj hx⟩
        refine ⟨_, rfl, _, rfl, _, _, rfl, DGet.k (k := .inr z) g, ?_⟩
        rw [k z]
        by_cases e : i = n
        · subst e
          rw [hn] at hz
          obtain rfl := Option.some.inj hz
          rw [decide_eq_true hin]
          exact ⟨_, rfl, iteT ⟨_, rfl, mkO_of B.O B.v fun d2 H2 t => q d2 H2 (t.old s)⟩⟩
        · have no := hfirst i (by omega) z hz
          obtain ⟨a1, a2, a3⟩ := step i z H' kvs hz s g l k no
          rw [decide_eq_false no]
          exact ⟨_, rfl, iteF ⟨_, rfl, _, rfl, _, _, rfl, DPut.k (k := .inr z) g (by rw [sizeLine_eq]; omega), (by omega), a1, ⟨_, upd_same, a2, a3⟩, _, rfl⟩⟩
      · rw [List.length_map] at hi
        omega
theorem ok_asc {f : Addr} {fd : FuncData} (F : Fun K "ascending" "ascending" sAsc f fd) (T : TxtA mg) : FnOk P w K mg base CX0 1 f fd ["names"] (spAsc K) := by
  refine F.ok scAsc (fun vs H Q E h => ?_) (fun cdv A outer s H vs Q E hr h => ?_)
  · obtain ⟨p, ws, rfl, _⟩ := h
    rfl
  · obtain ⟨p, ws, rfl, hS, few, q⟩ := h
    refine ⟨_, (pss_one (ps_ret (pe_callTy call_tuple_of (by rfl) T.btuple (by decide +kernel) (pa_cons (pe_callB (cr_srtX rfl) (by rfl) T.bsorted (by decide +kernel) (pa_cons (pe_callTy (cr_setX rfl) (by rfl) T.bset (by decide +kernel) (pa_cons (pv 0) pa_nil)) pa_nil)) pa_nil)))), ?_⟩
    refine ⟨_, rfl, p, ws, rfl, hS, by omega, fun a ha => ⟨a, ws, rfl, upd_same, few, fun ys b srt nd mm hb => ?_⟩⟩
    refine ⟨b, _, rfl, .inl ⟨SqL.of upd_same, fun l hl => ?_⟩⟩
    have s1 : Same H (upd H a (SetX w a ws)) := Same.new ha
    have s2 := s1.trans (Same.new (o := .lst (ys.map V.str)) hb)
    exact q ys l _ srt nd mm (s2.trans (Same.new hl)) (sameNone s2 hl) upd_same
end
end K07

set_option Elab.async false
set_option linter.all false
set_option maxRecDepth 100000
set_option maxHeartbeats 4000000
namespace K07
open PySem L2 NX NU
open PyProof.Rows (sortedS)
/-- what is refused: a value that is no name, a text that stands twice, too many, none -/
inductive Fa
  | nm (v : V)
  | tw (z : Str)
  | mn
  | em
/-- the four error classes -/
structure C4 where
  n : Addr
  t : Addr
  m : Addr
  d : Addr
def Fa.cls (c : C4) : Fa → Addr
  | .nm _ => c.n
  | .tw _ => c.t
  | .mn => c.m
  | .em => c.d
def Fa.fld : Fa → Str
  | .nm _ => "value"
  | .tw _ => "name"
  | .mn => "most"
  | .em => "value"
def Fa.val : Fa → V
  | .nm v => v
  | .tw z => .str z
  | .mn => .int 3
  | .em => .non
/-- what used names are refused with -/
inductive UsedF (ws : List Str) : Option Fa → Prop
  | tw {i : Nat} {z : Str} : Rep ws i z → UsedF ws (some (.tw z))
  | mn : NoRep ws → 3 < ws.length → UsedF ws (some .mn)
  | em : ws = [] → UsedF ws (some .em)
  | ok : NoRep ws → 0 < ws.length → ws.length ≤ 3 → UsedF ws none
/-- what values are refused with, those from place k on being used -/
inductive DueF (K : PySem.W.Frag) (H : Hp) (xs : List V) (k : Nat) : Option Fa → Prop
  | nm {ws : List Str} {v : V} : Bad K H xs ws v → DueF K H xs k (some (.nm v))
  | rest {ws : List Str} {r : Option Fa} : xs = ws.map V.str → Nms ws → UsedF (ws.drop k) r → DueF K H xs k r
/-- it is so, or the error comes -/
def Ends (c : C4) (H : Hp) (E : XK) (ok : Prop) : Option Fa → Prop
  | none => ok
  | some f => ∀ d H', Told H d f.fld f.val H' → E (.ref (f.cls c)) (some d) H'
theorem usedF_any (ws : List Str) : ∃ r, UsedF ws r := by
  rcases rep_or ws with h | ⟨i, z, h⟩
  · by_cases l0 : ws.length = 0
    · exact ⟨_, .em (List.length_eq_zero_iff.mp l0)⟩
    · by_cases l3 : ws.length ≤ 3
      · exact ⟨_, .ok h (by omega) l3⟩
      · exact ⟨_, .mn h (by omega)⟩
  · exact ⟨_, .tw h⟩
structure DeedC (K : PySem.W.Frag) (mg : Str → Option Value) (CD : Addr) : Prop where
  g : mg "Deed" = some (.ref CD)
  rd : ∃ mc u, ClX.CRead K CD mc ∧ ClX.CVal K CD mc "MOST" (.int 3) u
def spCus (K : PySem.W.Frag) (c : C4) : Sp := fun vs H Q E => ∃ (p : Addr) (ws : List Str) (r : Option Fa), vs = [.ref p] ∧ SqT K H p (ws.map V.str) ∧ ws.length ≤ 1000 ∧ UsedF ws r ∧ Ends c H E (∀ H', Same H H' → Q .non H') r
section
variable {P : Program} {w : World} {K : PySem.W.Frag} {mg : Str → Option Value} {base : Heap}
theorem ok_cus {c : C4} {CD fT fM fD f : Addr} {fd : FuncData} (F : Fun K "check_used" "check_used" sCus f fd) (T : TxtB mg) (cUn : CalL P w K mg base 3 "check_unlike" (spCun K c.t)) (D : DeedC K mg CD) (BM : ErrC P w K mg base "TooMany" "most" c.m fM) (BD : ErrC P w K mg base "BadDeed" "value" c.d fD) :
    FnOk P w K mg base (L2N.CX P w) 4 f fd ["names"] (spCus K c) := by
  obtain ⟨fdm, Fm, hbm⟩ := BM.ok
  obtain ⟨fdd, Fd, hbd⟩ := BD.ok
  obtain ⟨mc, u, rd, cv⟩ := D.rd
  refine NN.okN F scCus (fun vs H Q E h => ?_) (fun cdv A outer s H vs Q E hr h => ?_)
  · obtain ⟨p, ws, r, rfl, _⟩ := h
    rfl
  · obtain ⟨p, ws, r, rfl, hS, few, hU, h⟩ := h
    refine ⟨_, (pss_cons (ps_expr (pe_cL cUn hr (by decide) rfl (NN.passN (L2N.takes_of rfl rfl rfl rfl)) (pa_cons (pv 0) pa_nil)))
      (pss_cons (ps_if (pt_cmpR op_gt (pe_callB call_len_seq (by rfl) T.blen (by decide +kernel) (pa_cons (pv 0) pa_nil)) (ClX.pe_cval (C8.pe_gc (v := .ref CD) rfl ⟨_, D.g, rfl⟩)) (nomark _)) (pss_one (L2N.ps_raise rfl (L2N.takes_of rfl rfl rfl rfl) (NN.pmkN BM.O BM.i BM.t Fm (hr.mono (by decide)) hbm pass0 rfl BM.g (pa_cons (ClX.pe_cval (C8.pe_gc (v := .ref CD) rfl ⟨_, D.g, rfl⟩)) pa_nil)))) pss_nil)
      (pss_one (ps_if (pt_not (pt_truth (pv 0) (fun _ => rfl))) (pss_one (L2N.ps_raise rfl (L2N.takes_of rfl rfl rfl rfl) (NN.pmkN BD.O BD.i BD.t Fd (hr.mono (by decide)) hbd pass0 rfl BD.g (pa_cons pe_non pa_nil)))) pss_nil)))), ?_⟩
    refine ⟨_, rfl, p, ws, rfl, hS, few, ?_⟩
    have split : (∃ i z, Rep ws i z ∧ ∀ d H', Told H d "name" (.str z) H' → E (.ref c.t) (some d) H') ∨ (NoRep ws ∧ (∀ d H', Told H d "most" (.int 3) H' → 3 < ws.length → E (.ref c.m) (some d) H') ∧ (∀ d H', Told H d "value" .non H' → ws = [] → E (.ref c.d) (some d) H') ∧ ∀ H', Same H H' → 0 < ws.length → ws.length ≤ 3 → Q .non H') := by
      cases hU with
      | tw rp => exact .inl ⟨_, _, rp, h⟩
      | mn nr l => exact .inr ⟨nr, fun d H' t _ => h d H' t, fun d H' t e => (by rw [e] at l; cases l), fun H' s _ l3 => by omega⟩
      | em e => exact .inr ⟨(by rw [e]; exact fun i z q => by simp at q), fun d H' t l => (by rw [e] at l; cases l), fun d H' t _ => h d H' t, fun H' s l0 _ => by rw [e] at l0; cases l0⟩
      | ok nr l0 l3 => exact .inr ⟨nr, fun d H' t l => (by omega), fun d H' t e => (by rw [e] at l0; cases l0), fun H' s _ _ => h H' s⟩
    rcases split with ⟨i, z, rp, q⟩ | ⟨nr, q1, q2, q3⟩
    · exact .inr ⟨i, z, rp, q⟩
    refine .inl ⟨nr, fun H' s => ?_⟩
    refine ⟨_, rfl, p, _, rfl, .inr (sqT_same s hS), CD, mc, _, u, rfl, rd, cv, _, _, rfl, rfl, _, rfl, ite2 (fun h1 => ?_) (fun h1 => ?_)⟩
    · have h1 := of_decide_eq_true h1
      rw [List.length_map] at h1
      exact ⟨CD, mc, _, u, rfl, rd, cv, mkO_of BM.O BM.v fun d H2 t => q1 d H2 (t.old s) (by omega)⟩
    · have h1 : ¬ ((ws.map V.str).length : Int) > 3 := fun z => h1 (decide_eq_true z)
      rw [List.length_map] at h1
      refine ⟨_, rfl, !(ws.map V.str).isEmpty, .inr (.inl ⟨_, sqT_same s hS, rfl⟩), ?_⟩
      cases ws with
      | nil => exact iteT (mkO_of BD.O BD.v fun d H2 t => q2 d H2 (t.old s) rfl)
      | cons z l => exact iteF (q3 H' s (Nat.succ_pos _) (by omega))
end
end K07

set_option Elab.async false
set_option linter.all false
set_option maxRecDepth 100000
set_option maxHeartbeats 4000000
namespace K07
open PySem L2 NX NU
open PyProof.Rows (sortedS)
theorem tyOf_same {K : PySem.W.Frag} {H H' : Hp} {v : V} {t : Value} (s : Same H H') (h : TyOf K H v t) : TyOf K H' v t := by
  cases h with
  | non => exact .non
  | bl x => exact .bl x
  | int x => exact .int x
  | str x => exact .str x
  | flt x => exact .flt x
  | lst h => exact .lst (s _ _ h)
  | frz h => exact .frz (s _ _ h)
  | tup h => exact .tup (s _ _ h)
  | dK h => exact .dK (s _ _ h)
  | dT h => exact .dT (s _ _ h)
  | ins h a b c d e => exact .ins (s _ _ h) a b c d e
theorem tyX_same {K : PySem.W.Frag} {H H' : Hp} {v : V} {t : Value} (s : Same H H') (h : TyX K H v t) : TyX K H' v t := by
  cases h with
  | base h => exact .base (tyOf_same s h)
  | byt b => exact .byt b
  | set h => exact .set (s _ _ h)
  | kList a b => exact .kList a b
  | kTuple a b => exact .kTuple a b
  | kDict a b => exact .kDict a b
  | fTuple h => exact .fTuple (s _ _ h)
  | fDict h => exact .fDict (s _ _ h)
theorem NoStr.same {K : PySem.W.Frag} {H H' : Hp} {v : V} (s : Same H H') (h : NoStr K H v) : NoStr K H' v := by
  obtain ⟨t, a, b⟩ := h
  exact ⟨t, tyX_same s a, b⟩
theorem NoNm.same {K : PySem.W.Frag} {H H' : Hp} {v : V} (s : Same H H') (h : NoNm K H v) : NoNm K H' v := by
  rcases h with h | h
  · exact .inl h
  · exact .inr (NoStr.same s h)

theorem Bad.same {K : PySem.W.Frag} {H H' : Hp} {xs : List V} {ws : List Str} {v : V} (s : Same H H') (h : Bad K H xs ws v) : Bad K H' xs ws v := by
  obtain ⟨l, a, b, c⟩ := h
  exact ⟨l, a, b, c.same s⟩
theorem DueF.same {K : PySem.W.Frag} {H H' : Hp} {xs : List V} {k : Nat} {r : Option Fa} (s : Same H H') (h : DueF K H xs k r) : DueF K H' xs k r := by
  cases h with
  | nm b => exact .nm (b.same s)
  | rest a b c => exact .rest a b c
theorem Ends.old {c : C4} {H H' : Hp} {E : XK} {ok ok2 : Prop} {r : Option Fa} (s : Same H H') (h : Ends c H E ok r) (k : ok → ok2) : Ends c H' E ok2 r := by
  cases r with
  | none => exact k h
  | some f => exact fun d H2 t => h d H2 (t.old s)
abbrev sUse : Stmt := inClass (top 29) 0
abbrev sMake : Stmt := inClass (top 30) 0
abbrev sDo : Stmt := inClass (top 31) 0
theorem scUse : FnScope ["self", "names"] ["self", "names"] (defScope sUse) := ⟨rfl, rfl, rfl, by decide +kernel, rfl, by decide +kernel, by decide +kernel⟩
theorem scMake : FnScope ["self", "name"] ["self", "name"] (defScope sMake) := ⟨rfl, rfl, rfl, by decide +kernel, rfl, by decide +kernel, by decide +kernel⟩
theorem scDo : FnScope ["self", "name", "names"] ["self", "name", "names"] (defScope sDo) := ⟨rfl, rfl, rfl, by decide +kernel, rfl, by decide +kernel, by decide +kernel⟩
/-- ys: the texts of ws, ascending, each once -/
def Asc (ys ws : List Str) : Prop := sortedS ys = true ∧ ys.Nodup ∧ ∀ y, y ∈ ys ↔ y ∈ ws
/-- a deed at x, of the class at C -/
def Dd (H : Hp) (x C : Addr) (us : List Str) (mk : V) (ys : List Str) : Prop := ∃ dx p q, H x = some (.ins C dx [("uses", .ref p), ("makes", mk), ("_names", .ref q)]) ∧ H p = some (.tup (us.map V.str)) ∧ H q = some (.tup (ys.map V.str))
structure DCls (K : PySem.W.Frag) (C : Addr) : Prop where
  cl : Cls K C
  nu : NoAttr K C "uses"
  nk : NoAttr K C "makes"
  nn : NoAttr K C "_names"
/-- a Use is made of what stands in the tuple at p -/
def spUse0 (K : PySem.W.Frag) (c : C4) : Sp := fun vs H Q E => ∃ (x C dx p : Addr) (xs : List V) (r : Option Fa), vs = [.ref x, .ref p] ∧ DCls K C ∧ H x = some (.ins C dx []) ∧ H p = some (.tup xs) ∧ xs.length < 60 ∧ DueF K H xs 0 r ∧
  Ends c H E (∀ ws ys H', xs = ws.map V.str → Asc ys ws → But x H H' → Dd H' x C ws .non ys → Q .non H') r
def spMake (K : PySem.W.Frag) (c : C4) : Sp := fun vs H Q E => ∃ (x C dx : Addr) (v : V), vs = [.ref x, v] ∧ DCls K C ∧ H x = some (.ins C dx []) ∧
  ((∃ z, IsNm v z ∧ ∀ H', But x H H' → Dd H' x C [] (.str z) [z] → Q .non H') ∨ (NoNm K H v ∧ ∀ d H', Told H d "value" v H' → E (.ref c.n) (some d) H'))
def spDo0 (K : PySem.W.Frag) (c : C4) : Sp := fun vs H Q E => ∃ (x C dx p : Addr) (v : V) (xs : List V) (r : Option Fa), vs = [.ref x, v, .ref p] ∧ DCls K C ∧ H x = some (.ins C dx []) ∧ H p = some (.tup xs) ∧ xs.length < 60 ∧ DueF K H (v :: xs) 1 r ∧
  Ends c H E (∀ m ws ys H', v = .str m → xs = ws.map V.str → Asc ys (m :: ws) → But x H H' → Dd H' x C ws (.str m) ys → Q .non H') r
section
variable {P : Program} {w : World} {K : PySem.W.Frag} {mg : Str → Option Value} {base : Heap}
/-- the calls that the three inits make -/
structure Cks (P : Program) (w : World) (K : PySem.W.Frag) (mg : Str → Option Value) (base : Heap) (c : C4) : Prop where
  ns : CalL P w K mg base 3 "check_names" (spCns K c.n)
  us : CalL P w K mg base 4 "check_used" (spCus K c)
  as : C8.Cal P w K mg base 1 "ascending" (spAsc K) []
theorem body_use {c : C4} (k : Cks P w K mg base c) {f : Addr} {cdv : Value} {A : Around} {outer : List Env} {s : Shared} {H : Hp} {vs : List V} {Q : VK} {E : XK} (hr : Room 4 (A.deeper (PyProof.Rows.envOfC "Use.__init__" (defScope sUse) s.heap.objs.size f cdv))) (h : spUse0 K c vs H Q E) :
    ∃ t, PSs (cxOf (L2N.CX P w) P w K mg base ["self", "names"] "Use.__init__" (defScope sUse) f cdv A outer s H E) (defBody sUse) t ∧ t { nx := fun _ H' => Q .non H', rt := Q } (start ["self", "names"] vs) H := by
  obtain ⟨x, C, dx, p, xs, r, rfl, hC, hx, hp, few, hD, h⟩ := h
  have px : p ≠ x := fun e => by rw [e, hx] at hp; cases hp
  refine ⟨_, (pss_cons (ps_expr (pe_cL k.ns hr (by decide) rfl (NN.passN (L2N.takes_of rfl rfl rfl rfl)) (pa_cons (pv 1) pa_nil)))
    (pss_cons (ps_expr (pe_cL k.us hr (by decide) rfl (NN.passN (L2N.takes_of rfl rfl rfl rfl)) (pa_cons (pv 1) pa_nil)))
    (pss_cons (ps_fld (pv 0) (pv 1) rfl) (pss_cons (ps_fld (pv 0) pe_non rfl) (pss_one (ps_fld (pv 0) (C8.pe_c k.as hr (by decide) rfl (pa_cons (pv 1) pa_nil)) rfl)))))), ?_⟩
  cases hD with
  | nm b => exact ⟨_, rfl, p, xs, rfl, SqT.of hp, .inr ⟨_, _, b, h⟩⟩
  | rest e hn hU =>
    rename_i ws
    subst e
    rw [List.drop_zero] at hU
    rw [List.length_map] at few
    refine ⟨_, rfl, p, _, rfl, SqT.of hp, .inl ⟨ws, rfl, hn, ?_⟩⟩
    refine ⟨_, rfl, p, ws, r, rfl, SqT.of hp, by omega, hU, Ends.old (fun _ _ z => z) h fun h H1 s1 => ?_⟩
    refine ⟨_, rfl, _, rfl, x, C, dx, _, rfl, s1 _ _ hx, hC.cl, hC.nu, by decide, ?_⟩
    refine ⟨_, rfl, x, C, dx, _, rfl, upd_same, hC.cl, hC.nk, by show 1 < 1000; decide, ?_⟩
    refine ⟨_, rfl, p, ws, rfl, .inr (SqT.of (by rw [upd_ne px, upd_ne px]; exact s1 _ _ hp)), by omega, fun ys q H2 srt nd mm s2 hq gq => ?_⟩
    refine ⟨_, rfl, x, C, dx, _, rfl, s2 _ _ upd_same, hC.cl, hC.nn, by show 2 < 1000; decide, ?_⟩
    have qx : q ≠ x := fun e => by rw [e] at hq; rw [upd_same] at hq; cases hq
    refine h ws ys _ rfl ⟨srt, nd, mm⟩ (fun b o hb ne => ?_) ⟨dx, p, q, upd_same, ?_, ?_⟩
    · rw [upd_ne ne]
      exact s2 _ _ (by rw [upd_ne ne, upd_ne ne]; exact s1 _ _ hb)
    · rw [upd_ne px]
      exact s2 _ _ (by rw [upd_ne px, upd_ne px]; exact s1 _ _ hp)
    · rw [upd_ne qx]
      exact gq
theorem ok_make {c : C4} (k : Cks P w K mg base c) {f : Addr} {fd : FuncData} (F : Fun K "__init__" "Make.__init__" sMake f fd) : FnOk P w K mg base (L2N.CX P w) 4 f fd ["self", "name"] (spMake K c) := by
  refine NN.okN F scMake (fun vs H Q E h => ?_) (fun cdv A outer s H vs Q E hr h => ?_)
  · obtain ⟨x, C, dx, v, rfl, _⟩ := h
    rfl
  · obtain ⟨x, C, dx, v, rfl, hC, hx, h⟩ := h
    refine ⟨_, (pss_cons (ps_expr (pe_cL k.ns hr (by decide) rfl (NN.passN (L2N.takes_of rfl rfl rfl rfl)) (pa_cons (pe_tup (pa_cons (pv 1) pa_nil)) pa_nil)))
      (pss_cons (ps_fld (pv 0) (pe_tup pa_nil) rfl) (pss_cons (ps_fld (pv 0) (pv 1) rfl) (pss_one (ps_fld (pv 0) (pe_tup (pa_cons (pv 1) pa_nil)) rfl))))), ?_⟩
    refine ⟨_, rfl, by show 1 ≤ sizeLine; decide, fun t ht => ?_⟩
    have s1 : Same H (upd H t (.tup [v])) := Same.new ht
    refine ⟨t, [v], rfl, SqT.of upd_same, ?_⟩
    rcases h with ⟨z, ⟨rfl, hz, hn⟩, q⟩ | ⟨bad, q⟩
    · refine .inl ⟨[z], rfl, fun y hy => by rw [List.mem_singleton.mp hy]; exact ⟨hz, hn⟩, ?_⟩
      refine ⟨by show 0 ≤ sizeLine; decide, fun p hp => ?_⟩
      have s2 := s1.trans (Same.new (o := .tup []) hp)
      have px : p ≠ x := fun e => by rw [e, s1 _ _ hx] at hp; cases hp
      refine ⟨_, rfl, x, C, dx, _, rfl, s2 _ _ hx, hC.cl, hC.nu, by decide, ?_⟩
      refine ⟨_, rfl, _, rfl, x, C, dx, _, rfl, upd_same, hC.cl, hC.nk, by show 1 < 1000; decide, ?_⟩
      refine ⟨_, rfl, by show 1 ≤ sizeLine; decide, fun r hr => ?_⟩
      have rx : r ≠ x := fun e => by rw [e, upd_same] at hr; cases hr
      have hr0 := hr
      rw [upd_ne rx, upd_ne rx] at hr0
      have rp : p ≠ r := fun e => by rw [← e, upd_same] at hr0; cases hr0
      refine ⟨_, rfl, x, C, dx, _, rfl, (by rw [upd_ne (Ne.symm rx)]; exact upd_same), hC.cl, hC.nn, by show 2 < 1000; decide, ?_⟩
      refine q _ (fun b o hb ne => ?_) ⟨dx, p, r, upd_same, ?_, ?_⟩
      · have br : b ≠ r := fun e => by rw [← e, s2 _ _ hb] at hr0; cases hr0
        rw [upd_ne ne, upd_ne br, upd_ne ne, upd_ne ne]
        exact s2 _ _ hb
      · rw [upd_ne px, upd_ne rp, upd_ne px, upd_ne px]
        exact upd_same
      · rw [upd_ne rx]
        exact upd_same
    · exact .inr ⟨[], v, ⟨[], rfl, nofun, bad.same s1⟩, fun d H' t => q d H' (t.old s1)⟩
theorem body_do {c : C4} (k : Cks P w K mg base c) {f : Addr} {cdv : Value} {A : Around} {outer : List Env} {s : Shared} {H : Hp} {vs : List V} {Q : VK} {E : XK} (hr : Room 4 (A.deeper (PyProof.Rows.envOfC "Do.__init__" (defScope sDo) s.heap.objs.size f cdv))) (h : spDo0 K c vs H Q E) :
    ∃ t, PSs (cxOf (L2N.CX P w) P w K mg base ["self", "name", "names"] "Do.__init__" (defScope sDo) f cdv A outer s H E) (defBody sDo) t ∧ t { nx := fun _ H' => Q .non H', rt := Q } (start ["self", "name", "names"] vs) H := by
  obtain ⟨x, C, dx, p, v, xs, r, rfl, hC, hx, hp, few, hD, h⟩ := h
  have px : p ≠ x := fun e => by rw [e, hx] at hp; cases hp
  refine ⟨_, (pss_cons (ps_expr (pe_cL k.ns hr (by decide) rfl (NN.passN (L2N.takes_of rfl rfl rfl rfl)) (pa_cons (pe_tup (pa_cons (pv 1) (StX.pa_star (pv 2) pa_nil))) pa_nil)))
    (pss_cons (ps_expr (pe_cL k.us hr (by decide) rfl (NN.passN (L2N.takes_of rfl rfl rfl rfl)) (pa_cons (pv 2) pa_nil)))
    (pss_cons (ps_fld (pv 0) (pv 2) rfl) (pss_cons (ps_fld (pv 0) (pv 1) rfl) (pss_one (ps_fld (pv 0) (C8.pe_c k.as hr (by decide) rfl (pa_cons (pe_tup (pa_cons (pv 1) (StX.pa_star (pv 2) pa_nil))) pa_nil)) rfl)))))), ?_⟩
  have lz : 61 ≤ sizeLine := by decide
  refine ⟨_, rfl, _, rfl, p, xs, rfl, .inl (SqT.of hp), ?_⟩
  dsimp only [tNil]
  rw [List.append_nil]
  refine ⟨by show xs.length + 1 ≤ sizeLine; omega, fun t ht => ?_⟩
  have s0 : Same H (upd H t (.tup (v :: xs))) := Same.new ht
  refine ⟨t, _, rfl, SqT.of upd_same, ?_⟩
  cases hD with
  | nm b => exact .inr ⟨_, _, b.same s0, fun d H' t => h d H' (t.old s0)⟩
  | rest e hn hU =>
    rename_i ws
    cases ws with
    | nil => cases e
    | cons m ws =>
      injection e with e1 e2
      subst e1 e2
      rw [List.length_map] at few
      refine .inl ⟨m :: ws, rfl, hn, ?_⟩
      refine ⟨_, rfl, p, ws, r, rfl, SqT.of (s0 _ _ hp), by omega, hU, Ends.old s0 h fun h H1 s1 => ?_⟩
      have s1 := s0.trans s1
      refine ⟨_, rfl, _, rfl, x, C, dx, _, rfl, s1 _ _ hx, hC.cl, hC.nu, by decide, ?_⟩
      refine ⟨_, rfl, _, rfl, x, C, dx, _, rfl, upd_same, hC.cl, hC.nk, by show 1 < 1000; decide, ?_⟩
      refine ⟨_, rfl, _, rfl, p, _, rfl, .inl (SqT.of (by rw [upd_ne px, upd_ne px]; exact s1 _ _ hp)), ?_⟩
      dsimp only [tNil]
      rw [List.append_nil]
      refine ⟨by show (ws.map V.str).length + 1 ≤ sizeLine; rw [List.length_map]; omega, fun t2 ht2 => ?_⟩
      have tx : t2 ≠ x := fun e => by rw [e, upd_same] at ht2; cases ht2
      refine ⟨t2, m :: ws, rfl, .inr (SqT.of upd_same), by show ws.length + 1 < 64; omega, fun ys q H2 srt nd mm s2 hq gq => ?_⟩
      have qx : q ≠ x := fun e => by rw [e, upd_ne (Ne.symm tx), upd_same] at hq; cases hq
      have pt : p ≠ t2 := fun e => by rw [← e, upd_ne px, upd_ne px, s1 _ _ hp] at ht2; cases ht2
      refine ⟨_, rfl, x, C, dx, _, rfl, s2 _ _ (by rw [upd_ne (Ne.symm tx)]; exact upd_same), hC.cl, hC.nn, by show 2 < 1000; decide, ?_⟩
      refine h m ws ys _ rfl rfl ⟨srt, nd, mm⟩ (fun b o hb ne => ?_) ⟨dx, p, q, upd_same, ?_, ?_⟩
      · rw [upd_ne ne]
        have bt : b ≠ t2 := fun e => by rw [← e, upd_ne ne, upd_ne ne, s1 _ _ hb] at ht2; cases ht2
        exact s2 _ _ (by rw [upd_ne bt, upd_ne ne, upd_ne ne]; exact s1 _ _ hb)
      · rw [upd_ne px]
        exact s2 _ _ (by rw [upd_ne pt, upd_ne px, upd_ne px]; exact s1 _ _ hp)
      · rw [upd_ne qx]
        exact gq
/-- Use.__init__ and Do.__init__, from what is passed -/
def spUse (K : PySem.W.Frag) (c : C4) : Sp := fun vs H Q E => ∃ ws rest, vs = ws ++ rest ∧ ws.length = ["self"].length ∧ rest.length ≤ sizeLine ∧ ∀ p, H p = Option.none → spUse0 K c (ws ++ [V.ref p]) (upd H p (.tup rest)) Q E
def spDo (K : PySem.W.Frag) (c : C4) : Sp := fun vs H Q E => ∃ ws rest, vs = ws ++ rest ∧ ws.length = ["self", "name"].length ∧ rest.length ≤ sizeLine ∧ ∀ p, H p = Option.none → spDo0 K c (ws ++ [V.ref p]) (upd H p (.tup rest)) Q E
theorem ok_use {c : C4} (k : Cks P w K mg base c) {f : Addr} {fd : FuncData} (F : Fun K "__init__" "Use.__init__" sUse f fd) : FnR P w K mg base (L2N.CX P w) 5 f (spUse K c) := by
  obtain ⟨oc, od, kV, doc, pm, an, cdv, ct, osl, rfl, lk, hcd⟩ := F.ex
  exact StX.fn_star (N := ["self", "names"]) (ps := ["self"]) (pv := "names") lk hcd scUse NN.upN (StX.bind_star1 (B := fun us => bindArgs _ ⟨us, []⟩) (fun a => rfl) (fun a r rs => rfl)) fun A outer s H vs Q E hr h => body_use k hr h
theorem ok_do {c : C4} (k : Cks P w K mg base c) {f : Addr} {fd : FuncData} (F : Fun K "__init__" "Do.__init__" sDo f fd) : FnR P w K mg base (L2N.CX P w) 5 f (spDo K c) := by
  obtain ⟨oc, od, kV, doc, pm, an, cdv, ct, osl, rfl, lk, hcd⟩ := F.ex
  exact StX.fn_star (N := ["self", "name", "names"]) (ps := ["self", "name"]) (pv := "names") lk hcd scDo NN.upN (StX.bind_star2 (B := fun us => bindArgs _ ⟨us, []⟩) (fun a b => rfl) (fun a b r rs => rfl)) fun A outer s H vs Q E hr h => body_do k hr h
end
end K07

set_option Elab.async false
set_option linter.all false
set_option maxRecDepth 100000
set_option maxHeartbeats 4000000
namespace K07
open PySem L2 NX NU
open PyProof.Rows (sortedS)
section
variable {X : Cx} {CX : CXT} {k : Nat} {f C : Addr} {sp : Sp} {E : XK} {x : Str} {e : Expr} {te : TE} {p q pos : Pos}
/-- C(*e), C a class of ours whose __init__ takes what is passed by place -/
theorem pe_makeS (M : Mk X.K C f) (F : FnR X.prog X.w X.K X.mg X.base CX k f sp) (hr : Room (k + 1) X.A) (hg : Gl X x) (hm : X.mg x = some (.ref C)) (hx : Passes CX X E) (he : PE X e te) (hd : (x == ("__debug__" : Str)) = false := by decide)
    (hst : starEach [.Starred e q] X.env = [(true, eval e X.env)] := by rfl) :
    PE X (.Call (.Name x p) [.Starred e q] [] pos) (fun σ H Q => te σ H fun y H1 => ∃ a xs, y = V.ref a ∧ (SqT X.K H1 a xs ∨ SqL X.K H1 a xs) ∧
      ∀ x dx, H1 x = none → H1 dx = none → dx ≠ x → sp (V.ref x :: xs) (upd (upd H1 dx (.own x)) x (.ins C dx [])) (fun v H2 => v = .non ∧ Q (.ref x) H2) E) := by
  refine ⟨fun pins s σ H Q I h => ?_⟩
  refine wpAny_Call_Name_kw (ld_glob I hg hm ?_ hd)
  refine PySem.W.callWith_S (h₀ := X.base) I.ok.mod.kin M.kp (thn (he.run pins s σ H _ I h) fun v s1 ⟨y, H1, I1, ry, a, xs, ey, hxs, z⟩ => ?_) hst
  subst ey
  obtain rfl : v = Value.ref a := ry
  exact StX.star_any I1 hxs fun us s2 I2 rv => ⟨I2.kIn, StX.run_makeR M F hr hx I2 rv z⟩
end
/-- what makes a deed: a word and names -/
def Good (us : List Str) : Prop := NoRep us ∧ 0 < us.length ∧ us.length ≤ 3
inductive DP : Str → List Str → Option Str → List Str → Prop
  | use {us : List Str} : Nms us → Good us → DP "use" us none us
  | make {m : Str} : Nms [m] → DP "make" [m] (some m) []
  | both {m : Str} {us : List Str} : Nms (m :: us) → Good us → DP "do" (m :: us) (some m) us
/-- what is refused of texts -/
theorem dueT (K : PySem.W.Frag) (H : Hp) (k : Nat) : ∀ ws : List Str, (∀ z ∈ ws, z.length ≤ 1000) → ∃ r, DueF K H (ws.map V.str) k r ∧ (r = none → Nms ws ∧ Good (ws.drop k)) := by
  intro ws short
  have look : ∀ l : List Str, (∀ z ∈ l, z.length ≤ 1000) → Nms l ∨ ∃ us z rest, l = us ++ z :: rest ∧ Nms us ∧ nm z = false := by
    intro l
    induction l with
    | nil => exact fun _ => .inl nofun
    | cons y l ih =>
      intro sh
      cases e : nm y with
      | false => exact .inr ⟨[], y, l, rfl, nofun, e⟩
      | true =>
        have me : y.length ≤ 1000 ∧ nm y = true := ⟨sh y List.mem_cons_self, e⟩
        rcases ih fun z hz => sh z (List.mem_cons_of_mem _ hz) with h | ⟨us, z, rest, e1, e2, e3⟩
        · exact .inl fun z hz => (List.mem_cons.mp hz).elim (fun q => by rw [q]; exact me) (h z)
        · exact .inr ⟨y :: us, z, rest, by rw [e1]; rfl, fun z hz => (List.mem_cons.mp hz).elim (fun q => by rw [q]; exact me) (e2 z), e3⟩
  rcases look ws short with h | ⟨us, z, rest, e1, e2, e3⟩
  · obtain ⟨r, hr⟩ := usedF_any (ws.drop k)
    refine ⟨r, .rest rfl h hr, fun e => ?_⟩
    subst e
    cases hr with
    | ok a b c => exact ⟨h, a, b, c⟩
  · refine ⟨_, .nm ⟨rest.map V.str, by rw [e1, List.map_append]; rfl, e2, .inl ⟨z, rfl, short z (by rw [e1]; simp), e3⟩⟩, fun e => by cases e⟩
/-- the classes of deeds -/
structure D3 where
  u : Addr
  m : Addr
  d : Addr
structure Dcs (K : PySem.W.Frag) (mg : Str → Option Value) (c : D3) (fU fM fD : Addr) : Prop where
  mu : Mk K c.u fU
  mm : Mk K c.m fM
  md : Mk K c.d fD
  gu : mg "Use" = some (.ref c.u)
  gm : mg "Make" = some (.ref c.m)
  gd : mg "Do" = some (.ref c.d)
  du : DCls K c.u
  dm : DCls K c.m
  dd : DCls K c.d
def D3.of (c : D3) : Option Str → List Str → Addr
  | none, _ => c.u
  | some _, [] => c.m
  | some _, _ :: _ => c.d
def mkV : Option Str → V
  | none => .non
  | some m => .str m
/-- a new deed -/
def NewD (c : D3) (H : Hp) (x : Addr) (mk : Option Str) (us : List Str) (H' : Hp) : Prop := Same H H' ∧ H x = none ∧ ∃ ys, Asc ys (mk.toList ++ us) ∧ Dd H' x (c.of mk us) us (mkV mk) ys
def spOf (K : PySem.W.Frag) (c : C4) (d : D3) : Sp := fun vs H Q E => ∃ (wd : Str) (p : Addr) (ws : List Str), vs = [.str wd, .ref p] ∧ wd.length ≤ 1000 ∧ SqL K H p (ws.map V.str) ∧ ws.length < 60 ∧ (∀ z ∈ ws, z.length ≤ 1000) ∧
  ((∃ mk us, DP wd ws mk us ∧ ∀ x H', NewD d H x mk us H' → Q (.ref x) H') ∨ ((∀ mk us, ¬ DP wd ws mk us) ∧ ∀ C y v dd H', (C = c.n ∨ C = c.t ∨ C = c.m ∨ C = c.d) → Told H dd y v H' → E (.ref C) (some dd) H'))
end K07

set_option Elab.async false
set_option linter.all false
set_option maxRecDepth 100000
set_option maxHeartbeats 4000000
namespace K07
open PySem L2 NX NU
open PyProof.Rows (sortedS)
abbrev sOf : Stmt := top 33
theorem scOf : FnScope ["word", "names"] ["word", "names"] (defScope sOf) := ⟨rfl, rfl, rfl, by decide +kernel, rfl, by decide +kernel, by decide +kernel⟩
theorem vstr {a b : Str} : decide (V.str a = V.str b) = decide (a = b) := by
  rw [Bool.eq_iff_iff, decide_eq_true_eq, decide_eq_true_eq]
  exact ⟨fun h => by injection h, fun h => by rw [h]⟩
theorem Ends.four {c : C4} {H : Hp} {E : XK} {ok : Prop} {r : Option Fa} (g : r = none → ok) (b : r ≠ none → ∀ C y v dd H', (C = c.n ∨ C = c.t ∨ C = c.m ∨ C = c.d) → Told H dd y v H' → E (.ref C) (some dd) H') : Ends c H E ok r := by
  cases r with
  | none => exact g rfl
  | some f =>
    intro d H' t
    refine b (fun e => by cases e) _ _ _ _ _ ?_ t
    cases f with
    | nm v => exact .inl rfl
    | tw z => exact .inr (.inl rfl)
    | mn => exact .inr (.inr (.inl rfl))
    | em => exact .inr (.inr (.inr rfl))
theorem made2 {H : Hp} {x dx C : Addr} (h1 : H x = none) (h2 : H dx = none) (h3 : dx ≠ x) : Same H (upd (upd H dx (.own x)) x (.ins C dx [])) := (Same.new h2).trans (Same.new (by rw [upd_ne (Ne.symm h3)]; exact h1))
/-- behind the making of an instance, and what its __init__ lays -/
theorem new_of {H H1 H' : Hp} {x : Addr} (h1 : H x = none) (s : Same H H1) (b : But x H1 H') : Same H H' := fun a o e => b a o (s a o e) (fun z => by rw [z, h1] at e; cases e)
theorem map_str {a b : List Str} (h : a.map V.str = b.map V.str) : a = b := (List.map_inj_right fun a b q => by injection q).mp h
theorem noStr_str {K : PySem.W.Frag} {H : Hp} {z : Str} (h : NoStr K H (.str z)) : False := by
  obtain ⟨t, ty, k⟩ := h
  have e : t = .type "str" := by
    cases ty with
    | base b => cases b; rfl
  subst e
  have y : PySem.W.kitOne K (.type "str") (.type "str") = some true := kit_ty (by decide +kernel)
  rw [k] at y
  cases y
theorem rep_no {ws : List Str} {i : Nat} {z : Str} (h : NoRep ws) (r : Rep ws i z) : False := h i z r.1 r.2.1
theorem due_good {K : PySem.W.Frag} {H : Hp} {k : Nat} {ws : List Str} {r : Option Fa} (a : Nms ws) (b : Good (ws.drop k)) (h : DueF K H (ws.map V.str) k r) : r = none := by
  cases h with
  | nm bd =>
    exfalso
    obtain ⟨l, e1, e2, e3⟩ := bd
    rename_i us v
    have m : v ∈ ws.map V.str := by rw [e1]; simp
    obtain ⟨z, hz, rfl⟩ := List.mem_map.mp m
    rcases e3 with ⟨z2, e, _, n⟩ | e3
    · injection e with e
      subst e
      rw [(a z hz).2] at n
      cases n
    · exact noStr_str e3
  | rest e1 e2 e3 =>
    have e1 := map_str e1
    subst e1
    obtain ⟨n1, n2, n3⟩ := b
    cases e3 with
    | tw r => exact (rep_no n1 r).elim
    | mn _ l => omega
    | em e => rw [e] at n2; cases n2
    | ok _ _ _ => rfl
section
variable {P : Program} {w : World} {K : PySem.W.Frag} {mg : Str → Option Value} {base : Heap}
/-- Use(*names), as deed_of calls it -/
theorem use_of {c : C4} {d : D3} {fU fM fD : Addr} (D : Dcs K mg d fU fM fD) {H : Hp} {Q : VK} {E : XK} {ws : List Str} (few : ws.length < 60) (short : ∀ z ∈ ws, z.length ≤ 1000)
    (h : (∃ mk us, DP "use" ws mk us ∧ ∀ x H', NewD d H x mk us H' → Q (.ref x) H') ∨ ((∀ mk us, ¬ DP "use" ws mk us) ∧ ∀ C y v dd H', (C = c.n ∨ C = c.t ∨ C = c.m ∨ C = c.d) → Told H dd y v H' → E (.ref C) (some dd) H')) :
    ∀ x dx, H x = none → H dx = none → dx ≠ x → spUse K c (V.ref x :: ws.map V.str) (upd (upd H dx (.own x)) x (.ins d.u dx [])) (fun v H2 => v = .non ∧ Q (.ref x) H2) E := by
  intro x dx h1 h2 h3
  have s1 := made2 (C := d.u) h1 h2 h3
  have lz : 60 ≤ sizeLine := by decide
  refine ⟨[.ref x], ws.map V.str, rfl, rfl, by rw [List.length_map]; omega, fun p hp => ?_⟩
  have s2 := s1.trans (Same.new (o := .tup (ws.map V.str)) hp)
  obtain ⟨r, hr, good⟩ := dueT K (upd (upd (upd H dx (.own x)) x (.ins d.u dx [])) p (.tup (ws.map V.str))) 0 ws short
  have px : x ≠ p := fun e => by rw [← e, upd_same] at hp; cases hp
  refine ⟨x, d.u, dx, p, ws.map V.str, r, rfl, D.du, (upd_ne px).trans upd_same, upd_same, by rw [List.length_map]; exact few, hr, .four (fun e => ?_) fun ne C y v dd H' hC t => ?_⟩
  · intro ws2 ys H' e2 asc but dd
    have e2 : ws = ws2 := map_str e2
    subst e2
    obtain ⟨n1, n2⟩ := good e
    rw [List.drop_zero] at n2
    refine ⟨rfl, ?_⟩
    rcases h with ⟨mk, us, dp, q⟩ | ⟨no, _⟩
    · cases dp with
      | use a b => exact q x H' ⟨new_of h1 s2 but, h1, ys, asc, dd⟩
    · exact absurd (.use n1 n2) (no _ _)
  · rcases h with ⟨mk, us, dp, q⟩ | ⟨_, q⟩
    · cases dp with
      | use a b =>
        exact absurd (due_good a (by rw [List.drop_zero]; exact b) hr) ne
    · exact q C y v dd H' hC (t.old s2)
/-- Do(*names), as deed_of calls it -/
theorem do_of {c : C4} {d : D3} {fU fM fD : Addr} (D : Dcs K mg d fU fM fD) {H : Hp} {Q : VK} {E : XK} {m : Str} {ws : List Str} (few : ws.length < 59) (short : ∀ z ∈ m :: ws, z.length ≤ 1000)
    (h : (∃ mk us, DP "do" (m :: ws) mk us ∧ ∀ x H', NewD d H x mk us H' → Q (.ref x) H') ∨ ((∀ mk us, ¬ DP "do" (m :: ws) mk us) ∧ ∀ C y v dd H', (C = c.n ∨ C = c.t ∨ C = c.m ∨ C = c.d) → Told H dd y v H' → E (.ref C) (some dd) H')) :
    ∀ x dx, H x = none → H dx = none → dx ≠ x → spDo K c (V.ref x :: (m :: ws).map V.str) (upd (upd H dx (.own x)) x (.ins d.d dx [])) (fun v H2 => v = .non ∧ Q (.ref x) H2) E := by
  intro x dx h1 h2 h3
  have s1 := made2 (C := d.d) h1 h2 h3
  have lz : 60 ≤ sizeLine := by decide
  refine ⟨[.ref x, .str m], ws.map V.str, rfl, rfl, by rw [List.length_map]; omega, fun p hp => ?_⟩
  have s2 := s1.trans (Same.new (o := .tup (ws.map V.str)) hp)
  obtain ⟨r, hr, good⟩ := dueT K (upd (upd (upd H dx (.own x)) x (.ins d.d dx [])) p (.tup (ws.map V.str))) 1 (m :: ws) short
  have px : x ≠ p := fun e => by rw [← e, upd_same] at hp; cases hp
  refine ⟨x, d.d, dx, p, .str m, ws.map V.str, r, rfl, D.dd, (upd_ne px).trans upd_same, upd_same, by rw [List.length_map]; omega, hr, .four (fun e => ?_) fun ne C y v dd H' hC t => ?_⟩
  · intro m2 ws2 ys H' e1 e2 asc but dd
    have e2 : ws = ws2 := map_str e2
    injection e1 with e1
    subst e1 e2
    obtain ⟨n1, n2⟩ := good e
    have n2 : Good ws := n2
    refine ⟨rfl, ?_⟩
    rcases h with ⟨mk, us, dp, q⟩ | ⟨no, _⟩
    · cases dp with
      | both a b =>
        refine q x H' ⟨new_of h1 s2 but, h1, ys, asc, ?_⟩
        cases ws with
        | nil => exact absurd b.2.1 (by decide)
        | cons z l => exact dd
    · exact absurd (.both n1 n2) (no _ _)
  · rcases h with ⟨mk, us, dp, q⟩ | ⟨_, q⟩
    · cases dp with
      | both a b => exact absurd (due_good (k := 1) a b hr) ne
    · exact q C y v dd H' hC (t.old s2)
/-- Make(name), as deed_of calls it -/
theorem make_of {c : C4} {d : D3} {fU fM fD : Addr} (D : Dcs K mg d fU fM fD) {H : Hp} {Q : VK} {E : XK} {m : Str} (short : m.length ≤ 1000)
    (h : (∃ mk us, DP "make" [m] mk us ∧ ∀ x H', NewD d H x mk us H' → Q (.ref x) H') ∨ ((∀ mk us, ¬ DP "make" [m] mk us) ∧ ∀ C y v dd H', (C = c.n ∨ C = c.t ∨ C = c.m ∨ C = c.d) → Told H dd y v H' → E (.ref C) (some dd) H')) :
    ∀ x dx, H x = none → H dx = none → dx ≠ x → spMake K c (V.ref x :: ([V.str m] ++ [])) (upd (upd H dx (.own x)) x (.ins d.m dx [])) (fun v H2 => v = .non ∧ Q (.ref x) H2) E := by
  intro x dx h1 h2 h3
  have s1 := made2 (C := d.m) h1 h2 h3
  refine ⟨x, d.m, dx, .str m, rfl, D.dm, upd_same, ?_⟩
  cases e : nm m with
  | true =>
    have n : Nms [m] := fun z hz => by rw [List.mem_singleton.mp hz]; exact ⟨short, e⟩
    refine .inl ⟨m, ⟨rfl, short, e⟩, fun H' but dd => ⟨rfl, ?_⟩⟩
    rcases h with ⟨mk, us, dp, q⟩ | ⟨no, _⟩
    · cases dp with
      | make a => exact q x H' ⟨new_of h1 s1 but, h1, [m], ⟨rfl, (by simp), fun y => by simp⟩, dd⟩
    · exact absurd (.make n) (no _ _)
  | false =>
    refine .inr ⟨.inl ⟨m, rfl, short, e⟩, fun dd H' t => ?_⟩
    rcases h with ⟨mk, us, dp, q⟩ | ⟨_, q⟩
    · cases dp with
      | make a =>
        have z := (a m (List.mem_singleton.mpr rfl)).2
        rw [e] at z
        cases z
    · exact q _ _ _ dd H' (.inl rfl) (t.old s1)
theorem ok_of {c : C4} {d : D3} {fU fM fD fE f : Addr} {fd fdm : FuncData} (F : Fun K "deed_of" "deed_of" sOf f fd) (T : TxtB mg) (D : Dcs K mg d fU fM fD) (U : FnR P w K mg base (L2N.CX P w) 5 fU (spUse K c)) (M : FnOk P w K mg base (L2N.CX P w) 4 fM fdm ["self", "name"] (spMake K c)) (hbm : Binds K fdm ["self", "name"] [])
    (O : FnR P w K mg base (L2N.CX P w) 5 fD (spDo K c)) (B : ErrC P w K mg base "BadDeed" "value" c.d fE) : FnOk P w K mg base (L2N.CX P w) 7 f fd ["word", "names"] (spOf K c d) := by
  obtain ⟨fde, Fe, hbe⟩ := B.ok
  refine NN.okN F scOf (fun vs H Q E h => ?_) (fun cdv A outer s H vs Q E hr h => ?_)
  · obtain ⟨wd, p, ws, rfl, _⟩ := h
    rfl
  · obtain ⟨wd, p, ws, rfl, hw, hS, few, short, h⟩ := h
    refine ⟨_, (pss_cons (ps_if (pt_cmpR op_eq (pv 0) pe_str (nomark _)) (pss_one (ps_ret (pe_makeS D.mu U hr rfl D.gu (NN.passN (L2N.takes_of rfl rfl rfl rfl)) (pv 1)))) pss_nil)
      (pss_cons (ps_if (PW.pt (pw_and (pt_cmpR op_eq (pv 0) pe_str (nomark _)) (pw_and1 (pt_cmpR op_eq (pe_callB call_len_seq (by rfl) T.blen (by decide +kernel) (pa_cons (pv 1) pa_nil)) pe_int (nomark _))))) (pss_one (ps_ret (pe_make (ds := []) (dvs := []) D.mm M (hr.mono (by decide)) rfl D.gm hbm .nil (NN.passN (L2N.takes_of rfl rfl rfl rfl)) (pa_cons (pe_ix ix_list (pv 1) pe_int (fun _ _ => rfl)) pa_nil)))) pss_nil)
      (pss_cons (ps_if (PW.pt (pw_and (pt_cmpR op_eq (pv 0) pe_str (nomark _)) (pw_and1 (pt_truth (pv 1) (fun _ => rfl))))) (pss_one (ps_ret (pe_makeS D.md O hr rfl D.gd (NN.passN (L2N.takes_of rfl rfl rfl rfl)) (pv 1)))) pss_nil)
      (pss_one (L2N.ps_raise rfl (L2N.takes_of rfl rfl rfl rfl) (NN.pmkN B.O B.i B.t Fe (hr.mono (by decide)) hbe pass0 rfl B.g (pa_cons (pv 0) pa_nil))))))), ?_⟩
    have bad : (∀ mk us, ¬ DP wd ws mk us) → ∀ dd H', Told H dd "value" (.str wd) H' → E (.ref c.d) (some dd) H' := fun no dd H' t => by
      rcases h with ⟨mk, us, dp, _⟩ | ⟨_, q⟩
      · exact absurd dp (no _ _)
      · exact q _ _ _ dd H' (.inr (.inr (.inr rfl))) t
    refine ⟨_, rfl, rfl, _, rfl, ?_⟩
    by_cases e1 : wd = "use"
    · subst e1
      exact iteT ⟨_, rfl, p, _, rfl, .inr hS, use_of D few short h⟩
    · rw [vstr, decide_eq_false e1]
      refine iteF ⟨_, rfl, rfl, _, rfl, ?_⟩
      by_cases e2 : wd = "make"
      · subst e2
        rw [vstr, decide_eq_true rfl]
        refine iteT ⟨_, rfl, p, _, rfl, .inl hS, rfl, _, rfl, ?_⟩
        match ws, hS, short, h, bad with
        | [m], hS, short, h, bad => exact iteT ⟨_, rfl, p, _, _, _, rfl, rfl, hS, rfl, make_of D (short m (by simp)) h⟩
        | [], hS, short, h, bad => exact iteF ⟨_, rfl, rfl, _, rfl, iteF ⟨_, rfl, mkO_of B.O B.v (bad fun mk us dp => by cases dp)⟩⟩
        | m :: n :: l, hS, short, h, bad =>
          have ne : ¬ V.int (((m :: n :: l).map V.str).length : Nat) = V.int 1 := fun z => by
            injection z with z
            rw [List.length_map] at z
            simp only [List.length_cons] at z
            omega
          rw [decide_eq_false ne]
          exact iteF ⟨_, rfl, rfl, _, rfl, iteF ⟨_, rfl, mkO_of B.O B.v (bad fun mk us dp => by cases dp)⟩⟩
      · rw [vstr, decide_eq_false e2]
        refine iteF (iteF ⟨_, rfl, rfl, _, rfl, ?_⟩)
        by_cases e3 : wd = "do"
        · subst e3
          rw [vstr, decide_eq_true rfl]
          refine iteT ⟨_, rfl, !(ws.map V.str).isEmpty, .inl ⟨_, hS, rfl⟩, ?_⟩
          cases ws with
          | nil => exact iteF ⟨_, rfl, mkO_of B.O B.v (bad fun mk us dp => by cases dp)⟩
          | cons m ws => exact iteT ⟨_, rfl, p, _, rfl, .inr hS, do_of D (Nat.lt_of_succ_lt_succ few) short h⟩
        · rw [vstr, decide_eq_false e3]
          refine iteF (iteF ⟨_, rfl, mkO_of B.O B.v (bad fun mk us dp => ?_)⟩)
          cases dp with
          | use a b => exact e1 rfl
          | make a => exact e2 rfl
          | both a b => exact e3 rfl
end
end K07

set_option Elab.async false
set_option linter.all false
set_option maxRecDepth 100000
set_option maxHeartbeats 4000000
namespace K07
open PySem L2 NX NU
open PyProof.Rows (sortedS)
abbrev sRead : Stmt := inClass (top 28) 3
theorem scRead : FnScope ["cls", "text", "word", "names"] ["cls", "text"] (defScope sRead) := ⟨rfl, rfl, rfl, by decide +kernel, rfl, by decide +kernel, by decide +kernel⟩
/-- the text of a deed -/
def DT (z : Str) (mk : Option Str) (us : List Str) : Prop := ∃ wd ws, Txt.split z " " = wd :: ws ∧ DP wd ws mk us
def NoDeed (K : PySem.W.Frag) (H : Hp) (v : V) : Prop := (∃ z, v = .str z ∧ z.length ≤ 1000 ∧ (Txt.split z " ").length ≤ 60 ∧ ∀ mk us, ¬ DT z mk us) ∨ NoStr K H v
def spRd (K : PySem.W.Frag) (c : C4) (d : D3) : Sp := fun vs H Q E => ∃ (a : Addr) (v : V), vs = [.ref a, v] ∧
  ((∃ z mk us, v = .str z ∧ z.length ≤ 1000 ∧ (Txt.split z " ").length ≤ 60 ∧ DT z mk us ∧ ∀ x H', NewD d H x mk us H' → Q (.ref x) H') ∨ (NoDeed K H v ∧ ∀ dd H', Told H dd "value" v H' → E (.ref c.d) (some dd) H'))
/-- the four errors are StowErrors -/
structure Stow (K : PySem.W.Frag) (mg : Str → Option Value) (c : C4) (CS : Addr) : Prop where
  g : mg "StowError" = some (.ref CS)
  n : PySem.W.exmOne K (.ref c.n) (.ref CS) = some true
  t : PySem.W.exmOne K (.ref c.t) (.ref CS) = some true
  m : PySem.W.exmOne K (.ref c.m) (.ref CS) = some true
  d : PySem.W.exmOne K (.ref c.d) (.ref CS) = some true
section
variable {P : Program} {w : World} {K : PySem.W.Frag} {mg : Str → Option Value} {base : Heap}
theorem ok_errDH {f : Addr} {fd : FuncData} (F : Fun K "__init__" "BadDeed.__init__" sErrD f fd) : L2H.FnH P w K mg base CX0 1 f fd ["self", "value"] (spErr K "value") := by
  obtain ⟨oc, od, kV, doc, pm, an, cdv, ct, osl, rfl, lk, cd⟩ := F.ex
  refine L2H.fn_ofH lk cd scErrD (fun vs H Q E h => ?_) fun A outer s H vs Q E p hot hr h => ?_
  · obtain ⟨a, C, v, rfl, _⟩ := h
    rfl
  · obtain ⟨a, C, v, rfl, T, hf, ha, k⟩ := h
    exact ⟨_, (pss_one (ps_ost (pv 0) (pv 1))), _, rfl, _, rfl, a, C, rfl, T, hf, .inl ⟨ha, fun dx h1 h2 => k dx h1 h2⟩⟩
/-- BadDeed, made where an error is handled -/
structure ErrH (P : Program) (w : World) (K : PySem.W.Frag) (mg : Str → Option Value) (base : Heap) (C fI : Addr) : Prop where
  ok : ∃ fd, L2H.FnH P w K mg base CX0 1 fI fd ["self", "value"] (spErr K "value") ∧ Binds K fd ["self", "value"] []
theorem ok_read {c : C4} {d : D3} {CS fE f : Addr} {fd : FuncData} (F : Fun K "read" "Deed.read" sRead f fd) (T : TxtB mg) (cOf : CalL P w K mg base 7 "deed_of" (spOf K c d)) (B : ErrC P w K mg base "BadDeed" "value" c.d fE) (BH : ErrH P w K mg base c.d fE) (S : Stow K mg c CS) :
    FnOk P w K mg base (L2.CX P w) 8 f fd ["cls", "text"] (spRd K c d) := by
  obtain ⟨fde, Fe, hbe⟩ := B.ok
  obtain ⟨fdh, Fh, hbh⟩ := BH.ok
  obtain ⟨fo, fdo, pso, Fo, go, ko, bo⟩ := cOf.ex
  refine F.okX scRead (fun vs H Q E h => ?_) (fun cdv A outer s H vs Q E hr h => ?_)
  · obtain ⟨a, v, rfl, _⟩ := h
    rfl
  · obtain ⟨a, v, rfl, h⟩ := h
    refine ⟨_, (pss_cons (ps_if (pt_not (pt_val (pe_callB call_isi (by rfl) T.bisinstance (by decide +kernel) (pa_cons (pv 1) (pa_cons (pe_bltn (v := .ty "str") (by rfl) T.bstr (by decide +kernel) rfl) pa_nil))))) (pss_one (L2.ps_raise rfl (L2.takes_of rfl rfl rfl rfl) (pmk_oex (ds := []) (dvs := []) B.O B.i B.t Fe (hr.mono (by decide)) hbe .nil pass0 rfl B.g (pa_cons (pv 1) pa_nil)))) pss_nil)
      (pss_cons (ps_asg (pe_split (pv 1) pe_str) (pg_star rfl (pgs_cons (pg_name (i := 2) scRead.nd rfl (Or.inl rfl)) (pgs_cons (pg_name (i := 3) scRead.nd rfl (Or.inl rfl)) pgs_nil))))
      (pss_one (L2H.ps_try_onlyX (c := .ref CS) (tb := fun W D σ H => tRet (tCallS (spOf K c d) (WE W) (tCons (tVar 2) (tCons (tVar 3) tNil))) D σ H) (ts := fun _ _ _ D σ H => tMkO c.d (spErr K "value") [] (tCons (tVar 1) tNil) σ H fun cls dd H' => E cls dd H') (Wout := fun cls dd _ H => E cls dd H)
        rfl rfl ⟨rfl, by decide, .inl S.g⟩ (fun hd => L2H.passesAt_of rfl hd) (L2.takes_of rfl rfl rfl rfl)
        (fun W pn xe tkN _ _ => pss_one (ps_ret (pe_callS Fo hr rfl go ko bo (fun σ => L2N.passAt tkN σ) (pa_cons (pv 2) (pa_cons (pv 3) pa_nil)))))
        (fun a oe cls dd pn _ _ tkL hot => pss_one (L2H.ps_raiseHN hot tkL (L2H.pmk5_oexH B.O B.i B.t Fh (L2H.roomH_mark (hr.mono (by decide)) _) hot hbh pass0 rfl B.g (pa_cons (pv 1) pa_nil)))))))), ?_⟩
    rcases (show (∃ z, v = .str z ∧ z.length ≤ 1000 ∧ (Txt.split z " ").length ≤ 60 ∧ ((∃ mk us, DT z mk us ∧ ∀ x H', NewD d H x mk us H' → Q (.ref x) H') ∨ ((∀ mk us, ¬ DT z mk us) ∧ ∀ dd H', Told H dd "value" v H' → E (.ref c.d) (some dd) H'))) ∨ (NoStr K H v ∧ ∀ dd H', Told H dd "value" v H' → E (.ref c.d) (some dd) H') from by
      rcases h with ⟨z, mk, us, e, hz, hl, dt, q⟩ | ⟨⟨z, e, hz, hl, no⟩ | ns, q⟩
      · exact .inl ⟨z, e, hz, hl, .inl ⟨mk, us, dt, q⟩⟩
      · exact .inl ⟨z, e, hz, hl, .inr ⟨no, q⟩⟩
      · exact .inr ⟨ns, q⟩) with ⟨z, rfl, hz, hl, h⟩ | ⟨⟨t, ty, k⟩, q⟩
    · refine ⟨_, rfl, _, _, _, _, true, rfl, .ty "str", .base (.str z), kit_ty (by decide +kernel), true, rfl, iteF ?_⟩
      refine ⟨_, rfl, ⟨z, rfl⟩, z, _, rfl, rfl, by decide +kernel, Nat.le_trans (Nat.add_le_add_right hz 2) (by decide), fun p hp => ?_⟩
      have pos := PyProof.Rows.split_pos z (Str.ofString " ")
      have sh : ∀ a, a ∈ Txt.split z (Str.ofString " ") → a.length ≤ 1000 := fun a ha => Nat.le_trans (PyProof.Rows.part_short ha) hz
      have s1 : Same H (upd H p (.lst ((Txt.split z (Str.ofString " ")).map V.str))) := Same.new hp
      obtain ⟨w0, rest, el⟩ : ∃ w0 rest, Txt.split z (Str.ofString " ") = w0 :: rest := by
        cases e : Txt.split z (Str.ofString " ") with
        | nil => rw [e] at pos; cases pos
        | cons a l => exact ⟨a, l, rfl⟩
      have hl : (Txt.split z (Str.ofString " ")).length ≤ 60 := hl
      rw [el] at hl sh s1
      rw [el]
      have hl : rest.length + 1 ≤ 60 := hl
      have ls : 1000 ≤ sizeLine := by decide
      refine ⟨p, .str w0, rest.map V.str, rfl, SqL.of upd_same, by rw [List.length_map]; omega, fun D hD => ?_⟩
      have s2 : Same H (upd (upd H p (.lst ((w0 :: rest).map V.str))) D (.lst (rest.map V.str))) := s1.trans (Same.new hD)
      refine ⟨_, _, rfl, _, _, rfl, rfl, _, rfl, _, rfl, w0, D, rest, rfl, sh w0 (by simp), SqL.of upd_same, by omega, fun y hy => sh y (List.mem_cons_of_mem _ hy), ?_⟩
      rcases h with ⟨mk, us, ⟨wd, ws, e1, dp⟩, q⟩ | ⟨no, q⟩
      · have e2 := el.symm.trans e1
        injection e2 with e3 e4
        subst e3 e4
        exact .inl ⟨mk, us, dp, fun x H' nd => q x H' ⟨s2.trans nd.1, sameNone s2 nd.2.1, nd.2.2⟩⟩
      · refine .inr ⟨fun mk us dp => no mk us ⟨w0, rest, el, dp⟩, fun C y v2 dd H' hC tl => ⟨true, ?_, fun _ a ha => ?_, fun z => by cases z⟩⟩
        · rcases hC with e | e | e | e <;> subst e
          · exact S.n
          · exact S.t
          · exact S.m
          · exact S.d
        · exact ⟨_, rfl, mkO_of B.O B.v fun d2 H2 t2 => q d2 H2 (t2.old (s2.trans tl.1))⟩
    · exact ⟨_, rfl, _, _, _, _, false, rfl, .ty "str", ty, k, false, rfl, iteT ⟨_, rfl, mkO_of B.O B.v q⟩⟩
end
end K07

set_option Elab.async false
set_option linter.all false
set_option maxRecDepth 100000
set_option maxHeartbeats 4000000
/-! What a deed tells: its names, its room, its text; what it is equal to. -/
namespace NX
open PySem PySem.Spec PyProof.Rows L2
/-- e.f, a property of the object's own class, which is read off the heap -/
def tPropG (K : PySem.W.Frag) (f : Str) (g : Addr) (sp : Sp) (E : XK) (ta : TE) : TE := fun σ H Q => ta σ H fun x H1 => ∃ a C dx fs p, x = .ref a ∧ H1 a = some (.ins C dx fs) ∧ Cls K C ∧ PropOf K C f p g ∧ sp [.ref a] H1 Q E
theorem pe_propG {X : Cx} {CX : CXT} {k : Nat} {g : Addr} {f : Str} {fd : FuncData} {ps : List Str} {sp : Sp} {E : XK} {e : Expr} {pos : Pos} {ta : TE} (he : PE X e ta) (F : FnOk X.prog X.w X.K X.mg X.base CX k g fd ps sp) (hr : Room (k + 1) X.A) (hb : Binds X.K fd ps []) (hx : Passes CX X.nox E)
    (hab : attributeBase e f X.env (eval e X.env) = eval e X.env) : PE X (.Attribute e f pos) (tPropG X.K f g sp E ta) := by
  refine ⟨fun pins s σ H Q I h => ?_⟩
  refine attr_of hab (thn (he.run pins s σ H _ I h) fun u s1 ⟨x, H1, I1, rx, a, C, dx, fs, p, ex, ea, c, hp, q⟩ => ?_)
  subst ex
  obtain rfl : u = Value.ref a := rx
  exact getprop_ok (dvs := []) I1 ea c hp F hr hb .nil hx q
end NX
namespace K07
open PySem L2 NX NU
abbrev sNames : Stmt := inClass (top 28) 1
abbrev sDEq : Stmt := inClass (top 28) 4
abbrev sDStr : Stmt := inClass (top 28) 5
theorem scNames : FnScope ["self"] ["self"] (defScope sNames) := ⟨rfl, rfl, rfl, by decide +kernel, rfl, by decide +kernel, by decide +kernel⟩
theorem scDEq : FnScope ["self", "other"] ["self", "other"] (defScope sDEq) := ⟨rfl, rfl, rfl, by decide +kernel, rfl, by decide +kernel, by decide +kernel⟩
theorem scDStr : FnScope ["self", "words"] ["self"] (defScope sDStr) := ⟨rfl, rfl, rfl, by decide +kernel, rfl, by decide +kernel, by decide +kernel⟩
/-- a deed at x -/
structure IsD (c : D3) (H : Hp) (x : Addr) (mk : Option Str) (us ys : List Str) : Prop where
  dd : Dd H x (c.of mk us) us (mkV mk) ys
  nu : ∀ z ∈ us, z.length ≤ 1000 ∧ nm z = true
  nm_ : ∀ m, mk = some m → m.length ≤ 1000 ∧ nm m = true
  few : us.length ≤ 3
  asc : Asc ys (mk.toList ++ us)
theorem Dd.same {H H' : Hp} {x C : Addr} {us ys : List Str} {v : V} (s : Same H H') (h : Dd H x C us v ys) : Dd H' x C us v ys := by
  obtain ⟨dx, p, q, a, b, c⟩ := h
  exact ⟨dx, p, q, s _ _ a, s _ _ b, s _ _ c⟩
theorem IsD.same {c : D3} {H H' : Hp} {x : Addr} {mk : Option Str} {us ys : List Str} (s : Same H H') (h : IsD c H x mk us ys) : IsD c H' x mk us ys := ⟨h.dd.same s, h.nu, h.nm_, h.few, h.asc⟩
/-- what the classes of deeds say of their methods -/
structure DMeth (K : PySem.W.Frag) (C fN pN fR pR fEq fSt : Addr) : Prop where
  c : DCls K C
  nm_ : PropOf K C "names" pN fN
  rm : PropOf K C "room" pR fR
  eq : NX.EqC K C fEq
theorem of3 {c : D3} {mk : Option Str} {us : List Str} {φ : Addr → Prop} (h1 : φ c.u) (h2 : φ c.m) (h3 : φ c.d) : φ (c.of mk us) := by
  match mk, us with
  | none, _ => exact h1
  | some _, [] => exact h2
  | some _, _ :: _ => exact h3
def spNames (K : PySem.W.Frag) (c : D3) : Sp := fun vs H Q _ => ∃ x mk us ys, vs = [.ref x] ∧ IsD c H x mk us ys ∧ ∀ q, H q = some (.tup (ys.map V.str)) → Q (.ref q) H
def deedW : Option Str → List Str → List Str
  | none, us => "use" :: us
  | some m, [] => ["make", m]
  | some m, us => "do" :: m :: us
def deedT (mk : Option Str) (us : List Str) : Str := Txt.join (Str.ofString " ") (deedW mk us)
def spDStr (c : D3) : Sp := fun vs H Q _ => ∃ x mk us ys, vs = [.ref x] ∧ IsD c H x mk us ys ∧ ∀ H', Same H H' → Q (.str (deedT mk us)) H'
def spDEq (K : PySem.W.Frag) (c : D3) (CD : Addr) : Sp := fun vs H Q _ => ∃ (x : Addr) (mk : Option Str) (us ys : List Str) (y : V), vs = [.ref x, y] ∧ IsD c H x mk us ys ∧
  ((∃ x2 mk2 us2 ys2, y = .ref x2 ∧ IsD c H x2 mk2 us2 ys2 ∧ Q (.bl (decide (us = us2) && decide (mk = mk2))) H) ∨ (∃ t, TyX K H y t ∧ PySem.W.kitOne K t (.ref CD) = some false ∧ Q (.bl false) H))
section
variable {P : Program} {w : World} {K : PySem.W.Frag} {mg : Str → Option Value} {base : Heap}
structure D3C (K : PySem.W.Frag) (c : D3) : Prop where
  u : DCls K c.u
  m : DCls K c.m
  d : DCls K c.d
theorem D3C.at_ {c : D3} (k : D3C K c) (mk : Option Str) (us : List Str) : DCls K (c.of mk us) := of3 k.u k.m k.d
theorem ok_names {c : D3} {f : Addr} {fd : FuncData} (F : Fun K "names" "Deed.names" sNames f fd) (k : D3C K c) : FnOk P w K mg base CX0 1 f fd ["self"] (spNames K c) := by
  refine F.ok scNames (fun vs H Q E h => ?_) (fun cdv A outer s H vs Q E hr h => ?_)
  · obtain ⟨x, mk, us, ys, rfl, _⟩ := h
    rfl
  · obtain ⟨x, mk, us, ys, rfl, hD, q⟩ := h
    have kc := k.at_ mk us
    obtain ⟨dx, p, r, h1, h2, h3⟩ := hD.dd
    exact ⟨_, (pss_one (ps_ret (pe_fld (pv 0) rfl))), _, rfl, x, _, dx, _, _, rfl, h1, kc.cl, kc.nn, rfl, q r h3⟩
theorem deedW_le {mk : Option Str} {us : List Str} : (deedW mk us).length ≤ us.length + 2 := by
  match mk, us with
  | none, us => show us.length + 1 ≤ _; omega
  | some m, [] => exact Nat.le_refl _
  | some m, z :: us => exact Nat.le_refl _
theorem deedW_short {mk : Option Str} {us : List Str} (h1 : ∀ z ∈ us, z.length ≤ 6) (h2 : ∀ m, mk = some m → m.length ≤ 6) : ∀ z ∈ deedW mk us, z.length ≤ 6 := by
  have k1 : ("use" : Str).length ≤ 6 := by decide +kernel
  have k2 : ("make" : Str).length ≤ 6 := by decide +kernel
  have k3 : ("do" : Str).length ≤ 6 := by decide +kernel
  intro z hz
  match mk, us, hz with
  | none, us, hz =>
    rcases List.mem_cons.mp hz with e | e
    · rw [e]; exact k1
    · exact h1 z e
  | some m, [], hz =>
    rcases List.mem_cons.mp hz with e | e
    · rw [e]; exact k2
    · rw [List.mem_singleton.mp e]; exact h2 m rfl
  | some m, y :: us, hz =>
    rcases List.mem_cons.mp hz with e | e
    · rw [e]; exact k3
    · rcases List.mem_cons.mp e with e | e
      · rw [e]; exact h2 m rfl
      · exact h1 z e
theorem sum6 : ∀ {l : List Str}, (∀ z ∈ l, z.length ≤ 6) → (l.map (·.length)).sum ≤ 6 * l.length
  | [], _ => by simp
  | a :: r, h => by
    have h1 := h a List.mem_cons_self
    have h2 := sum6 (l := r) fun z hz => h z (List.mem_cons_of_mem _ hz)
    simp only [List.map_cons, List.sum_cons, List.length_cons] at *
    omega
theorem nm_le {z : Str} (h : nm z = true) : 1 ≤ z.length ∧ z.length ≤ 6 := by
  unfold nm at h
  rw [Bool.and_eq_true, Bool.and_eq_true, decide_eq_true_eq, decide_eq_true_eq] at h
  exact ⟨h.1, h.2.1⟩
theorem ok_dstr {c : D3} {f : Addr} {fd : FuncData} (F : Fun K "__str__" "Deed.__str__" sDStr f fd) (k : D3C K c) : FnOk P w K mg base CX0 1 f fd ["self"] (spDStr c) := by
  refine F.ok scDStr (fun vs H Q E h => ?_) (fun cdv A outer s H vs Q E hr h => ?_)
  · obtain ⟨x, mk, us, ys, rfl, _⟩ := h
    rfl
  · obtain ⟨x, mk, us, ys, rfl, hD, q⟩ := h
    have kc := k.at_ mk us
    obtain ⟨dx, p, r, g1, g2, g3⟩ := id hD.dd
    refine ⟨_, (C8.pss_cut (ps_if (pt_cmpR op_isN (pe_fld (pv 0) rfl) pe_non (nomark _)) (pss_one (ps_set (i := 1) scDStr.nd rfl (Or.inl rfl) (pe_lst (pa_cons pe_str (StX.pa_star (pe_fld (pv 0) rfl) pa_nil)))))
      (pss_one (ps_if (pt_truth (pe_fld (pv 0) rfl) (by intro _; rfl)) (pss_one (ps_set (i := 1) scDStr.nd rfl (Or.inl rfl) (pe_lst (pa_cons pe_str (pa_cons (pe_fld (pv 0) rfl) (StX.pa_star (pe_fld (pv 0) rfl) pa_nil))))))
        (pss_one (ps_set (i := 1) scDStr.nd rfl (Or.inl rfl) (pe_lst (pa_cons pe_str (pa_cons (pe_fld (pv 0) rfl) pa_nil))))))))
      (pss_one (ps_ret (pe_join pe_str (pv 1))))), ?_⟩
    have few := hD.few
    have z100 : (100 : Nat) ≤ sizeLine := by decide
    refine ⟨fun σ H' => ∃ l, σ = [some (.ref x), some (.ref l)] ∧ Same H H' ∧ H' l = some (.lst ((deedW mk us).map V.str)), ?_, ?_⟩
    · match mk, us, hD, g1, g2, few with
      | none, us, hD, g1, g2, few =>
        refine ⟨_, rfl, x, _, dx, _, _, rfl, g1, kc.cl, kc.nk, rfl, rfl, _, rfl, iteT ?_⟩
        refine ⟨_, rfl, x, _, dx, _, _, rfl, g1, kc.cl, kc.nu, rfl, p, _, rfl, .inl (SqT.of g2), ?_⟩
        dsimp only [tNil]
        rw [List.append_nil]
        refine ⟨by show (us.map V.str).length + 1 ≤ sizeLine; rw [List.length_map]; omega, fun l hl => ⟨l, rfl, Same.new hl, upd_same⟩⟩
      | some m, [], hD, g1, g2, few =>
        refine ⟨_, rfl, x, _, dx, _, _, rfl, g1, kc.cl, kc.nk, rfl, rfl, _, rfl, iteF ?_⟩
        refine ⟨_, rfl, x, _, dx, _, _, rfl, g1, kc.cl, kc.nu, rfl, false, .inr (.inl ⟨_, SqT.of g2, rfl⟩), iteF ?_⟩
        exact ⟨_, rfl, x, _, dx, _, _, rfl, g1, kc.cl, kc.nk, rfl, by show 2 ≤ sizeLine; decide, fun l hl => ⟨l, rfl, Same.new hl, upd_same⟩⟩
      | some m, z :: us, hD, g1, g2, few =>
        refine ⟨_, rfl, x, _, dx, _, _, rfl, g1, kc.cl, kc.nk, rfl, rfl, _, rfl, iteF ?_⟩
        refine ⟨_, rfl, x, _, dx, _, _, rfl, g1, kc.cl, kc.nu, rfl, true, .inr (.inl ⟨_, SqT.of g2, rfl⟩), iteT ?_⟩
        refine ⟨_, rfl, x, _, dx, _, _, rfl, g1, kc.cl, kc.nk, rfl, _, rfl, x, _, dx, _, _, rfl, g1, kc.cl, kc.nu, rfl, p, _, rfl, .inl (SqT.of g2), ?_⟩
        dsimp only [tNil]
        rw [List.append_nil]
        refine ⟨by show ((z :: us).map V.str).length + 2 ≤ sizeLine; rw [List.length_map]; omega, fun l hl => ⟨l, rfl, Same.new hl, upd_same⟩⟩
    · rintro σ H' ⟨l, rfl, s1, hl⟩
      have e1 : (Str.ofString " ").length = 1 := by decide +kernel
      have k1 := deedW_le (mk := mk) (us := us)
      have k2 := sum6 (deedW_short (mk := mk) (us := us) (fun z hz => (nm_le (hD.nu z hz).2).2) fun m e => (nm_le (hD.nm_ m e).2).2)
      exact ⟨⟨_, rfl⟩, _, rfl, _, l, deedW mk us, rfl, rfl, .inl (SqL.of hl), by rw [e1]; omega, q H' s1⟩
/-- tuples of texts, as data -/
theorem eqvTup : ∀ (us vs : List Str), PyData.eqv (.tuple (us.map PyData.str)) (.tuple (vs.map PyData.str)) = decide (us = vs)
  | [], [] => rfl
  | [], b :: vs => rfl
  | a :: us, [] => rfl
  | a :: us, b :: vs => by
    have h := eqvTup us vs
    have e : PyData.eqv (.tuple ((a :: us).map PyData.str)) (.tuple ((b :: vs).map PyData.str)) = ((a == b) && PyData.eqv (.tuple (us.map PyData.str)) (.tuple (vs.map PyData.str))) := rfl
    rw [e, h, Bool.eq_iff_iff, Bool.and_eq_true, beq_iff_eq, decide_eq_true_eq, decide_eq_true_eq, List.cons.injEq]
/-- names have small signs -/
theorem nm_okS {z : Str} (h : nm z = true) : ∀ ch ∈ z.cps.toList, ch < 256 := fun ch hc => by
  unfold nm at h
  rw [Bool.and_eq_true, Bool.and_eq_true, List.all_eq_true] at h
  have z := h.2.2 ch hc
  unfold lett at z
  rw [Bool.and_eq_true, decide_eq_true_eq, decide_eq_true_eq] at z
  omega
theorem strOk_of {a : Str} (h : ∀ ch ∈ a.cps.toList, ch < 256) : PyData.strOk a = true := by
  show a.cps.all (fun x => decide (x < 1114112)) = true
  rw [← Array.all_toList, List.all_eq_true]
  exact fun c hc => decide_eq_true (Nat.lt_trans (h c hc) (by decide))
theorem canTup : ∀ {us : List Str}, (∀ z ∈ us, nm z = true) → PyData.canLayAll0 (us.map PyData.str) = true
  | [], _ => rfl
  | a :: r, h => by
    have h1 := strOk_of (nm_okS (h a List.mem_cons_self))
    have h2 := canTup (us := r) fun z hz => h z (List.mem_cons_of_mem _ hz)
    show (PyData.strOk a && PyData.canLayAll0 (r.map PyData.str)) = true
    rw [h1, h2]
    rfl
theorem depTup : ∀ us : List Str, PyData.depthAll (us.map PyData.str) ≤ 1
  | [] => by decide
  | a :: r => by
    have h := depTup r
    show max _ _ ≤ 1
    exact Nat.max_le.mpr ⟨by show 0 ≤ 1; exact Nat.zero_le _, h⟩
theorem shapedTup {us : List Str} (h : ∀ z ∈ us, nm z = true) : SeqAt.shaped (.tuple (us.map PyData.str)) = true := by
  have h1 := canTup h
  have h2 := depTup us
  unfold SeqAt.shaped
  rw [Bool.and_eq_true, decide_eq_true_eq]
  refine ⟨h1, ?_⟩
  show _ + 1 ≤ 64
  omega
theorem dpTup {K : PySem.W.Frag} {H : Hp} : ∀ us : List Str, DpAll K H (us.map V.str) (us.map PyData.str)
  | [] => .nil
  | a :: r => .cons (.str _) (dpTup r)
theorem mkV_inj {a b : Option Str} : decide (mkV a = mkV b) = decide (a = b) := by
  rw [Bool.eq_iff_iff, decide_eq_true_eq, decide_eq_true_eq]
  refine ⟨fun h => ?_, fun h => by rw [h]⟩
  match a, b, h with
  | none, none, _ => rfl
  | some x, some y, h => injection h with h; rw [h]
  | none, some y, h => cases h
  | some x, none, h => cases h
structure DTy (K : PySem.W.Frag) (c : D3) (CD : Addr) : Prop where
  sp : PySem.W.specialIn K (.builtin "object.__class__") "__get__" = some (some (.builtin "getset_descriptor.__get__"))
  tk : PySem.W.takesIn K (.builtin "object.__class__") = some true
  cu : PySem.W.findIn K (.ref c.u) "__class__" = some (some (.builtin "object.__class__")) ∧ PySem.W.mroIn K c.u (.type "object") = some true
  cm : PySem.W.findIn K (.ref c.m) "__class__" = some (some (.builtin "object.__class__")) ∧ PySem.W.mroIn K c.m (.type "object") = some true
  cd : PySem.W.findIn K (.ref c.d) "__class__" = some (some (.builtin "object.__class__")) ∧ PySem.W.mroIn K c.d (.type "object") = some true
  ku : PySem.W.kitOne K (.ref c.u) (.ref CD) = some true
  km : PySem.W.kitOne K (.ref c.m) (.ref CD) = some true
  kd : PySem.W.kitOne K (.ref c.d) (.ref CD) = some true
theorem DTy.ty {c : D3} {CD : Addr} (t : DTy K c CD) (k : D3C K c) {H : Hp} {x : Addr} {mk : Option Str} {us ys : List Str} (h : IsD c H x mk us ys) : TyX K H (.ref x) (.ref (c.of mk us)) := by
  obtain ⟨dx, p, q, h1, h2, h3⟩ := h.dd
  have z := of3 (c := c) (mk := mk) (us := us) (φ := fun C => PySem.W.findIn K (.ref C) "__class__" = some (some (.builtin "object.__class__")) ∧ PySem.W.mroIn K C (.type "object") = some true) t.cu t.cm t.cd
  exact .base (.ins h1 (k.at_ mk us).cl z.1 t.sp t.tk z.2)
theorem ok_deq {c : D3} {CD : Addr} {f : Addr} {fd : FuncData} (F : Fun K "__eq__" "Deed.__eq__" sDEq f fd) (T : TxtB mg) (k : D3C K c) (t : DTy K c CD) (gD : mg "Deed" = some (.ref CD)) : FnOk P w K mg base CX0 1 f fd ["self", "other"] (spDEq K c CD) := by
  refine F.ok scDEq (fun vs H Q E h => ?_) (fun cdv A outer s H vs Q E hr h => ?_)
  · obtain ⟨x, mk, us, ys, y, rfl, _⟩ := h
    rfl
  · obtain ⟨x, mk, us, ys, y, rfl, hD, h⟩ := h
    have kc := k.at_ mk us
    obtain ⟨dx, p, r, g1, g2, g3⟩ := id hD.dd
    refine ⟨_, (pss_one (ps_ret (pe_and (pe_callB call_isi (by rfl) T.bisinstance (by decide +kernel) (pa_cons (pv 1) (pa_cons (C8.pe_gc (v := .ref CD) rfl ⟨_, gD, rfl⟩) pa_nil))) (pe_and (pe_cmpR (op_eqD hr.units) (pe_fld (pv 0) rfl) (pe_fld (pv 1) rfl) (nomark _)) (pe_one (pe_cmpR op_eq (pe_fld (pv 0) rfl) (pe_fld (pv 1) rfl) (nomark _))))))), ?_⟩
    rcases h with ⟨x2, mk2, us2, ys2, rfl, hD2, q⟩ | ⟨ty, hty, kt, q⟩
    · have kc2 := k.at_ mk2 us2
      obtain ⟨dx2, p2, r2, f1, f2, f3⟩ := id hD2.dd
      have kk := of3 (c := c) (mk := mk2) (us := us2) (φ := fun C => PySem.W.kitOne K (.ref C) (.ref CD) = some true) t.ku t.km t.kd
      refine ⟨_, rfl, _, _, _, _, true, rfl, .own CD, t.ty k hD2, kk, true, rfl, iteT ?_⟩
      refine ⟨_, rfl, x, _, dx, _, _, rfl, g1, kc.cl, kc.nu, rfl, _, rfl, x2, _, dx2, _, _, rfl, f1, kc2.cl, kc2.nu, rfl, _, _, .tup (SqT.of g2) (dpTup us), .tup (SqT.of f2) (dpTup us2), shapedTup (fun z hz => (hD.nu z hz).2), shapedTup (fun z hz => (hD2.nu z hz).2), ?_⟩
      rw [eqvTup]
      refine ⟨_, rfl, ite2 (fun h1 => ?_) (fun h1 => ?_)⟩
      · refine ⟨_, rfl, x, _, dx, _, _, rfl, g1, kc.cl, kc.nk, rfl, _, rfl, x2, _, dx2, _, _, rfl, f1, kc2.cl, kc2.nk, rfl, ?_⟩
        refine ⟨?_, ?_⟩
        · cases mk <;> cases mk2 <;> rfl
        · have e := mkV_inj (a := mk) (b := mk2)
          rw [h1, Bool.true_and] at q
          rw [← e] at q
          exact q
      · rw [Bool.eq_false_iff.mpr h1] at q
        exact q
    · exact ⟨_, rfl, _, _, _, _, false, rfl, .own CD, hty, kt, false, rfl, iteF q⟩
end
end K07

set_option Elab.async false
set_option linter.all false
set_option maxRecDepth 100000
set_option maxHeartbeats 4000000
/-! The law's draws: some of a pool, names. -/
namespace K07
open PySem L2 NX NU
abbrev sSome : Stmt := top 76
abbrev sLNames : Stmt := top 77
theorem scSome : FnScope ["_law_pen_here", "_law_pool", "_law_least", "_law_most", "_law_left", "_law_many", "_law_lap"] ["_law_pen_here", "_law_pool", "_law_least", "_law_most"] (defScope sSome) := ⟨rfl, rfl, rfl, by decide +kernel, rfl, by decide +kernel, by decide +kernel⟩
theorem scLNames : FnScope ["_law_pen_here", "_law_many", "_law_pools"] ["_law_pen_here", "_law_many"] (defScope sLNames) := ⟨rfl, rfl, rfl, by decide +kernel, rfl, by decide +kernel, by decide +kernel⟩
theorem sqL_same {K : PySem.W.Frag} {H H' : Hp} {a : Addr} {xs : List V} (s : Same H H') (h : SqL K H a xs) : SqL K H' a xs := by
  rcases h with (h | ⟨o, h⟩) | h
  · exact .inl (.inl (s _ _ h))
  · exact .inl (.inr ⟨o, s _ _ h⟩)
  · exact .inr h
theorem samePut {H H' : Hp} {D : Addr} {o : HO} (s : Same H H') (h : H D = none) : Same H (upd H' D o) := fun b u hb => by
  rw [upd_ne (ne_of_none hb h)]
  exact s b u hb
/-- some of ws, each once, in any order -/
def Part (ws xs : List Str) : Prop := ∃ left, (xs ++ left).Perm ws
def spSome (K : PySem.W.Frag) : Sp := fun vs H Q _ => ∃ (p c : Addr) (ns : List Int) (at_ rest : Int) (l : Addr) (ws : List Str) (least most : Nat), vs = [.ref p, .ref l, .int (least : Int), .int (most : Int)] ∧ Pen H p c ns at_ rest ∧ at_ ≤ 900000 ∧ SqL K H l (ws.map V.str) ∧ ws.length ≤ 100 ∧ least ≤ most ∧ least ≤ ws.length ∧
  ∀ r xs H', H r = none → H' r = some (.lst (xs.map V.str)) → Part ws xs → least ≤ xs.length → xs.length ≤ most → Drawn H p c ns (at_ + 1 + ws.length) H' → Q (.ref r) H'
def rLen (K : PySem.W.Frag) : List V → Hp → VK → Prop := fun xs H Q => ∃ p ys, xs = [.ref p] ∧ (SqL K H p ys ∨ SqT K H p ys) ∧ Q (.int ys.length) H
/-- what stands while some is drawn -/
structure SomeI (H H' : Hp) (p c : Addr) (ns : List Int) (m : Int) (e D : Addr) (ws xs : List Str) : Prop where
  pen : ∃ a r, Pen H' p c ns a r ∧ a ≤ m
  but : But p H H'
  ex : ∃ left : List Str, H' e = some (.lst (left.map V.str)) ∧ (xs ++ left).Perm ws
  hD : H' D = some (.lst (xs.map V.str))
theorem seqIx {j n : Nat} (h : j < n) : seqIndex? (j : Int) n = some j := by
  unfold seqIndex?
  simp
  omega
theorem erase_map : ∀ (l : List Str) (j : Nat), (l.map V.str).eraseIdx j = (l.eraseIdx j).map V.str
  | [], _ => rfl
  | a :: l, 0 => rfl
  | a :: l, j + 1 => congrArg (V.str a :: ·) (erase_map l j)
theorem perm_pop : ∀ {left : List Str} {j : Nat} (h : j < left.length), (left[j] :: left.eraseIdx j).Perm left
  | a :: l, 0, _ => List.Perm.refl _
  | a :: l, j + 1, h => by
    have hj : j < l.length := by simpa using h
    exact (List.Perm.swap a l[j] (l.eraseIdx j)).trans ((perm_pop hj).cons a)
section
variable {P : Program} {w : World} {K : PySem.W.Frag} {mg : Str → Option Value} {base : Heap}
theorem ok_some {f : Addr} {fd : FuncData} (F : Fun K "_law_some" "_law_some" sSome f fd) (T : TxtB mg) (bmin : mg "min" = none) (cDraw : C8.Cal P w K mg base 1 "_law_draw" spDraw []) : FnOk P w K mg base CX0 2 f fd ["_law_pen_here", "_law_pool", "_law_least", "_law_most"] (spSome K) := by
  refine F.ok scSome (fun vs H Q E h => ?_) (fun cdv A outer s H vs Q E hr h => ?_)
  · obtain ⟨p, c, ns, a, r, l, ws, x, y, rfl, _⟩ := h
    rfl
  · obtain ⟨p, c, ns, at_, rest, l, ws, least, most, rfl, Pn, ha, hS, h100, hlm, hlw, k⟩ := h
    refine ⟨_, (pss_cons (ps_set (i := 4) scSome.nd rfl (Or.inr rfl) (pe_callTy call_list_of (by rfl) T.blist (by decide +kernel) (pa_cons (pv 1) pa_nil)))
      (pss_cons (ps_set (i := 5) scSome.nd rfl (Or.inl rfl) (pe_op op_add (pv 2) (C8.pe_c cDraw hr (by decide) rfl (pa_cons (pv 0) (pa_cons (pe_op op_add (pe_op op_sub (pe_callB (call_min2 rfl) (by rfl) bmin (by decide +kernel) (pa_cons (pv 3) (pa_cons (pe_callB call_len_seq (by rfl) T.blen (by decide +kernel) (pa_cons (pv 1) pa_nil)) pa_nil))) (pv 2)) pe_int) pa_nil)))))
      (pss_one (ps_ret (pe_lc (own := [("_law_lap", 6)]) (g := gName 6) rfl scSome.nd (pi_range1 (by rfl) T.brange (pa_cons (pv 5) pa_nil)) (blkOk_by (own := [("_law_lap", 6)]) (N := ["_law_pen_here", "_law_pool", "_law_least", "_law_most", "_law_left", "_law_many", "_law_lap"]) (sc := defScope sSome) (by decide +kernel)) (fun _ _ _ _ _ => (pg_name (i := 6) scSome.nd rfl (Or.inl rfl))) (fun _ _ _ _ _ => pts_nil)
        (fun _ _ _ _ _ => (show PE _ _ (tBM K "list" rPopAt (tVar 4) (tCons (tCall spDraw [] C8.E0 (tCons (tVar 0) (tCons (tCB (rLen K) (tCons (tVar 4) tNil)) tNil))) tNil)) from pe_bm PySem.F.plainAttrs_list PySem.F.slot_list_pop PySem.F.type_list_pop mt_popAt (pv 4) (pa_cons (C8.pe_c cDraw hr (by decide) rfl (pa_cons (pv 0) (pa_cons (pe_callB (show CallR _ (.builtin "len") (rLen K) from call_len_seq) (by rfl) T.blen (by decide +kernel) (pa_cons (pv 4) pa_nil)) pa_nil))) pa_nil)))))))), ?_⟩
    refine ⟨_, rfl, l, _, rfl, .inl hS, fun e he => ?_⟩
    have s1 : Same H (upd H e (.lst (ws.map V.str))) := Same.new he
    have P1 := Pn.same s1
    have hl1 := sqL_same s1 hS
    have he1 : (upd H e (.lst (ws.map V.str))) e = some (.lst (ws.map V.str)) := upd_same
    have ep : e ≠ p := fun z => by rw [z, Pn.hp] at he; cases he
    have ec : e ≠ c := fun z => by rw [z, Pn.hc] at he; cases he
    generalize (upd H e (.lst (ws.map V.str))) = H1 at *
    refine ⟨_, rfl, _, rfl, _, rfl, _, rfl, l, _, rfl, .inl hl1, _, _, rfl, _, rfl, _, _, rfl, rfl, _, _, rfl, rfl, ?_⟩
    have hmn : (if ((ws.map V.str).length : Int) < (most : Int) then ((ws.map V.str).length : Int) else (most : Int)) = ((min ws.length most : Nat) : Int) := by
      rw [List.length_map]
      split <;> omega
    rw [hmn]
    refine ⟨p, c, ns, at_, rest, _, rfl, P1, by omega, by omega, by omega, fun d H2 d0 d1 hd => ?_⟩
    obtain ⟨dn, rfl⟩ := Int.eq_ofNat_of_zero_le d0
    obtain ⟨at2, rest2, P2, l2, B2⟩ := hd
    have he2 := B2 _ _ he1 ep
    have B02 : But p H H2 := (But.same s1).trans B2
    refine ⟨_, _, rfl, rfl, ?_⟩
    refine ⟨_, rfl, _, rfl, by omega, by omega, ?_⟩
    have et : ((least : Int) + (dn : Int)).toNat = least + dn := by omega
    rw [et]
    intro D hD
    have Dp : D ≠ p := fun z => by rw [z, P2.hp] at hD; cases hD
    have Dc : D ≠ c := fun z => by rw [z, P2.hc] at hD; cases hD
    have De : e ≠ D := fun z => by rw [← z, he2] at hD; cases hD
    have hle : least + dn ≤ ws.length := by omega
    have HD0 : H D = none := by
      cases q : H D with
      | none => rfl
      | some o =>
        rw [B02 _ _ q Dp] at hD
        cases hD
    have z100 : (200 : Nat) ≤ sizeLine := by decide
    refine lc_range (lo := 0) (n := least + dn) (fun i H' => ∃ xs, xs.length = i ∧ SomeI H H' p c ns (at_ + 1 + i) e D ws xs) ?_ ?_ ?_
    · refine ⟨[], rfl, ⟨at2, rest2, ⟨(upd_ne (Ne.symm Dp)).trans P2.hp, (upd_ne (Ne.symm Dc)).trans P2.hc, P2.la, P2.lr⟩, by omega⟩, fun b o hb n => ?_, ⟨ws, (upd_ne De).trans he2, List.Perm.refl _⟩, upd_same⟩
      rw [upd_ne (fun z => by rw [z, HD0] at hb; cases hb)]
      exact B02 b o hb n
    · rintro i H' hi ⟨xs, hx, ⟨⟨a, r, P3, l3⟩, B3, ⟨left, he3, pm⟩, hD3⟩⟩
      have hlen := pm.length_eq
      rw [List.length_append] at hlen
      have hpos : 0 < left.length := by omega
      refine ⟨rfl, ?_⟩
      unfold tYes
      dsimp only
      rw [if_pos rfl]
      refine ⟨_, rfl, .inl ⟨rfl, _, SqL.of he3⟩, ?_⟩
      refine ⟨_, rfl, _, rfl, e, _, rfl, .inl (SqL.of he3), ?_⟩
      rw [List.length_map]
      refine ⟨p, c, ns, a, r, _, rfl, P3, by omega, by omega, by omega, fun d H4 d0 d1 hd => ?_⟩
      obtain ⟨j, rfl⟩ := Int.eq_ofNat_of_zero_le d0
      obtain ⟨a4, r4, P4, l4, B4⟩ := hd
      have hj : j < left.length := by omega
      have he4 := B4 _ _ he3 ep
      have hD4 := B4 _ _ hD3 Dp
      refine ⟨e, _, _, j, .str left[j], rfl, rfl, he4, by omega, by omega, seqIx (by rw [List.length_map]; exact hj), by rw [List.getElem?_map, List.getElem?_eq_getElem hj]; rfl, ?_⟩
      have eE : (left.map V.str).eraseIdx j = (left.eraseIdx j).map V.str := erase_map left j
      rw [eE]
      have HE0 : ∀ b o, H b = some o → b ≠ e := fun b o hb z => by rw [z, he] at hb; cases hb
      refine ⟨_, (upd_ne (Ne.symm De)).trans hD4, by rw [List.length_map]; omega, xs ++ [left[j]], by rw [List.length_append, hx]; rfl, ⟨a4, r4, ⟨?_, ?_, P4.la, P4.lr⟩, by omega⟩, fun b o hb n => ?_, ⟨left.eraseIdx j, ?_, ?_⟩, ?_⟩
      · rw [upd_ne (Ne.symm Dp), upd_ne (Ne.symm ep)]
        exact P4.hp
      · rw [upd_ne (Ne.symm Dc), upd_ne (Ne.symm ec)]
        exact P4.hc
      · rw [upd_ne (fun z => by rw [z, HD0] at hb; cases hb), upd_ne (HE0 b o hb)]
        exact B4 b o (B3 b o hb n) n
      · rw [upd_ne De]
        exact upd_same
      · rw [List.append_assoc]
        exact (List.Perm.append_left xs (perm_pop hj)).trans pm
      · rw [upd_same, List.map_append]
        rfl
    · rintro H' ⟨xs, hx, ⟨⟨a, r, P3, l3⟩, B3, ⟨left, he3, pm⟩, hD3⟩⟩
      exact k D xs H' HD0 hD3 ⟨left, pm⟩ (by omega) (by omega) ⟨a, r, P3, by omega, B3⟩
end
end K07

set_option Elab.async false
set_option linter.all false
set_option maxRecDepth 100000
set_option maxHeartbeats 4000000
/-! The law's names. -/
namespace K07
open PySem L2 NX NU
def poolA : List Str := ["a", "b", "c", "d", "e", "f"]
def poolB : List Str := ["x", "xy", "xyz", "xyzz", "xyzzz", "xyzzzz"]
def poolC : List Str := ["use", "make", "do", "loop", "end", "given"]
def poolD : List Str := ["zzzzzz", "aaaaaa", "azazaz", "z", "again", "store"]
theorem pools_ok : [poolA, poolB, poolC, poolD].all (fun l => decide (l.length = 6) && decide l.Nodup && l.all (fun z => nm z)) = true := by decide +kernel
theorem pool_at {l : List Str} (h : l ∈ [poolA, poolB, poolC, poolD]) : l.length = 6 ∧ l.Nodup ∧ ∀ z ∈ l, nm z = true := by
  have q := List.all_eq_true.mp pools_ok l h
  rw [Bool.and_eq_true, Bool.and_eq_true, decide_eq_true_eq, decide_eq_true_eq, List.all_eq_true] at q
  exact ⟨q.1.1, q.1.2, q.2⟩
theorem Part.mem {ws xs : List Str} (h : Part ws xs) : ∀ z ∈ xs, z ∈ ws := fun z hz => by
  obtain ⟨left, pm⟩ := h
  exact pm.subset (List.mem_append_left _ hz)
theorem Part.nodup {ws xs : List Str} (h : Part ws xs) (n : ws.Nodup) : xs.Nodup := by
  obtain ⟨left, pm⟩ := h
  have := pm.nodup_iff.mpr n
  exact (List.nodup_append.mp this).1
/-- names, each once -/
def Uni (xs : List Str) : Prop := xs.Nodup ∧ ∀ z ∈ xs, nm z = true
def spLNames : Sp := fun vs H Q _ => ∃ (p c : Addr) (ns : List Int) (at_ rest : Int) (m : Nat), vs = [.ref p, .int (m : Int)] ∧ 1 ≤ m ∧ m ≤ 6 ∧ Pen H p c ns at_ rest ∧ at_ ≤ 800000 ∧
  ∀ r xs H', H r = none → H' r = some (.lst (xs.map V.str)) → Uni xs → xs.length = m → Drawn H p c ns (at_ + 10) H' → Q (.ref r) H'
section
variable {P : Program} {w : World} {K : PySem.W.Frag} {mg : Str → Option Value} {base : Heap}
theorem ok_lnames {f : Addr} {fd : FuncData} (F : Fun K "_law_names" "_law_names" sLNames f fd) (cPick : C8.Cal P w K mg base 2 "_law_pick" (spPick K) []) (cSome : C8.Cal P w K mg base 2 "_law_some" (spSome K) []) : FnOk P w K mg base CX0 3 f fd ["_law_pen_here", "_law_many"] spLNames := by
  refine F.ok scLNames (fun vs H Q E h => ?_) (fun cdv A outer s H vs Q E hr h => ?_)
  · obtain ⟨p, c, ns, a, r, m, rfl, _⟩ := h
    rfl
  · obtain ⟨p, c, ns, at_, rest, m, rfl, hm1, hm6, Pn, ha, k⟩ := h
    refine ⟨_, (pss_cons (ps_set (i := 2) scLNames.nd rfl (Or.inl rfl) (pe_lst (pa_cons (pe_lst (pa_cons pe_str (pa_cons pe_str (pa_cons pe_str (pa_cons pe_str (pa_cons pe_str (pa_cons pe_str pa_nil))))))) (pa_cons (pe_lst (pa_cons pe_str (pa_cons pe_str (pa_cons pe_str (pa_cons pe_str (pa_cons pe_str (pa_cons pe_str pa_nil))))))) pa_nil))))
      (pss_cons (ps_expr (pe_bm PySem.F.plainAttrs_list PySem.F.slot_list_append PySem.F.type_list_append mt_append (pv 2) (pa_cons (pe_lst (pa_cons pe_str (pa_cons pe_str (pa_cons pe_str (pa_cons pe_str (pa_cons pe_str (pa_cons pe_str pa_nil))))))) pa_nil)))
      (pss_cons (ps_expr (pe_bm PySem.F.plainAttrs_list PySem.F.slot_list_append PySem.F.type_list_append mt_append (pv 2) (pa_cons (pe_lst (pa_cons pe_str (pa_cons pe_str (pa_cons pe_str (pa_cons pe_str (pa_cons pe_str (pa_cons pe_str pa_nil))))))) pa_nil)))
      (pss_one (ps_ret (C8.pe_c cSome hr (by decide) rfl (pa_cons (pv 0) (pa_cons (C8.pe_c cPick hr (by decide) rfl (pa_cons (pv 0) (pa_cons (pv 2) pa_nil))) (pa_cons (pv 1) (pa_cons (pv 1) pa_nil)))))))))), ?_⟩
    refine ⟨by show 6 ≤ sizeLine; decide, fun a1 h1 => ⟨by show 6 ≤ sizeLine; decide, fun a2 h2 => ⟨by show 2 ≤ sizeLine; decide, fun l h3 => ?_⟩⟩⟩
    have eA : poolA.map V.str = [V.str (Str.ofString "a"), V.str (Str.ofString "b"), V.str (Str.ofString "c"), V.str (Str.ofString "d"), V.str (Str.ofString "e"), V.str (Str.ofString "f")] := rfl
    have eB : poolB.map V.str = [V.str (Str.ofString "x"), V.str (Str.ofString "xy"), V.str (Str.ofString "xyz"), V.str (Str.ofString "xyzz"), V.str (Str.ofString "xyzzz"), V.str (Str.ofString "xyzzzz")] := rfl
    have eC : poolC.map V.str = [V.str (Str.ofString "use"), V.str (Str.ofString "make"), V.str (Str.ofString "do"), V.str (Str.ofString "loop"), V.str (Str.ofString "end"), V.str (Str.ofString "given")] := rfl
    have eD : poolD.map V.str = [V.str (Str.ofString "zzzzzz"), V.str (Str.ofString "aaaaaa"), V.str (Str.ofString "azazaz"), V.str (Str.ofString "z"), V.str (Str.ofString "again"), V.str (Str.ofString "store")] := rfl
    rw [← eA] at h2
    rw [← eA, ← eB] at h3
    rw [← eA, ← eB]
    have S1 := Same.new (o := .lst (poolA.map V.str)) h1
    have S2 := Same.new (o := .lst (poolB.map V.str)) h2
    have S3 := Same.new (o := .lst [.ref a1, .ref a2]) h3
    have g1 := (S2.trans S3) _ _ (upd_same (H := H) (a := a1) (o := .lst (poolA.map V.str)))
    have g2 := S3 _ _ (upd_same (H := upd H a1 (.lst (poolA.map V.str))) (a := a2) (o := .lst (poolB.map V.str)))
    have gl : (upd (upd (upd H a1 (.lst (poolA.map V.str))) a2 (.lst (poolB.map V.str))) l (.lst [.ref a1, .ref a2])) l = some (.lst [.ref a1, .ref a2]) := upd_same
    have SA := (S1.trans S2).trans S3
    have hl0 : H l = none := sameNone (S1.trans S2) h3
    clear S1 S2 S3 h1 h2 h3
    generalize (upd (upd (upd H a1 (.lst (poolA.map V.str))) a2 (.lst (poolB.map V.str))) l (.lst [.ref a1, .ref a2])) = G1 at *
    refine ⟨_, rfl, .inl ⟨rfl, _, SqL.of gl⟩, by show 6 ≤ sizeLine; decide, fun a3 h3 => ?_⟩
    rw [← eC]
    have S3 := Same.new (o := .lst (poolC.map V.str)) h3
    have n3 : a3 ≠ l := fun z => by rw [z, gl] at h3; cases h3
    have n1 : a1 ≠ l := fun z => by rw [z, gl] at g1; cases g1
    have n2 : a2 ≠ l := fun z => by rw [z, gl] at g2; cases g2
    have g3 : (upd G1 a3 (.lst (poolC.map V.str))) a3 = some (.lst (poolC.map V.str)) := upd_same
    have g1 := S3 _ _ g1
    have g2 := S3 _ _ g2
    have gl := S3 _ _ gl
    have SA := SA.trans S3
    clear S3 h3
    generalize (upd G1 a3 (.lst (poolC.map V.str))) = G2 at *
    refine ⟨l, _, _, rfl, rfl, gl, by show 2 < sizeLine; decide, ?_⟩
    have g1 : (upd G2 l (.lst ([.ref a1, .ref a2] ++ [.ref a3]))) a1 = some (.lst (poolA.map V.str)) := (upd_ne n1).trans g1
    have g2 : (upd G2 l (.lst ([.ref a1, .ref a2] ++ [.ref a3]))) a2 = some (.lst (poolB.map V.str)) := (upd_ne n2).trans g2
    have g3 : (upd G2 l (.lst ([.ref a1, .ref a2] ++ [.ref a3]))) a3 = some (.lst (poolC.map V.str)) := (upd_ne n3).trans g3
    have SA : Same H (upd G2 l (.lst ([.ref a1, .ref a2] ++ [.ref a3]))) := samePut SA hl0
    have gl : (upd G2 l (.lst ([.ref a1, .ref a2] ++ [.ref a3]))) l = some (.lst [.ref a1, .ref a2, .ref a3]) := upd_same
    generalize (upd G2 l (.lst ([.ref a1, .ref a2] ++ [.ref a3]))) = G3 at *
    refine ⟨_, rfl, .inl ⟨rfl, _, SqL.of gl⟩, by show 6 ≤ sizeLine; decide, fun a4 h4 => ?_⟩
    rw [← eD]
    have S4 := Same.new (o := .lst (poolD.map V.str)) h4
    have n4 : a4 ≠ l := fun z => by rw [z, gl] at h4; cases h4
    have g4 : (upd G3 a4 (.lst (poolD.map V.str))) a4 = some (.lst (poolD.map V.str)) := upd_same
    have g1 := S4 _ _ g1
    have g2 := S4 _ _ g2
    have g3 := S4 _ _ g3
    have gl := S4 _ _ gl
    have SA := SA.trans S4
    clear S4 h4
    generalize (upd G3 a4 (.lst (poolD.map V.str))) = G4 at *
    refine ⟨l, _, _, rfl, rfl, gl, by show 3 < sizeLine; decide, ?_⟩
    have g1 : (upd G4 l (.lst ([.ref a1, .ref a2, .ref a3] ++ [.ref a4]))) a1 = some (.lst (poolA.map V.str)) := (upd_ne n1).trans g1
    have g2 : (upd G4 l (.lst ([.ref a1, .ref a2, .ref a3] ++ [.ref a4]))) a2 = some (.lst (poolB.map V.str)) := (upd_ne n2).trans g2
    have g3 : (upd G4 l (.lst ([.ref a1, .ref a2, .ref a3] ++ [.ref a4]))) a3 = some (.lst (poolC.map V.str)) := (upd_ne n3).trans g3
    have g4 : (upd G4 l (.lst ([.ref a1, .ref a2, .ref a3] ++ [.ref a4]))) a4 = some (.lst (poolD.map V.str)) := (upd_ne n4).trans g4
    have SA : Same H (upd G4 l (.lst ([.ref a1, .ref a2, .ref a3] ++ [.ref a4]))) := samePut SA hl0
    have gl : (upd G4 l (.lst ([.ref a1, .ref a2, .ref a3] ++ [.ref a4]))) l = some (.lst [.ref a1, .ref a2, .ref a3, .ref a4]) := upd_same
    generalize (upd G4 l (.lst ([.ref a1, .ref a2, .ref a3] ++ [.ref a4]))) = G5 at *
    have P5 := Pn.same SA
    have lp : l ≠ p := fun z => by rw [z, Pn.hp] at hl0; cases hl0
    refine ⟨_, rfl, _, rfl, _, rfl, p, c, ns, at_, rest, .ref l, rfl, P5, by omega, .inl ⟨l, _, rfl, SqL.of gl, lp, by show 0 < 4; decide, by show 4 < 1000; decide, fun v H6 hv hd => ?_⟩⟩
    obtain ⟨ws, a, rfl, ha5, hws⟩ : ∃ ws a, v = .ref a ∧ G5 a = some (.lst (ws.map V.str)) ∧ ws ∈ [poolA, poolB, poolC, poolD] := by
      simp only [List.mem_cons, List.not_mem_nil, or_false] at hv
      rcases hv with e | e | e | e
      · exact ⟨poolA, a1, e, g1, by simp⟩
      · exact ⟨poolB, a2, e, g2, by simp⟩
      · exact ⟨poolC, a3, e, g3, by simp⟩
      · exact ⟨poolD, a4, e, g4, by simp⟩
    obtain ⟨w6, wn, wk⟩ := pool_at hws
    obtain ⟨a6, r6, P6, l6, B6⟩ := hd
    have ap : a ≠ p := fun z => by
      rw [z, P5.hp] at ha5
      injection ha5 with h
      injection h with h
      cases ws with
      | nil => cases h
      | cons y ys => injection h with h; cases h
    have ha6 := B6 _ _ ha5 ap
    refine ⟨_, rfl, _, rfl, p, c, ns, a6, r6, a, ws, m, m, rfl, P6, by omega, SqL.of ha6, by omega, by omega, by omega, fun r xs H7 hr0 hr7 pt h1 h2 hd7 => ?_⟩
    obtain ⟨a7, r7, P7, l7, B7⟩ := hd7
    have B06 : But p H H6 := (But.same SA).trans B6
    have hrH : H r = none := by
      cases q : H r with
      | none => rfl
      | some o =>
        have rp : r ≠ p := fun z => by rw [z, P6.hp] at hr0; cases hr0
        rw [B06 _ _ q rp] at hr0
        cases hr0
    exact k r xs H7 hrH hr7 ⟨pt.nodup wn, fun z hz => wk z (pt.mem z hz)⟩ (by omega) ⟨a7, r7, P7, by omega, B06.trans B7⟩
end
end K07

set_option Elab.async false
set_option linter.all false
set_option maxRecDepth 100000
set_option maxHeartbeats 4000000
/-! The law's deeds. -/
namespace K07
open PySem L2 NX NU
abbrev sReal : Stmt := top 78
theorem scReal : FnScope ["_law_made", "_law_used"] ["_law_made", "_law_used"] (defScope sReal) := ⟨rfl, rfl, rfl, by decide +kernel, rfl, by decide +kernel, by decide +kernel⟩
/-- what a deed is made of -/
structure LotOk (mk : Option Str) (us : List Str) : Prop where
  u : Uni us
  few : us.length ≤ 3
  m : ∀ z, mk = some z → nm z = true
  some_ : mk = none → 0 < us.length
theorem noRep_of {us : List Str} (h : us.Nodup) : NoRep us := fun i z hz hm => by
  obtain ⟨j, hj, e⟩ := List.mem_iff_getElem.mp hm
  rw [List.getElem_take] at e
  obtain ⟨hi, ez⟩ := List.getElem?_eq_some_iff.mp hz
  have hj' : j < i := by rw [List.length_take] at hj; omega
  have := (List.pairwise_iff_getElem.mp h) j i (by omega) hi hj'
  exact this (by rw [e, ez])
theorem LotOk.nms {mk : Option Str} {us : List Str} (h : LotOk mk us) : Nms us := fun z hz => by
  have q := h.u.2 z hz
  have := nm_le q
  exact ⟨by omega, q⟩
theorem LotOk.nmM {mk : Option Str} {us : List Str} (h : LotOk mk us) {m : Str} (e : mk = some m) : m.length ≤ 1000 ∧ nm m = true := by
  have q := h.m m e
  have := nm_le q
  exact ⟨by omega, q⟩
def NewI (d : D3) (H : Hp) (x : Addr) (mk : Option Str) (us : List Str) (H' : Hp) : Prop := Same H H' ∧ H x = none ∧ ∃ ys, IsD d H' x mk us ys
def spReal (K : PySem.W.Frag) (d : D3) : Sp := fun vs H Q _ => ∃ (l : Addr) (mk : Option Str) (us : List Str), vs = [mkV mk, .ref l] ∧ SqL K H l (us.map V.str) ∧ LotOk mk us ∧ ∀ x H', NewI d H x mk us H' → Q (.ref x) H'
section
variable {P : Program} {w : World} {K : PySem.W.Frag} {mg : Str → Option Value} {base : Heap}
theorem real_use {c : C4} {d : D3} {fU fM fD : Addr} {H : Hp} {us : List Str} {Q : VK} {E : XK} (D : Dcs K mg d fU fM fD) (ok : LotOk none us) (k : ∀ x H', NewI d H x none us H' → Q (.ref x) H') :
    ∀ x dx, H x = none → H dx = none → dx ≠ x → spUse K c (V.ref x :: us.map V.str) (upd (upd H dx (.own x)) x (.ins d.u dx [])) (fun v H2 => v = .non ∧ Q (.ref x) H2) E := by
  intro x dx h1 h2 h3
  have s1 := made2 (C := d.u) h1 h2 h3
  have lz : 60 ≤ sizeLine := by decide
  have few := ok.few
  refine ⟨[.ref x], us.map V.str, rfl, rfl, by rw [List.length_map]; omega, fun p hp => ?_⟩
  have s2 := s1.trans (Same.new (o := .tup (us.map V.str)) hp)
  have px : x ≠ p := fun e => by rw [← e, upd_same] at hp; cases hp
  refine ⟨x, d.u, dx, p, us.map V.str, none, rfl, D.du, (upd_ne px).trans upd_same, upd_same, by rw [List.length_map]; omega, .rest rfl ok.nms (.ok (noRep_of ok.u.1) (ok.some_ rfl) few), fun ws ys H2 e asc but dd => ?_⟩
  have e : us = ws := map_str e
  subst e
  have s3 := new_of h1 s2 but
  exact ⟨rfl, k x H2 ⟨s3, h1, ys, dd, ok.nms, (fun m e => by cases e), few, asc⟩⟩
theorem real_do {c : C4} {d : D3} {fU fM fD : Addr} {H : Hp} {m z0 : Str} {us : List Str} {Q : VK} {E : XK} (D : Dcs K mg d fU fM fD) (ok : LotOk (some m) (z0 :: us)) (k : ∀ x H', NewI d H x (some m) (z0 :: us) H' → Q (.ref x) H') :
    ∀ x dx, H x = none → H dx = none → dx ≠ x → spDo K c (V.ref x :: V.str m :: (z0 :: us).map V.str) (upd (upd H dx (.own x)) x (.ins d.d dx [])) (fun v H2 => v = .non ∧ Q (.ref x) H2) E := by
  intro x dx h1 h2 h3
  have s1 := made2 (C := d.d) h1 h2 h3
  have lz : 60 ≤ sizeLine := by decide
  have few := ok.few
  refine ⟨[.ref x, .str m], (z0 :: us).map V.str, rfl, rfl, by rw [List.length_map]; omega, fun p hp => ?_⟩
  have s2 := s1.trans (Same.new (o := .tup ((z0 :: us).map V.str)) hp)
  have px : x ≠ p := fun e => by rw [← e, upd_same] at hp; cases hp
  refine ⟨x, d.d, dx, p, .str m, (z0 :: us).map V.str, none, rfl, D.dd, (upd_ne px).trans upd_same, upd_same, by rw [List.length_map]; omega, .rest (ws := m :: z0 :: us) rfl (fun z hz => (List.mem_cons.mp hz).elim (fun e => by rw [e]; exact ok.nmM rfl) (ok.nms z)) (.ok (noRep_of ok.u.1) (by show 0 < us.length + 1; omega) few), fun m' ws ys H2 em e asc but dd => ?_⟩
  injection em with em
  subst em
  have e : z0 :: us = ws := map_str e
  subst e
  have s3 := new_of h1 s2 but
  exact ⟨rfl, k x H2 ⟨s3, h1, ys, dd, ok.nms, (fun y e => ok.nmM e), few, asc⟩⟩
theorem real_make {c : C4} {d : D3} {fU fM fD : Addr} {H : Hp} {m : Str} {Q : VK} {E : XK} (D : Dcs K mg d fU fM fD) (ok : LotOk (some m) []) (k : ∀ x H', NewI d H x (some m) [] H' → Q (.ref x) H') :
    ∀ x dx, H x = none → H dx = none → dx ≠ x → spMake K c (V.ref x :: ([V.str m] ++ [])) (upd (upd H dx (.own x)) x (.ins d.m dx [])) (fun v H2 => v = .non ∧ Q (.ref x) H2) E := by
  intro x dx h1 h2 h3
  have s1 := made2 (C := d.m) h1 h2 h3
  have hm := ok.nmM rfl
  refine ⟨x, d.m, dx, .str m, rfl, D.dm, upd_same, .inl ⟨m, ⟨rfl, hm.1, hm.2⟩, fun H2 but dd => ?_⟩⟩
  have s3 := new_of h1 s1 but
  exact ⟨rfl, k x H2 ⟨s3, h1, [m], dd, nofun, (fun y e => ok.nmM e), by decide, ⟨rfl, by simp, by simp⟩⟩⟩
theorem upto3 {α : Type} {xs : List α} (h : xs.length ≤ 3) : xs = [] ∨ (∃ a, xs = [a]) ∨ (∃ a b, xs = [a, b]) ∨ ∃ a b c, xs = [a, b, c] := by
  cases xs with
  | nil => exact .inl rfl
  | cons a xs =>
  cases xs with
  | nil => exact .inr (.inl ⟨a, rfl⟩)
  | cons b xs =>
  cases xs with
  | nil => exact .inr (.inr (.inl ⟨a, b, rfl⟩))
  | cons c xs =>
  cases xs with
  | nil => exact .inr (.inr (.inr ⟨a, b, c, rfl⟩))
  | cons f xs =>
    simp only [List.length_cons] at h
    omega
theorem ok_real {c : C4} {d : D3} {fU fM fD : Addr} {fdM : FuncData} {f : Addr} {fd : FuncData} (F : Fun K "_law_real_deed" "_law_real_deed" sReal f fd) (T : TxtB mg) (D : Dcs K mg d fU fM fD) (FU : FnR P w K mg base (CX P w) 5 fU (spUse K c)) (FM : FnOk P w K mg base (CX P w) 4 fM fdM ["self", "name"] (spMake K c)) (hbM : Binds K fdM ["self", "name"] []) (FD : FnR P w K mg base (CX P w) 5 fD (spDo K c)) :
    FnOk P w K mg base CX0 7 f fd ["_law_made", "_law_used"] (spReal K d) := by
  refine F.ok scReal (fun vs H Q E h => ?_) (fun cdv A outer s H vs Q E hr h => ?_)
  · obtain ⟨l, mk, us, rfl, _⟩ := h
    rfl
  · obtain ⟨l, mk, us, rfl, hS, ok, k⟩ := h
    have few := ok.few
    refine ⟨_, (pss_cons (ps_if (pt_cmpR op_isN (pv 0) pe_non (nomark _)) (pss_cons (ps_if (pt_cmpR op_eq (pe_callB call_len_seq (by rfl) T.blen (by decide +kernel) (pa_cons (pv 1) pa_nil)) pe_int (nomark _)) (pss_one (ps_ret (StX.pe_makeR D.mu FU (hr.mono (by decide)) rfl D.gu passL (pa_cons (pe_ix ix_list (pv 1) pe_int (fun _ _ => rfl)) pa_nil)))) pss_nil) (pss_one (ps_ret (pe_ifExp (pt_cmpR op_eq (pe_callB call_len_seq (by rfl) T.blen (by decide +kernel) (pa_cons (pv 1) pa_nil)) pe_int (nomark _)) (StX.pe_makeR D.mu FU (hr.mono (by decide)) rfl D.gu passL (pa_cons (pe_ix ix_list (pv 1) pe_int (fun _ _ => rfl)) (pa_cons (pe_ix ix_list (pv 1) pe_int (fun _ _ => rfl)) pa_nil))) (StX.pe_makeR D.mu FU (hr.mono (by decide)) rfl D.gu passL (pa_cons (pe_ix ix_list (pv 1) pe_int (fun _ _ => rfl)) (pa_cons (pe_ix ix_list (pv 1) pe_int (fun _ _ => rfl)) (pa_cons (pe_ix ix_list (pv 1) pe_int (fun _ _ => rfl)) pa_nil)))))))) pss_nil)
      (pss_cons (ps_if (pt_cmpR (op_eqD hr.units) (pv 1) (pe_lst pa_nil) (nomark _)) (pss_one (ps_ret (pe_make D.mm FM (hr.mono (by decide)) rfl D.gm hbM .nil passL (pa_cons (pv 0) pa_nil)))) pss_nil)
      (pss_cons (ps_if (pt_cmpR op_eq (pe_callB call_len_seq (by rfl) T.blen (by decide +kernel) (pa_cons (pv 1) pa_nil)) pe_int (nomark _)) (pss_one (ps_ret (StX.pe_makeR D.md FD (hr.mono (by decide)) rfl D.gd passL (pa_cons (pv 0) (pa_cons (pe_ix ix_list (pv 1) pe_int (fun _ _ => rfl)) pa_nil))))) pss_nil)
      (pss_one (ps_ret (pe_ifExp (pt_cmpR op_eq (pe_callB call_len_seq (by rfl) T.blen (by decide +kernel) (pa_cons (pv 1) pa_nil)) pe_int (nomark _)) (StX.pe_makeR D.md FD (hr.mono (by decide)) rfl D.gd passL (pa_cons (pv 0) (pa_cons (pe_ix ix_list (pv 1) pe_int (fun _ _ => rfl)) (pa_cons (pe_ix ix_list (pv 1) pe_int (fun _ _ => rfl)) pa_nil)))) (StX.pe_makeR D.md FD (hr.mono (by decide)) rfl D.gd passL (pa_cons (pv 0) (pa_cons (pe_ix ix_list (pv 1) pe_int (fun _ _ => rfl)) (pa_cons (pe_ix ix_list (pv 1) pe_int (fun _ _ => rfl)) (pa_cons (pe_ix ix_list (pv 1) pe_int (fun _ _ => rfl)) pa_nil))))))))))), ?_⟩
    cases mk with
    | none =>
      have h0 := ok.some_ rfl
      refine ⟨_, rfl, rfl, _, rfl, iteT ?_⟩
      rcases upto3 few with rfl | ⟨z0, rfl⟩ | ⟨z0, z1, rfl⟩ | ⟨z0, z1, z2, rfl⟩
      · exact absurd h0 (by decide)
      · refine ⟨_, rfl, l, _, rfl, .inl hS, rfl, _, rfl, iteT ?_⟩
        refine ⟨_, rfl, l, _, ((0 : Nat) : Int), _, rfl, rfl, hS, atI_nat rfl, ?_⟩
        exact real_use (us := [z0]) D ok k
      · refine ⟨_, rfl, l, _, rfl, .inl hS, rfl, _, rfl, iteF ?_⟩
        refine ⟨_, rfl, l, _, rfl, .inl hS, rfl, _, rfl, iteT ?_⟩
        refine ⟨_, rfl, l, _, ((0 : Nat) : Int), _, rfl, rfl, hS, atI_nat rfl, _, rfl, l, _, ((1 : Nat) : Int), _, rfl, rfl, hS, atI_nat rfl, ?_⟩
        exact real_use (us := [z0, z1]) D ok k
      · refine ⟨_, rfl, l, _, rfl, .inl hS, rfl, _, rfl, iteF ?_⟩
        refine ⟨_, rfl, l, _, rfl, .inl hS, rfl, _, rfl, iteF ?_⟩
        refine ⟨_, rfl, l, _, ((0 : Nat) : Int), _, rfl, rfl, hS, atI_nat rfl, _, rfl, l, _, ((1 : Nat) : Int), _, rfl, rfl, hS, atI_nat rfl, _, rfl, l, _, ((2 : Nat) : Int), _, rfl, rfl, hS, atI_nat rfl, ?_⟩
        exact real_use (us := [z0, z1, z2]) D ok k
    | some m =>
      refine ⟨_, rfl, rfl, _, rfl, iteF ?_⟩
      refine ⟨_, rfl, by show 0 ≤ sizeLine; decide, fun u hu => ?_⟩
      have s1 : Same H (upd H u (.lst [])) := Same.new hu
      have hS1 := sqL_same s1 hS
      have k1 : ∀ x H', NewI d (upd H u (.lst [])) x (some m) us H' → Q (.ref x) H' := fun x H' n => k x H' ⟨s1.trans n.1, sameNone s1 n.2.1, n.2.2⟩
      refine ⟨_, _, .lst hS1 (dpTup us), .lst (SqL.of upd_same) .nil, shapedTup (fun z hz => ok.u.2 z hz), by decide +kernel, _, rfl, ?_⟩
      rcases upto3 few with rfl | ⟨z0, rfl⟩ | ⟨z0, z1, rfl⟩ | ⟨z0, z1, z2, rfl⟩
      · refine iteT ⟨_, rfl, ?_⟩
        exact real_make D ok k1
      · refine iteF ?_
        refine ⟨_, rfl, l, _, rfl, .inl hS1, rfl, _, rfl, iteT ?_⟩
        refine ⟨_, rfl, _, rfl, l, _, ((0 : Nat) : Int), _, rfl, rfl, hS1, atI_nat rfl, ?_⟩
        exact real_do (us := []) D ok k1
      · refine iteF ?_
        refine ⟨_, rfl, l, _, rfl, .inl hS1, rfl, _, rfl, iteF ?_⟩
        refine ⟨_, rfl, l, _, rfl, .inl hS1, rfl, _, rfl, iteT ?_⟩
        refine ⟨_, rfl, _, rfl, l, _, ((0 : Nat) : Int), _, rfl, rfl, hS1, atI_nat rfl, _, rfl, l, _, ((1 : Nat) : Int), _, rfl, rfl, hS1, atI_nat rfl, ?_⟩
        exact real_do (us := [z1]) D ok k1
      · refine iteF ?_
        refine ⟨_, rfl, l, _, rfl, .inl hS1, rfl, _, rfl, iteF ?_⟩
        refine ⟨_, rfl, l, _, rfl, .inl hS1, rfl, _, rfl, iteF ?_⟩
        refine ⟨_, rfl, _, rfl, l, _, ((0 : Nat) : Int), _, rfl, rfl, hS1, atI_nat rfl, _, rfl, l, _, ((1 : Nat) : Int), _, rfl, rfl, hS1, atI_nat rfl, _, rfl, l, _, ((2 : Nat) : Int), _, rfl, rfl, hS1, atI_nat rfl, ?_⟩
        exact real_do (us := [z1, z2]) D ok k1
end
end K07

set_option Elab.async false
set_option linter.all false
set_option maxRecDepth 100000
set_option maxHeartbeats 4000000
/-! sorted(x, key=str) of a list, a tuple or a dict of texts. -/
namespace NSK
open PySem PySem.Spec PyProof.Rows L2
section
variable {prog : Program} {w : World} {A : Around} {E : Value → Shared → Prop} {s : Shared}
theorem tree_str (a : Addr) : Builtin.«list.sort» ⟨[.ref a], [(Str.ofString "key", .type "str")]⟩ = ksk_tree a (.type "str") false := rfl
theorem list_sort_key {a : Addr} {vs : List Value} {n : Nat} {P : PySem.Fin → Shared → Prop} {xs : List Str} (ho : s.heap.get? a = some (seqObj "list" vs.toArray n)) (hS : StrsAre vs xs) (h64 : vs.length < 64)
    (h : ∀ (h' : Heap) (out : Array Value) (c : Nat) (ys : List Str), (∀ b o, b ≠ a → s.heap.get? b = some o → h'.get? b = some o) → h'.get? a = some (seqObj "list" out c) → StrsAre out.toList ys → ys.Perm xs → sortedS ys = true → P (.done (.ret .none)) { s with heap := h' }) :
    wpAny (model prog w) A (Builtin.«list.sort» ⟨[.ref a], [(Str.ofString "key", .type "str")]⟩) P E s := by
  rw [tree_str]
  unfold ksk_tree
  have ha : a < s.heap.objs.size := Heap.lt_size ho
  have zl : vs.length ≤ sizeLine := by rw [sizeLine_eq]; omega
  refine wpAny_bind (listItems_at ho rfl ?_)
  refine wpAny_bind (listUpdate_at ho rfl ?_ (by rw [List.size_toArray]; exact zl) (Nat.zero_le _))
  obtain ⟨e1, ho1⟩ : ∃ e1, (s.heap.update a (Obj.mapSeq fun _ => #[])).get? a = some (seqObj "list" #[] e1) := ⟨_, get?_update_seq ho (fun _ => #[])⟩
  refine wpAny_bind (seqEpoch_at ho1 rfl ?_)
  refine wpAny_bind (wpAny_newTuple ?_ (by show vs.length ≤ _; exact zl))
  refine wpAny_bind (wpAny_newList ?_ (Nat.zero_le _))
  refine wpAny_holding ?_
  have hk0 : ((s.heap.update a (Obj.mapSeq fun _ => #[])).push (seqObj "tuple" vs.toArray 0)).objs.size = s.heap.objs.size + 1 := by rw [size_push', Heap.size_update]
  have ho6 : (((s.heap.update a (Obj.mapSeq fun _ => #[])).push (seqObj "tuple" vs.toArray 0)).push (seqObj "list" #[] 0)).get? a = some (seqObj "list" #[] e1) :=
    Heap.get?_push_of_some _ (Heap.get?_push_of_some _ ho1)
  have hoK : (((s.heap.update a (Obj.mapSeq fun _ => #[])).push (seqObj "tuple" vs.toArray 0)).push (seqObj "list" #[] 0)).get? ((s.heap.update a (Obj.mapSeq fun _ => #[])).push (seqObj "tuple" vs.toArray 0)).objs.size = some (seqObj "list" #[] 0) := Heap.get?_push_size _ rfl
  have keep : ∀ b o, b ≠ a → s.heap.get? b = some o → (((s.heap.update a (Obj.mapSeq fun _ => #[])).push (seqObj "tuple" vs.toArray 0)).push (seqObj "list" #[] 0)).get? b = some o := fun b o hb e =>
    Heap.get?_push_of_some _ (Heap.get?_push_of_some _ ((Heap.get?_update_ne _ _ _ _ hb).trans e))
  show wpAny (model prog w) A _ P E { s with heap := ((s.heap.update a (Obj.mapSeq fun _ => #[])).push (seqObj "tuple" vs.toArray 0)).push (seqObj "list" #[] 0) }
  have hka : ((s.heap.update a (Obj.mapSeq fun _ => #[])).push (seqObj "tuple" vs.toArray 0)).objs.size ≠ a := by rw [hk0]; exact Nat.ne_of_gt (Nat.lt_succ_of_lt ha)
  have hkn : ∀ b o, s.heap.get? b = some o → b ≠ ((s.heap.update a (Obj.mapSeq fun _ => #[])).push (seqObj "tuple" vs.toArray 0)).objs.size := fun b o e => by
    rw [hk0]
    exact Nat.ne_of_lt (Nat.lt_succ_of_lt (Heap.lt_size e))
  generalize ((s.heap.update a (Obj.mapSeq fun _ => #[])).push (seqObj "tuple" vs.toArray 0)).objs.size = kS at *
  generalize ((s.heap.update a (Obj.mapSeq fun _ => #[])).push (seqObj "tuple" vs.toArray 0)).push (seqObj "list" #[] 0) = G at *
  unfold ksk_rest
  refine wpAny_bind (wpAny_rule ?_)
  first
    | rw [List.forIn_toArray]
    | (rw [← Array.forIn_toList]; simp only [List.toList_toArray])
    | rw [← Array.forIn_toList]
  refine wpAny_bind (ksk_fold (fun i s' => ∃ h' e, s' = { s with heap := h' } ∧ h'.get? kS = some (seqObj "list" (vs.take i).toArray e) ∧ h'.get? a = some (seqObj "list" #[] e1) ∧ ∀ b o, b ≠ a → s.heap.get? b = some o → h'.get? b = some o) vs 0 _
    ⟨G, 0, rfl, hoK, ho6, keep⟩ ?step ?done)
  case step =>
    rintro j x s' hx ⟨h', e, rfl, k1, k2, k3⟩
    simp only [Nat.zero_add] at k1 ⊢
    have hj : j < vs.length := (List.getElem?_eq_some_iff.mp hx).1
    obtain ⟨z, t, rfl⟩ : ∃ z t, x = Value.str z t := by
      have q : ∀ {l : List Value} {zs : List Str}, StrsAre l zs → ∀ v ∈ l, ∃ z t, v = Value.str z t := by
        intro l zs hl
        induction hl with
        | nil => intro v hv; cases hv
        | cons z t _ ih =>
          intro v hv
          rcases List.mem_cons.mp hv with rfl | hv
          · exact ⟨z, t, rfl⟩
          · exact ih v hv
      exact q hS x (List.mem_of_getElem? hx)
    refine wpAny_bind (wpAny_attempt (PySem.P.str_of_str ?_))
    try dsimp only
    have s1 := Heap.SameBut.update h' kS (Obj.mapSeq (·.push (.str z t)))
    obtain ⟨c2, hc2⟩ : ∃ c2, (h'.update kS (Obj.mapSeq (·.push (.str z t)))).get? kS = some (seqObj "list" ((vs.take j).toArray.push (.str z t)) c2) := ⟨_, get?_update_seq k1 (·.push (.str z t))⟩
    refine wpAny_bind (listUpdate_at k1 rfl ?_ (by rw [List.size_toArray, List.length_take, sizeLine_eq]; omega) (Nat.le_trans (Nat.le_of_eq (Array.size_push ..)) (by rw [List.size_toArray, List.length_take, sizeLine_eq]; omega)))
    refine wpAny_pure ⟨rfl, _, c2, rfl, ?_, (s1.2 a hka.symm).trans k2, fun b o hb e => (s1.2 b (hkn b o e)).trans (k3 b o hb e)⟩
    rw [hc2]
    have ek : vs.take (j + 1) = vs.take j ++ [.str z t] := by rw [List.take_add_one, hx]; simp
    rw [ek]
    simp
  case done =>
    rintro s' ⟨h', e, rfl, k1, k2, k3⟩
    have e3 : vs.take (0 + vs.length) = vs := List.take_of_length_le (by omega)
    rw [e3] at k1
    try dsimp only
    refine wpAny_bind (listItems_at k1 rfl ?_)
    have tail : ∀ st' : SortSt, (arrOf st').Perm (pairsOf vs) → failedOf st' = none → SortedToK strKind (arrOf st') (pairsOf vs).size → wpAny (model prog w) A (ksk_tail a false e1 (.ref kS) st') P E { s with heap := h' } := by
      intro st' hp hf hs
      unfold ksk_tail
      try dsimp only
      have hsz : ((arrOf st').map (·.2)).size = vs.length := by rw [Array.size_map, hp.size_eq, pairsOf_size]
      have s1 := Heap.SameBut.update h' kS (Obj.mapSeq fun _ => (#[] : Array Value))
      have na1 : (h'.update kS (Obj.mapSeq fun _ => (#[] : Array Value))).get? a = some (seqObj "list" #[] e1) := (s1.2 a hka.symm).trans k2
      have s2 := Heap.SameBut.update (h'.update kS (Obj.mapSeq fun _ => (#[] : Array Value))) a (Obj.mapSeq fun _ => (arrOf st').map (·.2))
      obtain ⟨c2, hc2⟩ : ∃ c2, ((h'.update kS (Obj.mapSeq fun _ => (#[] : Array Value))).update a (Obj.mapSeq fun _ => (arrOf st').map (·.2))).get? a = some (seqObj "list" ((arrOf st').map (·.2)) c2) := ⟨_, get?_update_seq na1 fun _ => (arrOf st').map (·.2)⟩
      refine wpAny_bind (listUpdate_at k1 rfl ?_ (by rw [List.size_toArray]; exact zl) (Nat.zero_le _))
      refine wpAny_bind (wpAny_letGo ?_)
      refine wpAny_bind (seqEpoch_at na1 rfl ?_)
      refine wpAny_bind (listUpdate_at na1 rfl ?_ (Nat.zero_le _) (Nat.le_trans (Nat.le_of_eq hsz) (Nat.le_succ_of_le zl)))
      rw [hf]
      simp only [bne_self_eq_false, Bool.false_eq_true, if_false]
      obtain ⟨ys, q1, q2, q3⟩ := sorted_out_str hS hp hs
      exact wpAny_pure (h _ _ c2 ys (fun b o hb e => (s2.2 b hb).trans ((s1.2 b (hkn b o e)).trans (k3 b o hb e))) hc2 q1 q2 q3)
    unfold ksk_end
    simp only [Bool.false_eq_true, if_false]
    have hsz : vs.toArray.size = vs.length := by simp
    by_cases h2 : vs.toArray.size < 2
    · rw [if_pos h2, if_pos h2]
      refine wpAny_bind (wpAny_pure ?_)
      rw [StateT.run_pure]
      refine wpAny_bind (wpAny_pure ?_)
      try dsimp only
      refine tail (SortSt.mk' general' (vs.toArray.zip vs.toArray) #[] 7 none) (Array.Perm.refl _) rfl ?_
      intro i j hij hj
      have : i = j := by rw [pairsOf_size] at hj; omega
      subst this; exact KeyOrd.kle_refl _
    · rw [if_neg h2, if_neg h2]
      obtain ⟨v₁, v₂, rest, rfl⟩ : ∃ v₁ v₂ rest, vs = v₁ :: v₂ :: rest := by
        match vs, hsz, h2 with
        | [], _, h2 => simp at h2
        | [_], _, h2 => simp at h2
        | v₁ :: v₂ :: rest, _, _ => exact ⟨v₁, v₂, rest, rfl⟩
      rw [keyKind_strs hS]
      refine wpAny_bind (wpAny_pure ?_)
      refine wpAny_bind (wpAny_mono (wpS_sortRunsK (κ := strKind) strKind_oneLt (a₀ := pairsOf (v₁ :: v₂ :: rest)) (st := SortSt.mk' oneType' ((v₁ :: v₂ :: rest).toArray.zip (v₁ :: v₂ :: rest).toArray) #[] 7 none)
        (Q := fun _ st' => (arrOf st').Perm (pairsOf (v₁ :: v₂ :: rest)) ∧ failedOf st' = none ∧ SortedToK strKind (arrOf st') (pairsOf (v₁ :: v₂ :: rest)).size)
        hS.keysOf ⟨Array.Perm.refl _, rfl, rfl, rfl⟩ (by rw [pairsOf_size]; simp) (by rw [pairsOf_size]; exact h64) fun st' a1 a2 a3 => ⟨a1, a2, a3⟩) ?_ fun _ _ e => e)
      rintro ⟨⟨⟩, st'⟩ s' ⟨rfl, hp, hf, hs⟩
      try dsimp only
      exact tail st' hp hf hs
end
section
variable {X : Cx}
/-- sorted(x, key=str) -/
def rSrtK (K : PySem.W.Frag) : List V → List V → Hp → VK → Prop := fun vs zs H Q => ∃ (a : Addr) (ws : List Str), vs = [.ref a] ∧ zs = [.ty "str"] ∧ (SqL K H a (ws.map V.str) ∨ SqT K H a (ws.map V.str) ∨ ∃ kvs : List (Key × V), Rd H a (.dK kvs) ∧ kvs.map (·.1) = ws.map Sum.inr) ∧ ws.length < 64 ∧
  ∀ (ys : List Str) (p : Addr), ys.Perm ws → sortedS ys = true → H p = none → Q (.ref p) (upd H p (.lst (ys.map V.str)))
theorem tailW {pins : List (Addr × Obj)} {σ : L2.St} {H : Hp} {s : Shared} {vs : List Value} {ws : List Str} {Q : VK} {E : Value → Shared → Prop} {A : Around} (I : Inv X pins σ H s) (hS : StrsAre vs ws) (hl : vs.length = ws.length) (h64 : ws.length < 64)
    (q : ∀ (ys : List Str) (p : Addr), ys.Perm ws → sortedS ys = true → H p = none → Q (.ref p) (upd H p (.lst (ys.map V.str)))) :
    wpAny (model X.prog X.w) A (do
      let l ← newList vs
      let _ ← holding [l] (call (Value.builtin "list.sort") [l] [(Str.ofString "key", .type "str")])
      ret l) (fun fin s' => ∃ v, fin = Fin.done (Flow.ret v) ∧ EP X pins σ Q v s') E s := by
  refine wpAny_bind (wpAny_newList ?_ (by rw [hl, sizeLine_eq]; omega))
  have hoL : (s.heap.push (seqObj "list" vs.toArray 0)).get? s.heap.objs.size = some (seqObj "list" vs.toArray 0) := Heap.get?_push_size _ rfl
  refine wpAny_bind (wpAny_holding (wpAny_call_entry_kw slot_list_sort ⟨_, hoL, rfl⟩ entry_list_sort ?_ (PyProof.Rows.ksk_l1 _ _)))
  refine list_sort_key (s := { s with heap := s.heap.push (seqObj "list" vs.toArray 0) }) hoL hS (by rw [hl]; exact h64) fun h' out c ys k1 k2 g1 g2 g3 => ⟨_, rfl, ?_⟩
  have hlen : (ys.map V.str).length ≤ sizeLine := by
    rw [List.length_map, g2.length_eq]
    exact small64 h64
  refine wpAny_pure ⟨_, rfl, .ref s.heap.objs.size, upd H s.heap.objs.size (.lst (ys.map V.str)), I.laid (t' := s.toks) (fun b u e => ?_) (Nat.le_refl _)
    (show ObjOk X.prog X.w _ _ _ (.lst (ys.map V.str)) from ⟨hlen, out.toList, c, vals_of_strs g1, by rw [Array.toArray_toList]; exact k2⟩), rfl, q ys _ g2 g3 (I.hok.fresh (Nat.le_refl _))⟩
  exact k1 b u (Nat.ne_of_lt (Heap.lt_size e)) (Heap.get?_push_of_some _ e)
theorem cr_sortedKS (hcalm : X.calm = true) : CallRK X (.builtin "sorted") [Str.ofString "key"] (rSrtK X.K) := by
  intro pins s σ H vs zs us ws0 Q I r rz h
  obtain ⟨a, ws, rfl, rfl, hs, h64, q⟩ := h
  obtain rfl := Vals.ref1 r
  obtain ⟨w1, rfl, e1⟩ := vals1 rz
  obtain rfl : w1 = Value.type "str" := e1
  refine call_function_entry_kw kind_sorted plain_sorted entry_sorted (PyProof.Rows.ksk_s1 _ _) ?_
  unfold Builtin.«sorted»
  refine wpAny_bind (m := checkCount "sorted" 1 1 _) (wpAny_pure ?_)
  rcases hs with hs | hs | ⟨kvs, hd, hks⟩
  · obtain ⟨its, rv, hl, _⟩ := I.list hs
    have hlen := rv.length
    rw [List.length_map] at hlen
    refine wpAny_bind (collect_list hl.isList ?_ (by rw [← hlen]; exact small64 h64))
    refine tailW (s := { s with heap := _ }) (I.kept (t' := s.toks) fun b u e => ?_) rv.strs hlen.symm h64 q
    rw [Heap.get?_update_ne _ _ _ _ (Nat.ne_of_lt (Heap.lt_size e))]
    exact Heap.get?_push_of_some _ e
  · obtain ⟨its, rv, ⟨o, ho, hc, n, hd⟩, _⟩ := I.tuple hs
    have hlen := rv.length
    rw [List.length_map] at hlen
    refine wpAny_bind (PySem.wpAny_collect_seq a (.inr rfl) ho hc hd (fun h' hk => ?_) (by rw [List.size_toArray, ← hlen]; exact small64 h64))
    rw [List.toList_toArray]
    exact tailW (s := { s with heap := h' }) (I.kept (t' := s.toks) hk) rv.strs hlen.symm h64 q
  · obtain ⟨z, lo, vs, rel, dd⟩ := dk_rd I.hok hd
    obtain ⟨ep, hat⟩ := dd.dictAt
    have hkeys : vs.map (·.1) = ws.map Sum.inr := rel.keys.symm.trans hks
    have hl : vs.length = ws.length := by
      have e := congrArg List.length hkeys
      rw [List.length_map, List.length_map] at e
      exact e
    have h16 : vs.length ≤ sizeLine := by rw [hl, sizeLine_eq]; omega
    refine wpAny_bind (PySem.W.kdu_collect (A := X.A.in1) (PySem.W.kdl_dict (knd := mixKind X.prog X.w) (kvs := vs) (ep := ep) lo) (I.ok.hd hcalm) hat h16 fun h' tk acc hk hacc => ?_)
    have hal : acc.toList.length = ws.length := by rw [Array.length_toList, hacc.1, hl]
    have hS : StrsAre acc.toList ws := strs_at hal fun j v e => by
      obtain ⟨k, x, e1, e2⟩ := hacc.2 j v (by rw [← Array.getElem?_toList]; exact e)
      have e3 : (vs.map (·.1))[j]? = some k := by rw [List.getElem?_map, e1]; all_goals rfl
      rw [hkeys, List.getElem?_map] at e3
      cases e4 : ws[j]? with
      | none => rw [e4] at e3; cases e3
      | some y =>
        rw [e4] at e3
        have e5 : Sum.inr y = k := Option.some.inj e3
        subst e5
        obtain ⟨t, ev⟩ := Value.isStrOf_shape (x := y) (v := v) e2
        exact ⟨y, t, rfl, ev⟩
    exact tailW (I.kept hk) hS hal h64 q
end
end NSK

set_option Elab.async false
set_option linter.all false
set_option maxRecDepth 100000
set_option maxHeartbeats 4000000
/-! *d of a dict of texts in a display or a call. -/
namespace NSD
open PySem PySem.Spec PyProof.Rows L2
def tStarD (te : TE) (t : TA) : TA := fun σ H Q => te σ H fun x H1 => ∃ (p : Addr) (kvs : List (Key × V)) (ws : List Str), x = V.ref p ∧ Rd H1 p (.dK kvs) ∧ kvs.map (·.1) = ws.map Sum.inr ∧ t σ H1 fun ys H2 => Q (ws.map V.str ++ ys) H2
section
variable {X : Cx} {pins : List (Addr × Obj)} {σ : L2.St} {H : Hp} {s : Shared}
theorem star_dict {a : Addr} {kvs : List (Key × V)} {ws : List Str} {E : Value → Shared → Prop} {Q : List Value → Shared → Prop} (hcalm : X.calm = true) (I : Inv X pins σ H s) (hd : Rd H a (.dK kvs)) (hks : kvs.map (·.1) = ws.map Sum.inr) (hQ : ∀ us s', Inv X pins σ H s' → Vals (ws.map V.str) us → Q us s') :
    PySem.W.StarOf (model X.prog X.w) X.A E (.ref a) Q s := by
  obtain ⟨z, lo, vs, rel, dd⟩ := dk_rd I.hok hd
  obtain ⟨ep, hat⟩ := dd.dictAt
  have hkeys : vs.map (·.1) = ws.map Sum.inr := rel.keys.symm.trans hks
  have hl : vs.length = ws.length := by
    have e := congrArg List.length hkeys
    rw [List.length_map, List.length_map] at e
    exact e
  have hkl : kvs.length = ws.length := by
    have e := congrArg List.length hks
    rw [List.length_map, List.length_map] at e
    exact e
  have h16 : vs.length ≤ sizeLine := by rw [hl, ← hkl]; exact z
  have hT : s.TypeIs (.ref a) "dict" := by
    obtain ⟨o, es, h1, h2, h3, _⟩ := hat
    exact ⟨o, h1, h2.1⟩
  have zz : wpAny (model X.prog X.w) X.A (collect (.ref a)) Q E s := by
    refine PySem.W.kdu_collect (A := X.A) (PySem.W.kdl_dict (knd := mixKind X.prog X.w) (kvs := vs) (ep := ep) lo) (I.ok.hd hcalm) hat h16 fun h' tk acc hk hacc => ?_
    have hal : acc.toList.length = ws.length := by rw [Array.length_toList, hacc.1, hl]
    have hS : StrsAre acc.toList ws := strs_at hal fun j v e => by
      obtain ⟨k, x, e1, e2⟩ := hacc.2 j v (by rw [← Array.getElem?_toList]; exact e)
      have e3 : (vs.map (·.1))[j]? = some k := by rw [List.getElem?_map, e1]; all_goals rfl
      rw [hkeys, List.getElem?_map] at e3
      cases e4 : ws[j]? with
      | none => rw [e4] at e3; cases e3
      | some y =>
        rw [e4] at e3
        have e5 : Sum.inr y = k := Option.some.inj e3
        subst e5
        obtain ⟨t, ev⟩ := Value.isStrOf_shape (x := y) (v := v) e2
        exact ⟨y, t, rfl, ev⟩
    exact hQ _ _ (I.kept hk) (vals_of_strs hS)
  unfold PySem.W.StarOf notIterableAtAll
  exact wpAny_bind (wpAny_specialOf hT PySem.F.slot_dict_iter.lookup (wpAny_pure ⟨rfl, zz⟩))
end
section
variable {X : Cx} {e : Expr} {es : List Expr} {te : TE} {t : TA} {p : Pos}
theorem pa_starD (hcalm : X.calm = true) (he : PE X e te) (hr : PA X es t) (hs : starEach (.Starred e p :: es) X.env = (true, eval e X.env) :: starEach es X.env := by rfl) : PA X (.Starred e p :: es) (tStarD te t) := by
  refine ⟨fun pos pins s σ H Q I h => ?_⟩
  refine PySem.W.items_star (thn (he.run pins s σ H _ I h) fun v s1 ⟨y, H1, I1, ry, a, kvs, ws, ey, hd, hks, q⟩ => ?_) hs
  subst ey
  obtain rfl : v = Value.ref a := ry
  refine star_dict hcalm I1 hd hks fun us s2 I2 rv => ?_
  exact thn (hr.run pos pins s2 σ H1 _ I2 q) fun ws s3 ⟨vs, H3, I3, r3, q3⟩ => ⟨_, H3, I3, rv.append r3, q3⟩
end
end NSD

set_option Elab.async false
set_option linter.all false
set_option maxRecDepth 100000
set_option maxHeartbeats 4000000
/-! sorted(set(xs)) where only the distinct texts are fewer than 64. -/
namespace NU
open PySem PySem.Spec PyProof.Rows L2
theorem many_in : ∀ (l pool : List Str), (∀ x ∈ l, x ∈ pool) → many l ≤ pool.length
  | [], pool, _ => Nat.zero_le _
  | x :: l, pool, h => by
    show (if x ∈ l then many l else many l + 1) ≤ pool.length
    split
    · exact many_in l pool fun y hy => h y (List.mem_cons_of_mem _ hy)
    · rename_i n
      have hx := h x List.mem_cons_self
      have := many_in l (pool.erase x) fun y hy => by
        have ne : y ≠ x := fun e => n (e ▸ hy)
        exact (List.mem_erase_of_ne ne).mpr (h y (List.mem_cons_of_mem _ hy))
      rw [List.length_erase_of_mem hx] at this
      have : 0 < pool.length := List.length_pos_of_mem hx
      omega
section
variable {X : Cx}
def rSrtM (wo : World) : List V → Hp → VK → Prop := fun vs H Q => ∃ (a : Addr) (xs : List Str), vs = [.ref a] ∧ H a = some (SetX wo a xs) ∧ many xs < 64 ∧
  ∀ (ys : List Str) (p : Addr), sortedS ys = true → ys.Nodup → (∀ y, y ∈ ys ↔ y ∈ xs) → H p = none → Q (.ref p) (upd H p (.lst (ys.map V.str)))
theorem cr_srtM (hc : X.calm = true) : CallR X (.builtin "sorted") (rSrtM X.w) := by
  intro pins s σ H vs us Q I r h
  obtain ⟨a, xs, rfl, ga, few, q⟩ := h
  rw [Vals.ref1 r]
  refine sorted_tx (setX_get I ga) (I.ok.hd hc) few fun t p arr c ys k g o lp gp are srt nd mm len => ?_
  have fits : (ys.map V.str).length ≤ sizeLine := by rw [List.length_map, len, sizeLine_eq]; omega
  have new : H p = none := I.hok.fresh lp
  have J : Inv X pins σ (upd H p (.lst (ys.map V.str))) { s with heap := t.heap, gens := t.gens, drawn := t.drawn, toks := t.toks } :=
    I.call (ch := []) (Un.laid k lp new) (I.hok.laid k lp ⟨fits, arr.toList, c, vals_of_strs are, gp⟩) (by rw [g]; exact I.bare) nofun
  have same : t = { s with heap := t.heap, gens := t.gens, drawn := t.drawn, toks := t.toks } := by
    obtain ⟨_, _, _, _, _⟩ := t
    subst o
    rfl
  rw [same]
  exact ⟨.ref p, _, J, rfl, q ys p srt nd (fun y => (mm y).trans decide_eq_true_iff) new⟩
end
end NU

set_option Elab.async false
set_option linter.all false
set_option maxRecDepth 100000
set_option maxHeartbeats 4000000
/-! enumerate(tuple). -/
namespace NEn
open PySem PySem.Spec PyProof.Rows L2
theorem meets_new {v : Value} {o : Obj} {St : Heap → Prop} (B : Begins v o St) :
    Meets (Builtin.«enumerate.__new__» ⟨[.type "enumerate", v], []⟩) (fun _ R s => St s.heap ∧
      R (.ok (.ret (.ref (s.heap.push o).objs.size))) { s with heap := (s.heap.push o).push { cls := .type "enumerate", data := .fields #[.none, .bool false, .ref s.heap.objs.size, rawInt 0, .none, .none] } }) :=
  .of_wp fun prog w A R s h => by
    obtain ⟨hp, gs, dr, tk, os⟩ := s
    obtain ⟨st, h⟩ := h
    have sub := sub_enumerate
    have start : ∀ {A2 : Around} {E Q : Value → Shared → Prop}, Q (.ref hp.objs.size) ⟨hp.push o, gs, dr, tk, os⟩ → wpAny (model prog w) A2 (pyIter v) Q E ⟨hp, gs, dr, tk, os⟩ := fun q => B.iter prog w _ _ ⟨hp, gs, dr, tk, os⟩ _ st q
    wp_walk using start
    refine wpAny_stack_any fun stk => wpAny_pure ?_
    split
    · rename_i c _ _ _ _ _
      cases (c == Value.type "enumerate") <;> (wp_walk using start; exact ⟨_, rfl, h⟩)
    · wp_walk using start
      exact ⟨_, rfl, h⟩
theorem begins1 {prog : Program} {w : World} {A : Around} {E : Value → Shared → Prop} {s : Shared} {v : Value} {o : Obj} {St : Heap → Prop} {Q : Value → Shared → Prop} (B : Begins v o St) (st : St s.heap)
    (h : ∀ h1, IsEnum h1 (s.heap.objs.size + 1) s.heap.objs.size 0 .none → h1.get? s.heap.objs.size = some o → (∀ b u, s.heap.get? b = some u → h1.get? b = some u) → Q (.ref (s.heap.objs.size + 1)) { s with heap := h1 }) :
    wpAny (model prog w) A (call (.type "enumerate") [v]) Q E s := by
  refine callType_new F.called_enumerate (by decide) (F.typeCall_enumerate_1 _) (F.newCall_enumerate_1 _) (fun obj => F.args_object_init_2 obj _) F.entry_enumerate_new (meets_new B) ⟨st, ?_⟩
  have sz : (s.heap.push o).objs.size = s.heap.objs.size + 1 := Heap.size_push ..
  have at_ := Heap.get?_push_size (s.heap.push o) (o := { cls := .type "enumerate", data := .fields #[.none, .bool false, .ref s.heap.objs.size, rawInt 0, .none, .none] }) rfl
  show _ ∧ _
  rw [sz] at at_ ⊢
  exact ⟨⟨_, at_, rfl⟩, h _ at_ (Heap.get?_push_of_some _ (Heap.get?_push_size _ B.free)) fun b u x => Heap.get?_push_of_some _ (Heap.get?_push_of_some _ x)⟩
/-- the tuple at a, each item in a new pair -/
def Ent (K : PySem.W.Frag) (a : Addr) : It :=
  ⟨fun i H => ∃ (xs : List V) (x : V), SqT K H a xs ∧ xs[i]? = some x, fun i H v H2 => ∃ T x, v = .ref T ∧ H T = none ∧ H2 = upd H T (.tup [.int (i : Nat), x]) ∧ ∀ xs, SqT K H a xs → xs[i]? = some x, fun i H => ∃ xs : List V, SqT K H a xs ∧ xs.length ≤ i⟩
theorem turn_ent {P : Program} {w : World} {K : PySem.W.Frag} {elts : List Expr} {kk : Nat} {tpos : Pos} (a e it : Addr) :
    Turn P w K (.Tuple elts kk tpos) (Ent K a) [e, it] e (fun i h => (∃ old, IsEnum h e it ((i : Nat) : Int) old) ∧ h.IsTupleIter it a i ∧ e ≠ it) where
  mem := List.mem_cons_self
  obj := fun i h st b hb => by
    obtain ⟨⟨old, he⟩, ⟨o, ho, hc, hd⟩, _⟩ := st
    rcases List.mem_cons.mp hb with z | z
    · subst z
      exact ⟨_, he, fun v q => nomatch q⟩
    · have z := List.mem_singleton.mp z
      subst z
      exact ⟨o, ho, fun v q => by rw [hd] at q; cases q⟩
  keep := fun i h h1 ⟨⟨old, he⟩, hi, ne⟩ k => ⟨⟨old, k e (by simp) _ he⟩, hi.at fun o q => k it (by simp) o q, ne⟩
  item := by
    intro X hP hw hK hc i pins s σ H E I hf st hg
    subst hP hw hK
    obtain ⟨⟨old, he⟩, hit, hne⟩ := st
    obtain ⟨xs, x, hq, hx⟩ := hg
    obtain ⟨its, rv, p, hz⟩ := I.tuple hq
    have hT : s.heap.IsTuple a its.toArray := p
    have nit : a ≠ it := fun z => by
      obtain ⟨o1, g1, _, d1⟩ := hit
      obtain ⟨o2, g2, _, n, d2⟩ := hT
      rw [← z, g2] at g1
      cases g1
      rw [d2] at d1
      cases d1
    have nea : e ≠ a := fun z => by
      obtain ⟨o2, g2, _, n, d2⟩ := hT
      rw [← z, he] at g2
      cases g2
      cases d2
    obtain ⟨u, hu, ru⟩ := rv.get hx
    have lt : i < its.toArray.size := by
      rw [List.size_toArray]
      exact (List.getElem?_eq_some_iff.mp hu).1
    have hel : e < s.heap.objs.size := Heap.lt_size he
    have hil : it < s.heap.objs.size := by obtain ⟨_, q, _⟩ := hit; exact Heap.lt_size q
    have D := Draws.tuple (prog := X.prog) (w := X.w) (A := X.A.in1) (I.ok.hd hc) it a nit its.toArray
    refine wpAny_pyNext_enum_itemC D he ⟨hit, hT⟩ lt hne (by simp only [List.mem_cons, List.not_mem_nil, or_false, not_or]; exact ⟨hne, nea⟩) fun x1 h1 tk px ho st1 hT1 hsz hk => ?_
    obtain rfl : u = x1 := by
      have q : its.toArray[i]? = some x1 := px
      have q2 : its.toArray[i]? = some u := by simpa using hu
      rw [q2] at q
      exact Option.some.inj q
    refine ⟨_, rfl, wpAny_letOwnedTupleGo_enum (s := { s with heap := h1, toks := tk + 1 }) ho fun h2 he2 sb => ?_⟩
    have hT2 : h2.get? s.heap.objs.size = some { cls := .type "tuple", data := .seq #[.int i tk, u] } := (sb.2 _ (Nat.ne_of_gt hel)).trans hT1
    have new : ObjOk X.prog X.w (upd H s.heap.objs.size (.tup [.int (i : Nat), x])) h2 s.heap.objs.size (.tup [.int (i : Nat), x]) :=
      ⟨by show 2 ≤ sizeLine; decide, [.int i tk, u], .cons ⟨_, rfl⟩ (.cons ru .nil), ⟨_, hT2, rfl, _, rfl⟩⟩
    have J : Inv X pins σ (upd H s.heap.objs.size (.tup [.int (i : Nat), x])) { s with heap := h2, toks := tk + 1 } :=
      I.turnedNew (ch := [e, it]) (fun b ob hb q => (sb.2 b (fun z => hb (by simp [z]))).trans (hk b ob (fun z => hb (by simp [z])) (fun z => hb (by simp [z])) q)) hf (Nat.le_refl _) new
    refine ⟨.ref s.heap.objs.size, _, J, rfl, ⟨_, x, rfl, I.hok.fresh (Nat.le_refl _), rfl, fun ys hy => by rw [I.tuple_inj hy hq]; exact hx⟩, ⟨⟨u, ?_⟩, st1.1.at fun o q => (sb.2 it (Ne.symm hne)).trans q, hne⟩, fun b hb => ?_⟩
    · have e1 : ((i + 1 : Nat) : Int) = (i : Int) + 1 := by omega
      rw [e1]
      exact he2
    · have lb : b < s.heap.objs.size := by
        rcases List.mem_cons.mp hb with z | z
        · rw [z]; exact hel
        · rw [List.mem_singleton.mp z]; exact hil
      rw [upd_ne (Nat.ne_of_lt lb)]
      exact (hf b hb).1
  done := by
    intro X hP hw hK hc i pins s σ H E I hf st hg
    subst hP hw hK
    obtain ⟨⟨old, he⟩, hit, hne⟩ := st
    obtain ⟨xs, hq, hx⟩ := hg
    obtain ⟨its, rv, p, hz⟩ := I.tuple hq
    obtain ⟨f0, f1, f2, f3, f4, f5⟩ := hf it (by simp)
    have hl := rv.length
    have hT : s.heap.IsTuple a its.toArray := p
    obtain ⟨o1, g1, c1, d1⟩ := id hit
    have nit : a ≠ it := fun z => by
      obtain ⟨o2, g2, _, n, d2⟩ := hT
      rw [← z, g2] at g1
      cases g1
      rw [d2] at d1
      cases d1
    have D := Draws.tuple (prog := X.prog) (w := X.w) (A := X.A.in1) (I.ok.hd hc) it a nit its.toArray
    have hT0 : s.TypeIs (.ref e) "enumerate" := ⟨_, he, rfl⟩
    unfold pyNext
    refine wpAny_bind (wpAny_attempt (wpAny_callSpecial?_slot (name := Str.ofString "__next__") hT0 F.slot_enumerate_next (wpAny_call_entry F.slot_enumerate_next hT0 F.entry_enumerate_next ?_ (F.args_enumerate_next_1 _))))
    show wpAny _ _ (field (.ref e) 2 >>= _) _ _ _
    refine wpAny_bind (wpAny_field he rfl (x := .ref it) rfl ?_)
    refine wpAny_bind (wpAny_nextOf_tuple_end (I.ok.hd hc) hit hT (by simp; omega) fun h1 x1 eb ⟨o, ho, hc1⟩ => ?_)
    refine wpAny_bind (wpAny_isInstance (T := "StopIteration") (b := true) ⟨o, ho, hc1⟩ isSubtype_stop ?_)
    exact wpAny_pure ⟨rfl, I.turned (t' := s.toks) (fun b o hb q => eb b o hb q) f0 f1 f3 f4 f5⟩
  self := fun A i s Q E st h => let ⟨⟨_, he⟩, _⟩ := st; wpAny_pyIter_enum he h
def iEnt (K : PySem.W.Frag) (ta : TA) : TI := fun σ H R => ta σ H fun vs H1 => ∃ a xs, vs = [.ref a] ∧ SqT K H1 a xs ∧ R (Ent K a) H1
theorem pi_ent {X : Cx} {e : Expr} {ta : TA} {p pos tpos : Pos} {elts : List Expr} {kk : Nat} (hg : Gl X "enumerate") (hm : X.mg "enumerate" = none) (ha : PA X [e] ta) (hs : starEach [e] X.env = [(false, eval e X.env)] := by rfl) :
    PI X (.Tuple elts kk tpos) (.Call (.Name "enumerate" p) [e] [] pos) (iEnt X.K ta) := by
  refine ⟨fun pins s σ H R I h => Call_ (ld_blt I hg hm boot_enumerate (PyProof.Rows.callWith_type1 (thn (ha.run pos pins s σ H _ I h) fun us s1 ⟨vs, H1, I1, r1, q1⟩ => ?_) hs rfl))⟩
  obtain ⟨a, xs, ex, hq, q⟩ := q1
  subst ex
  cases r1 with
  | cons r rr =>
    cases rr
    cases r
    obtain ⟨its, rv, pt, hz⟩ := I1.tuple hq
    refine begins1 (begins_tuple a its.toArray) pt fun h1 he hit hk => wpAny_pyIter_enum he ?_
    refine ⟨s1.heap.objs.size + 1, [s1.heap.objs.size + 1, s1.heap.objs.size], _, _, H1, rfl, I1.kept (t' := s1.toks) hk, turn_ent a (s1.heap.objs.size + 1) s1.heap.objs.size, ⟨⟨.none, he⟩, ⟨_, hit, rfl, rfl⟩, Nat.succ_ne_self _⟩, fun b hb => ?_, q⟩
    have low : s1.heap.objs.size ≤ b := by
      rcases List.mem_cons.mp hb with z | z
      · rw [z]; exact Nat.le_succ _
      · rw [List.mem_singleton.mp z]; exact Nat.le_refl _
    exact I1.fpOk low (I1.hok.fresh low)
theorem for_ent {K : PySem.W.Frag} {a : Addr} {xs : List V} {g : TG} {tb : TS} {D : Ends} {σ : L2.St} {H : Hp} (Pv : Nat → L2.St → Hp → Prop) (h0 : Pv 0 σ H) (hl : ∀ i σ H, i ≤ xs.length → Pv i σ H → SqT K H a xs)
    (hs : ∀ i x σ H T, xs[i]? = some x → Pv i σ H → H T = none → g (.ref T) σ (upd H T (.tup [.int (i : Nat), x])) fun σ2 H2 => tb { D with nx := Pv (i + 1), ct := Pv (i + 1), bk := D.nx } σ2 H2) (hd : ∀ σ H, Pv xs.length σ H → D.nx σ H) :
    ∃ W : Nat → Nat → L2.St → Hp → Prop, (∃ m, W 0 m σ H) ∧ ∀ i m σ H, W i m σ H →
      ((Ent K a).stop i H ∧ D.nx σ H) ∨ ((Ent K a).go i H ∧ ∃ N : L2.St → Hp → Prop, (∀ σ' H', N σ' H' → ∃ m', m' < m ∧ W (i + 1) m' σ' H') ∧ ∀ x H', (Ent K a).yld i H x H' → g x σ H' fun σ2 H2 => tb { D with nx := N, ct := N, bk := D.nx } σ2 H2) := by
  refine ⟨fun i m σ H => m = xs.length - i ∧ i ≤ xs.length ∧ Pv i σ H, ⟨xs.length, by simp, Nat.zero_le _, h0⟩, ?_⟩
  rintro i m σ H ⟨rfl, hi, p⟩
  have q := hl i σ H hi p
  by_cases lt : i < xs.length
  · have at_ : xs[i]? = some xs[i] := List.getElem?_eq_getElem lt
    refine .inr ⟨⟨xs, xs[i], q, at_⟩, Pv (i + 1), fun σ1 H1 p1 => ⟨xs.length - (i + 1), by omega, rfl, lt, p1⟩, fun y H1 ⟨T, x, ey, hT, eH, hx⟩ => ?_⟩
    subst ey eH
    exact hs i x σ H T (hx xs q) p hT
  · obtain rfl : i = xs.length := by omega
    exact .inl ⟨⟨xs, q, Nat.le_refl _⟩, hd σ H p⟩
theorem for_enl {K : PySem.W.Frag} {a : Addr} {xs : List V} {g : TG} {tb : TS} {D : Ends} {σ : L2.St} {H : Hp} (Pv : Nat → L2.St → Hp → Prop) (h0 : Pv 0 σ H) (hl : ∀ i σ H, i ≤ xs.length → Pv i σ H → SqL K H a xs)
    (hs : ∀ i x σ H T, xs[i]? = some x → Pv i σ H → H T = none → g (.ref T) σ (upd H T (.tup [.int (i : Nat), x])) fun σ2 H2 => tb { D with nx := Pv (i + 1), ct := Pv (i + 1), bk := D.nx } σ2 H2) (hd : ∀ σ H, Pv xs.length σ H → D.nx σ H) :
    ∃ W : Nat → Nat → L2.St → Hp → Prop, (∃ m, W 0 m σ H) ∧ ∀ i m σ H, W i m σ H →
      ((Ite K a).stop i H ∧ D.nx σ H) ∨ ((Ite K a).go i H ∧ ∃ N : L2.St → Hp → Prop, (∀ σ' H', N σ' H' → ∃ m', m' < m ∧ W (i + 1) m' σ' H') ∧ ∀ x H', (Ite K a).yld i H x H' → g x σ H' fun σ2 H2 => tb { D with nx := N, ct := N, bk := D.nx } σ2 H2) := by
  refine ⟨fun i m σ H => m = xs.length - i ∧ i ≤ xs.length ∧ Pv i σ H, ⟨xs.length, by simp, Nat.zero_le _, h0⟩, ?_⟩
  rintro i m σ H ⟨rfl, hi, p⟩
  have q := hl i σ H hi p
  by_cases lt : i < xs.length
  · have at_ : xs[i]? = some xs[i] := List.getElem?_eq_getElem lt
    refine .inr ⟨⟨xs, xs[i], q, at_⟩, Pv (i + 1), fun σ1 H1 p1 => ⟨xs.length - (i + 1), by omega, rfl, lt, p1⟩, fun y H1 ⟨T, x, ey, hT, eH, hx⟩ => ?_⟩
    subst ey eH
    exact hs i x σ H T (hx xs q) p hT
  · obtain rfl : i = xs.length := by omega
    exact .inl ⟨⟨xs, q, Nat.le_refl _⟩, hd σ H p⟩
end NEn

set_option Elab.async false
set_option linter.all false
set_option maxRecDepth 100000
set_option maxHeartbeats 4000000
/-! xs.extend(t), t a tuple. -/
namespace NEX
open PySem PySem.Spec PyProof.Rows L2
section
variable {X : Cx}
def rExtendT (K : PySem.W.Frag) : V → List V → Hp → VK → Prop := fun x vs H Q => ∃ l b xs zs, x = .ref l ∧ vs = [.ref b] ∧ H l = some (.lst xs) ∧ SqT K H b zs ∧ xs.length + zs.length ≤ sizeLine ∧ Q .non (upd H l (.lst (xs ++ zs)))
theorem mt_extendT : MtM X "list.extend" (rExtendT X.K) := by
  intro pins s σ H x vs v us Q I rx rv h
  obtain ⟨l, b, xs, zs, rfl, rfl, hH, hB, hz, q⟩ := h
  cases rx
  obtain ⟨u, rfl, ru⟩ := rv.one
  cases ru
  obtain ⟨z, its, n, r, hl, e⟩ := I.lstM hH
  obtain ⟨its2, r2, ⟨o2, e2, c2, n2, d2⟩, hl2⟩ := I.tuple hB
  have hl3 := r2.length
  refine wpAny_call_entry F.slot_list_extend ⟨_, e, rfl⟩ F.entry_list_extend ?_ (F.args_list_extend_2 _ _)
  have hsz : its.toArray.size + its2.toArray.size ≤ sizeLine := by rw [List.size_toArray, List.size_toArray]; omega
  have hlong : (!its.toArray.isEmpty && Builtin.List.listTooLong (its.toArray.size + its2.toArray.size)) = false := by
    unfold Builtin.List.listTooLong
    rw [decide_eq_false (by omega), Bool.and_false]
  unfold Builtin.«list.extend»
  show wpAny _ X.A.in1 (Builtin.List.listExtendWith (.ref l) (.ref b) .none) _ _ _
  unfold Builtin.List.listExtendWith
  refine wpAny_bind (wpAny_typeOf ⟨o2, e2, c2⟩ ?_)
  have h1 : (Builtin.List.listSameRef (.ref l) (.ref b) || Value.type "tuple" == Value.type "list" || Value.type "tuple" == Value.type "tuple") = true := by simp
  simp only [h1, if_true]
  refine wpAny_bind ?_
  unfold Builtin.List.listItems
  refine wpAny_bind (wpAny_seqItems e2 d2 (wpAny_pure ?_))
  refine wpAny_bind ?_
  refine wpAny_bind (wpAny_seqItems e rfl (wpAny_pure ?_))
  simp only [hlong, Bool.false_eq_true, if_false]
  show wpAny _ X.A.in1 (updateSeq l (· ++ its2.toArray) >>= fun _ => ret .none) _ _ s
  refine wpAny_bind (wpAny_updateSeq e rfl ?_ (by rw [List.size_toArray]; omega) (by rw [Array.size_append]; omega))
  refine wpAny_pure ⟨_, rfl, .non, _, I.lset (its' := its ++ its2) hH e (by simp) (r.append r2) ?_, rfl, q⟩
  rw [List.length_append]
  exact hz
end
end NEX

set_option Elab.async false
set_option linter.all false
set_option maxRecDepth 100000
set_option maxHeartbeats 4000000
/-! Walks over what is a list or a tuple. -/
namespace NI
open PySem L2 LamX
abbrev Sq (K : PySem.W.Frag) (H : Hp) (a : Addr) (xs : List V) : Prop := SqL K H a xs ∨ SqT K H a xs
theorem sqL_same {K : PySem.W.Frag} {H H2 : Hp} {a : Addr} {xs : List V} (s : Same H H2) (h : SqL K H a xs) : SqL K H2 a xs := by
  rcases h with (h | ⟨o, h⟩) | h
  · exact .inl (.inl (s _ _ h))
  · exact .inl (.inr ⟨o, s _ _ h⟩)
  · exact .inr h
theorem sqT_same {K : PySem.W.Frag} {H H2 : Hp} {a : Addr} {xs : List V} (s : Same H H2) (h : SqT K H a xs) : SqT K H2 a xs := by
  rcases h with (h | ⟨o, h⟩) | h
  · exact .inl (.inl (s _ _ h))
  · exact .inl (.inr ⟨o, s _ _ h⟩)
  · exact .inr h
theorem Sq.same {K : PySem.W.Frag} {H H2 : Hp} {a : Addr} {xs : List V} (s : Same H H2) (h : Sq K H a xs) : Sq K H2 a xs := h.imp (sqL_same s) (sqT_same s)
theorem pi_either {X : Cx} {tg l : Expr} {w1 w2 : TI} (h1 : PI X tg l w1) (h2 : PI X tg l w2) : PI X tg l (fun σ H R => w1 σ H R ∨ w2 σ H R) := ⟨fun pins s σ H R I h => h.elim (h1.run pins s σ H R I) (h2.run pins s σ H R I)⟩
theorem for_either {K : PySem.W.Frag} {j : Nat} {a : Addr} {xs : List V} {g : TG} {tb : TS} {D : Ends} {σ : L2.St} {H H0 : Hp} (hv : σ[j]? = some (some (.ref a))) (hS : Sq K H0 a xs) (Pv : Nat → L2.St → Hp → Prop) (h0 : Pv 0 σ H) (hk : ∀ i σ2 H2, Pv i σ2 H2 → Same H0 H2)
    (hs : ∀ i x σ1 H1, xs[i]? = some x → Pv i σ1 H1 → g x σ1 H1 fun σ2 H2 => tb { D with nx := Pv (i + 1), ct := Pv (i + 1), bk := D.nx } σ2 H2) (hd : ∀ σ1 H1, Pv xs.length σ1 H1 → D.nx σ1 H1) :
    tFor (fun σ H R => iList K (tVar j) σ H R ∨ iTup K (tVar j) σ H R) g tb D σ H := by
  rcases hS with h | h
  · exact .inl ⟨_, hv, a, rfl, ⟨xs, sqL_same (hk 0 σ H h0) h⟩, for_list (xs := xs) Pv h0 (fun i σ2 H2 _ p => sqL_same (hk i σ2 H2 p) h) hs hd⟩
  · exact .inr ⟨_, hv, a, rfl, ⟨xs, sqT_same (hk 0 σ H h0) h⟩, for_tup (xs := xs) Pv h0 (fun i σ2 H2 _ p => sqT_same (hk i σ2 H2 p) h) hs hd⟩
theorem tyOf_ext {K : PySem.W.Frag} {H H' : Hp} {v : V} {t : Value} (s : ExtN H H') (h : TyOf K H v t) : TyOf K H' v t := by
  cases h with
  | non => exact .non
  | bl x => exact .bl x
  | int x => exact .int x
  | str x => exact .str x
  | flt x => exact .flt x
  | lst h => exact .lst (s _ _ h (by intro p e; cases e))
  | frz h => exact .frz (s _ _ h (by intro p e; cases e))
  | tup h => exact .tup (s _ _ h (by intro p e; cases e))
  | dK h => exact .dK (s _ _ h (by intro p e; cases e))
  | dT h => exact .dT (s _ _ h (by intro p e; cases e))
  | ins h a b c d e => exact .ins (s _ _ h (by intro p e; cases e)) a b c d e
theorem tyX_ext {K : PySem.W.Frag} {H H' : Hp} {v : V} {t : Value} (s : ExtN H H') (h : TyX K H v t) : TyX K H' v t := by
  cases h with
  | base h => exact .base (tyOf_ext s h)
  | byt b => exact .byt b
  | set h => exact .set (s _ _ h (by intro p e; cases e))
  | kList a b => exact .kList a b
  | kTuple a b => exact .kTuple a b
  | kDict a b => exact .kDict a b
  | fTuple h => exact .fTuple (s _ _ h (by intro p e; cases e))
  | fDict h => exact .fDict (s _ _ h (by intro p e; cases e))
theorem sqL_ext {K : PySem.W.Frag} {H H2 : Hp} {a : Addr} {xs : List V} (s : ExtN H H2) (h : SqL K H a xs) : SqL K H2 a xs := by
  rcases h with (h | ⟨o, h⟩) | h
  · exact .inl (.inl (s _ _ h (by intro p e; cases e)))
  · exact .inl (.inr ⟨o, s _ _ h (by intro p e; cases e)⟩)
  · exact .inr h
theorem sqT_ext {K : PySem.W.Frag} {H H2 : Hp} {a : Addr} {xs : List V} (s : ExtN H H2) (h : SqT K H a xs) : SqT K H2 a xs := by
  rcases h with (h | ⟨o, h⟩) | h
  · exact .inl (.inl (s _ _ h (by intro p e; cases e)))
  · exact .inl (.inr ⟨o, s _ _ h (by intro p e; cases e)⟩)
  · exact .inr h
theorem Sq.ext {K : PySem.W.Frag} {H H2 : Hp} {a : Addr} {xs : List V} (s : ExtN H H2) (h : Sq K H a xs) : Sq K H2 a xs := by
  rcases h with ((h | ⟨o, h⟩) | h) | ((h | ⟨o, h⟩) | h)
  · exact .inl (.inl (.inl (s _ _ h (by intro p e; cases e))))
  · exact .inl (.inl (.inr ⟨o, s _ _ h (by intro p e; cases e)⟩))
  · exact .inl (.inr h)
  · exact .inr (.inl (.inl (s _ _ h (by intro p e; cases e))))
  · exact .inr (.inl (.inr ⟨o, s _ _ h (by intro p e; cases e)⟩))
  · exact .inr (.inr h)
/-- an instance is written, a list or a tuple stays -/
theorem sqT_put {K : PySem.W.Frag} {H : Hp} {a x C dx : Addr} {fs : List (Str × V)} {o : HO} {xs : List V} (hx : H x = some (.ins C dx fs)) (h : SqT K H a xs) : SqT K (upd H x o) a xs := by
  have ne : ∀ {u : HO}, H a = some u → (∀ C dx fs, u ≠ .ins C dx fs) → a ≠ x := fun e n z => by
    rw [z, hx] at e
    exact n _ _ _ (Option.some.inj e).symm
  rcases h with (h | ⟨o1, h⟩) | h
  · exact .inl (.inl ((upd_ne (ne h (by intro C dx fs e; cases e))).trans h))
  · exact .inl (.inr ⟨o1, (upd_ne (ne h (by intro C dx fs e; cases e))).trans h⟩)
  · exact .inr h
theorem sqL_put {K : PySem.W.Frag} {H : Hp} {a x C dx : Addr} {fs : List (Str × V)} {o : HO} {xs : List V} (hx : H x = some (.ins C dx fs)) (h : SqL K H a xs) : SqL K (upd H x o) a xs := by
  have ne : ∀ {u : HO}, H a = some u → (∀ C dx fs, u ≠ .ins C dx fs) → a ≠ x := fun e n z => by
    rw [z, hx] at e
    exact n _ _ _ (Option.some.inj e).symm
  rcases h with (h | ⟨o1, h⟩) | h
  · exact .inl (.inl ((upd_ne (ne h (by intro C dx fs e; cases e))).trans h))
  · exact .inl (.inr ⟨o1, (upd_ne (ne h (by intro C dx fs e; cases e))).trans h⟩)
  · exact .inr h
theorem same_refl {H : Hp} : Same H H := fun _ _ e => e
end NI

set_option Elab.async false
set_option linter.all false
set_option maxRecDepth 100000
set_option maxHeartbeats 4000000
namespace K07
open PySem L2 NX NU
open PyProof.Rows (sortedS)
abbrev sNum : Stmt := top 21
abbrev sCnt : Stmt := top 22
abbrev sPri : Stmt := top 23
theorem scNum : FnScope ["value"] ["value"] (defScope sNum) := ⟨rfl, rfl, rfl, by decide +kernel, rfl, by decide +kernel, by decide +kernel⟩
theorem scCnt : FnScope ["value"] ["value"] (defScope sCnt) := ⟨rfl, rfl, rfl, by decide +kernel, rfl, by decide +kernel, by decide +kernel⟩
theorem scPri : FnScope ["value"] ["value"] (defScope sPri) := ⟨rfl, rfl, rfl, by decide +kernel, rfl, by decide +kernel, by decide +kernel⟩
structure TxtP (mg : Str → Option Value) : Prop where
  bbool : mg "bool" = none
  bdict : mg "dict" = none
  brev : mg "reversed" = none
  mp : ∃ t, mg "MOST_PRICE" = some (.int 9 t)
def spNum : Sp := fun vs H Q _ => ∃ n : Int, vs = [.int n] ∧ Q (.bl true) H
def spCnt : Sp := fun vs H Q _ => ∃ n : Int, vs = [.int n] ∧ 0 ≤ n ∧ Q (.bl true) H
def spPri : Sp := fun vs H Q _ => ∃ n : Int, vs = [.int n] ∧ 0 ≤ n ∧ n ≤ 9 ∧ Q (.bl true) H
/-- names, in a list or a tuple -/
def spCnsS (K : PySem.W.Frag) : Sp := fun vs H Q _ => ∃ (p : Addr) (ws : List Str), vs = [.ref p] ∧ NI.Sq K H p (ws.map V.str) ∧ Nms ws ∧ Q .non H
def spCunS (K : PySem.W.Frag) : Sp := fun vs H Q _ => ∃ (p : Addr) (ws : List Str), vs = [.ref p] ∧ NI.Sq K H p (ws.map V.str) ∧ ws.length ≤ 1000 ∧ NoRep ws ∧ ∀ H', Same H H' → Q .non H'
/-- ascending(names), names not more than those of a short pool -/
def spAscM (K : PySem.W.Frag) : Sp := fun vs H Q _ => ∃ (p : Addr) (ws pool : List Str), vs = [.ref p] ∧ NI.Sq K H p (ws.map V.str) ∧ ws.length ≤ 1000 ∧ (∀ z ∈ ws, z ∈ pool) ∧ pool.length < 64 ∧
  ∀ (ys : List Str) q H', Asc ys ws → Same H H' → H q = none → H' q = some (.tup (ys.map V.str)) → Q (.ref q) H'
theorem Asc.few {ys ws pool : List Str} (h : Asc ys ws) (k : ∀ z ∈ ws, z ∈ pool) : ys.length ≤ pool.length := by
  rw [← many_of ys h.2.1]
  exact many_in ys pool fun x hx => k x ((h.2.2 x).mp hx)
section
variable {P : Program} {w : World} {K : PySem.W.Frag} {mg : Str → Option Value} {base : Heap}
theorem ok_num {f : Addr} {fd : FuncData} (F : Fun K "is_number" "is_number" sNum f fd) (T : TxtB mg) (N : TxtP mg) : FnOk P w K mg base CX0 1 f fd ["value"] spNum := by
  refine F.ok scNum (fun vs H Q E h => ?_) (fun cdv A outer s H vs Q E hr h => ?_)
  · obtain ⟨n, rfl, _⟩ := h
    rfl
  · obtain ⟨n, rfl, q⟩ := h
    refine ⟨_, pss_one (ps_ret (pe_and (pe_callB call_isi (by rfl) T.bisinstance (by decide +kernel) (pa_cons (pv 0) (pa_cons (pe_bltn (v := .ty "int") (by rfl) T.bint (by decide +kernel) rfl) pa_nil)))
      (pe_one (pe_not (pe_callB call_isi (by rfl) T.bisinstance (by decide +kernel) (pa_cons (pv 0) (pa_cons (pe_bltn (v := .ty "bool") (by rfl) N.bbool (by decide +kernel) rfl) pa_nil))))))), ?_⟩
    refine ⟨_, rfl, _, _, _, _, true, rfl, .ty "int", .base (.int _), kit_ty (by decide +kernel), true, rfl, ?_⟩
    exact iteT ⟨_, rfl, _, _, _, _, false, rfl, .ty "bool", .base (.int _), kit_ty (by decide +kernel), false, rfl, q⟩
theorem ok_cnt {f : Addr} {fd : FuncData} (F : Fun K "is_count" "is_count" sCnt f fd) (cNum : C8.Cal P w K mg base 1 "is_number" spNum []) : FnOk P w K mg base CX0 2 f fd ["value"] spCnt := by
  refine F.ok scCnt (fun vs H Q E h => ?_) (fun cdv A outer s H vs Q E hr h => ?_)
  · obtain ⟨n, rfl, _⟩ := h
    rfl
  · obtain ⟨n, rfl, h0, q⟩ := h
    refine ⟨_, pss_one (ps_ret (pe_and (C8.pe_c cNum hr (by decide) rfl (pa_cons (pv 0) pa_nil)) (pe_one (pe_cmpR op_ge (pv 0) pe_int (nomark _))))), ?_⟩
    refine ⟨_, rfl, n, rfl, true, rfl, iteT ⟨_, rfl, n, 0, rfl, rfl, ?_⟩⟩
    show Q (.bl (decide (0 ≤ n))) H
    rw [decide_eq_true h0]
    exact q
theorem ok_pri {f : Addr} {fd : FuncData} (F : Fun K "is_price" "is_price" sPri f fd) (N : TxtP mg) (cCnt : C8.Cal P w K mg base 2 "is_count" spCnt []) : FnOk P w K mg base CX0 3 f fd ["value"] spPri := by
  refine F.ok scPri (fun vs H Q E h => ?_) (fun cdv A outer s H vs Q E hr h => ?_)
  · obtain ⟨n, rfl, _⟩ := h
    rfl
  · obtain ⟨n, rfl, h0, h9, q⟩ := h
    obtain ⟨t9, e9⟩ := N.mp
    refine ⟨_, pss_one (ps_ret (pe_and (C8.pe_c cCnt hr (by decide) rfl (pa_cons (pv 0) pa_nil)) (pe_one (pe_cmpR op_le (pv 0) (pe_glob (v := .int 9) rfl e9 ⟨t9, rfl⟩) (nomark _))))), ?_⟩
    refine ⟨_, rfl, n, rfl, h0, true, rfl, iteT ⟨_, rfl, n, 9, rfl, rfl, ?_⟩⟩
    show Q (.bl (decide (n ≤ 9))) H
    rw [decide_eq_true h9]
    exact q
theorem ok_cnsS {f : Addr} {fd : FuncData} (F : Fun K "check_names" "check_names" sCns f fd) (cIs : C8.Cal P w K mg base 1 "is_name" (spIs K) []) : FnOk P w K mg base CX0 2 f fd ["values"] (spCnsS K) := by
  refine F.ok scCns (fun vs H Q E h => ?_) (fun cdv A outer s H vs Q E hr h => ?_)
  · obtain ⟨p, ws, rfl, _⟩ := h
    rfl
  · obtain ⟨p, ws, rfl, hS, hn, q⟩ := h
    refine ⟨_, (pss_one (ps_for PassesOwn.never rfl (NI.pi_either (pi_list (pv 0)) (pi_tup (pv 0))) (pg_name (i := 1) scCns.nd rfl (Or.inl rfl)) (pss_one (ps_if (pt_not (pt_val (C8.pe_c cIs hr (by decide) rfl (pa_cons (pv 1) pa_nil)))) pss_never pss_nil)))), ?_⟩
    refine NI.for_either (j := 0) rfl hS (fun i σ H' => H' = H ∧ ∃ y, σ = [some (.ref p), y]) ⟨rfl, _, rfl⟩ (fun i σ H2 ⟨e, _⟩ => by rw [e]; exact NI.same_refl) (fun i x σ H' hx ⟨e, y, eσ⟩ => ?_) (fun σ H' ⟨e, _⟩ => by rw [e]; exact q)
    subst e eσ
    rw [List.getElem?_map] at hx
    obtain ⟨z, hz, rfl⟩ := Option.map_eq_some_iff.mp hx
    obtain ⟨h1, h2⟩ := hn z (List.mem_of_getElem? hz)
    refine ⟨_, rfl, _, rfl, .inl ⟨z, rfl, h1, ?_⟩⟩
    rw [h2]
    exact ⟨_, rfl, iteF ⟨rfl, _, rfl⟩⟩
theorem ok_cunS {f : Addr} {fd : FuncData} (F : Fun K "check_unlike" "check_unlike" sCun f fd) : FnOk P w K mg base CX0 1 f fd ["names"] (spCunS K) := by
  refine F.ok scCun (fun vs H Q E h => ?_) (fun cdv A outer s H vs Q E hr h => ?_)
  · obtain ⟨p, ws, rfl, _⟩ := h
    rfl
  · obtain ⟨p, ws, rfl, hS, few, nr, q⟩ := h
    have hu := hu_of hr
    refine ⟨_, (pss_cons (ps_set (i := 1) scCun.nd rfl (Or.inl rfl) pe_dnewK) (pss_one (ps_for PassesOwn.never rfl (NI.pi_either (pi_list (pv 0)) (pi_tup (pv 0))) (pg_name (i := 2) scCun.nd rfl (Or.inl rfl))
      (pss_cons (ps_if (pt_cmp (pc_din hu (pv 2) (pv 1))) pss_never pss_nil)
        (pss_one (ps_dput hu (pv 1) (pv 2) pe_bl rfl)))))), ?_⟩
    intro d hd
    refine NI.for_either (j := 0) rfl hS (fun i σ H' => Same H H' ∧ (∃ kvs, H' d = some (.dK kvs) ∧ kvs.length ≤ i ∧ ∀ y : Str, (valV kvs (.inr y)).isSome = decide (y ∈ ws.take i)) ∧ ∃ y, σ = [some (.ref p), some (.ref d), y])
      ⟨Same.new hd, ⟨[], upd_same, Nat.le_refl _, fun y => by simp [valV]⟩, _, rfl⟩ (fun i σ H2 ⟨s, _⟩ => s) (fun i x σ H' hx ⟨s, ⟨kvs, g, l, k⟩, y, eσ⟩ => ?_) (fun σ H' ⟨s, _⟩ => q _ s)
    subst eσ
    rw [List.getElem?_map] at hx
    obtain ⟨z, hz, rfl⟩ := Option.map_eq_some_iff.mp hx
    have no := nr i z hz
    refine ⟨_, rfl, _, rfl, _, _, rfl, DGet.k (k := .inr z) g, ?_⟩
    rw [k z, decide_eq_false no]
    refine ⟨_, rfl, iteF ⟨_, rfl, _, rfl, _, _, rfl, DPut.k (k := .inr z) g (by have := (List.getElem?_eq_some_iff.mp hz).1; rw [sizeLine_eq]; omega), fun b o hb => ?_, ⟨_, upd_same, Nat.le_trans (length_putK kvs _ _) (by omega), fun y => ?_⟩, _, rfl⟩⟩
    · have ne : b ≠ d := fun e => by rw [e, hd] at hb; cases hb
      rw [upd_ne ne]
      exact s b o hb
    · rw [valV_put, List.take_add_one, hz]
      by_cases e : y = z
      · subst e
        rw [if_pos rfl]
        simp
      · rw [if_neg (fun q => e (Sum.inr.inj q)), k y]
        simp [e]
theorem ok_ascM {f : Addr} {fd : FuncData} (F : Fun K "ascending" "ascending" sAsc f fd) (T : TxtA mg) : FnOk P w K mg base CX0 1 f fd ["names"] (spAscM K) := by
  refine F.ok scAsc (fun vs H Q E h => ?_) (fun cdv A outer s H vs Q E hr h => ?_)
  · obtain ⟨p, ws, pool, rfl, _⟩ := h
    rfl
  · obtain ⟨p, ws, pool, rfl, hS, few, hp, h64, q⟩ := h
    refine ⟨_, (pss_one (ps_ret (pe_callTy call_tuple_of (by rfl) T.btuple (by decide +kernel) (pa_cons (pe_callB (cr_srtM rfl) (by rfl) T.bsorted (by decide +kernel) (pa_cons (pe_callTy (cr_setX rfl) (by rfl) T.bset (by decide +kernel) (pa_cons (pv 0) pa_nil)) pa_nil)) pa_nil)))), ?_⟩
    refine ⟨_, rfl, p, ws, rfl, hS, few, fun a ha => ⟨a, ws, rfl, upd_same, Nat.lt_of_le_of_lt (many_in ws pool hp) h64, fun ys b srt nd mm hb => ?_⟩⟩
    refine ⟨b, _, rfl, .inl ⟨SqL.of upd_same, fun l hl => ?_⟩⟩
    have s1 : Same H (upd H a (SetX w a ws)) := Same.new ha
    have s2 := s1.trans (Same.new (o := .lst (ys.map V.str)) hb)
    exact q ys l _ ⟨srt, nd, mm⟩ (s2.trans (Same.new hl)) (sameNone s2 hl) upd_same
end
end K07

set_option Elab.async false
set_option linter.all false
set_option maxRecDepth 100000
set_option maxHeartbeats 4000000
/-! The parts of a program: what the checks ask of them. -/
namespace K07
open PySem L2 NX NU
open PyProof.Rows (sortedS)
abbrev sCp : Stmt := top 53
abbrev sCz : Stmt := top 54
theorem scCp : FnScope ["parts"] ["parts"] (defScope sCp) := ⟨rfl, rfl, rfl, by decide +kernel, rfl, by decide +kernel, by decide +kernel⟩
theorem scCz : FnScope ["parts", "outside", "part", "size", "most"] ["parts"] (defScope sCz) := ⟨rfl, rfl, rfl, by decide +kernel, rfl, by decide +kernel, by decide +kernel⟩
abbrev Act := Option Str × List Str
/-- deeds at the addresses xs -/
def AllAt (d : D3) (H : Hp) (xs : List Addr) (as : List Act) : Prop := xs.length = as.length ∧ ∀ (i : Nat) x a, xs[i]? = some x → as[i]? = some a → ∃ ys, IsD d H x a.1 a.2 ys
theorem AllAt.same {d : D3} {H H' : Hp} {xs : List Addr} {as : List Act} (s : Same H H') (h : AllAt d H xs as) : AllAt d H' xs as := ⟨h.1, fun i x a e1 e2 => (h.2 i x a e1 e2).imp fun _ q => q.same s⟩
def Deeds (K : PySem.W.Frag) (d : D3) (H : Hp) (p : Addr) (as : List Act) : Prop := ∃ xs : List Addr, SqT K H p (xs.map V.ref) ∧ AllAt d H xs as
theorem Deeds.same {K : PySem.W.Frag} {d : D3} {H H' : Hp} {p : Addr} {as : List Act} (s : Same H H') (h : Deeds K d H p as) : Deeds K d H' p as := h.imp fun _ q => ⟨sqT_same s q.1, q.2.same s⟩
def PartA (K : PySem.W.Frag) (d : D3) (H : Hp) (v : V) : Option (List Act) → Prop
  | none => v = .non
  | some as => ∃ p, v = .ref p ∧ Deeds K d H p as
theorem PartA.same {K : PySem.W.Frag} {d : D3} {H H' : Hp} {v : V} (s : Same H H') : ∀ {o : Option (List Act)}, PartA K d H v o → PartA K d H' v o
  | none, h => h
  | some _, ⟨p, e, h⟩ => ⟨p, e, h.same s⟩
/-- the parts of a program -/
structure Prg where
  a : List Act
  l : Option (List Act)
  b : List Act
  s : Option (List Act)
  h : List Act
def Prg.at (g : Prg) : Nat → Option (List Act)
  | 0 => some g.a
  | 1 => g.l
  | 2 => some g.b
  | 3 => g.s
  | _ => some g.h
def partN : List Str := ["ahead", "loop", "between", "second", "behind"]
def kvsP (v0 v1 v2 v3 v4 : V) : List (Key × V) := [(.inr "ahead", v0), (.inr "loop", v1), (.inr "between", v2), (.inr "second", v3), (.inr "behind", v4)]
/-- the dict of parts at P -/
def PartsD (K : PySem.W.Frag) (d : D3) (H : Hp) (P : Addr) (g : Prg) : Prop := ∃ v0 v1 v2 v3 v4, H P = some (.dK (kvsP v0 v1 v2 v3 v4)) ∧ PartA K d H v0 (some g.a) ∧ PartA K d H v1 g.l ∧ PartA K d H v2 (some g.b) ∧ PartA K d H v3 g.s ∧ PartA K d H v4 (some g.h)
theorem PartsD.same {K : PySem.W.Frag} {d : D3} {H H' : Hp} {P : Addr} {g : Prg} (s : Same H H') (h : PartsD K d H P g) : PartsD K d H' P g := by
  obtain ⟨v0, v1, v2, v3, v4, e, h0, h1, h2, h3, h4⟩ := h
  exact ⟨v0, v1, v2, v3, v4, s _ _ e, h0.same s, h1.same s, h2.same s, h3.same s, h4.same s⟩
theorem PartsD.get {K : PySem.W.Frag} {d : D3} {H : Hp} {P : Addr} {g : Prg} (h : PartsD K d H P g) (i : Nat) {z : Str} (hz : partN[i]? = some z) : ∃ v, DGet H P (.str z) (some v) ∧ PartA K d H v (g.at i) := by
  obtain ⟨v0, v1, v2, v3, v4, e, h0, h1, h2, h3, h4⟩ := h
  match i, hz with
  | 0, hz => cases hz; exact ⟨v0, DGet.k (k := .inr "ahead") e, h0⟩
  | 1, hz => cases hz; exact ⟨v1, DGet.k (k := .inr "loop") e, h1⟩
  | 2, hz => cases hz; exact ⟨v2, DGet.k (k := .inr "between") e, h2⟩
  | 3, hz => cases hz; exact ⟨v3, DGet.k (k := .inr "second") e, h3⟩
  | 4, hz => cases hz; exact ⟨v4, DGet.k (k := .inr "behind") e, h4⟩
  | n + 5, hz => cases hz
/-- parts[..] or () -/
theorem PartA.or {K : PySem.W.Frag} {d : D3} {H : Hp} {v : V} {σ : L2.St} {Q : VK} {o : Option (List Act)} (h : PartA K d H v o) (q : ∀ p H', Same H H' → Deeds K d H' p (o.getD []) → Q (.ref p) H') : ∃ k, TruV K v H k ∧ if k = true then Q v H else tTup tNil σ H Q := by
  have emp : tTup tNil σ H fun x H' => (o.getD [] = [] → Q x H') := ⟨by show 0 ≤ sizeLine; decide, fun t ht e => by
    refine q t _ (Same.new ht) ?_
    rw [e]
    exact ⟨[], SqT.of upd_same, rfl, fun i x a h1 => by cases h1⟩⟩
  cases o with
  | none =>
    obtain rfl : v = .non := h
    exact ⟨false, rfl, iteF ⟨emp.1, fun t ht => emp.2 t ht rfl⟩⟩
  | some as =>
    obtain ⟨p, rfl, xs, e, hx⟩ := h
    refine ⟨!(xs.map V.ref).isEmpty, .inr (.inl ⟨_, e, rfl⟩), ?_⟩
    cases xs with
    | nil =>
      have ea : as = [] := List.length_eq_zero_iff.mp hx.1.symm
      exact iteF ⟨emp.1, fun t ht => emp.2 t ht ea⟩
    | cons x r => exact iteT (q p H (Same.refl H) ⟨_, e, hx⟩)
/-- what the checks ask of the parts -/
structure Prg.Shape (g : Prg) : Prop where
  l : g.l = none → g.b = [] ∧ g.s = none ∧ g.h = []
  s : g.s = none → g.b = []
structure Prg.Sizes (g : Prg) : Prop where
  a : g.a.length ≤ 200
  l : (g.l.getD []).length ≤ 24
  b : g.b.length ≤ 24
  s : (g.s.getD []).length ≤ 24
  h : g.h.length ≤ 24
  all : g.a.length + g.b.length + g.h.length ≤ 200
def spCp (K : PySem.W.Frag) (d : D3) : Sp := fun vs H Q _ => ∃ (P : Addr) (g : Prg), vs = [.ref P] ∧ PartsD K d H P g ∧ g.Shape ∧ Q .non H
def spCz (K : PySem.W.Frag) (d : D3) : Sp := fun vs H Q _ => ∃ (P : Addr) (g : Prg), vs = [.ref P] ∧ PartsD K d H P g ∧ g.Sizes ∧ ∀ H', Same H H' → Q .non H'
/-- the module's constants -/
structure TxtQ (mg : Str → Option Value) (K : PySem.W.Frag) : Prop where
  parts : ∃ a, mg "PARTS" = some (.ref a) ∧ ∀ H : Hp, SqT K H a (partN.map V.str)
  loops : ∃ a, mg "LOOPS" = some (.ref a) ∧ ∀ H : Hp, SqT K H a (([ "loop", "second" ] : List Str).map V.str)
  ma : ∃ t, mg "MOST_AHEAD" = some (.int 200 t)
  mi : ∃ t, mg "MOST_IN_PART" = some (.int 24 t)
  mn : ∃ t, mg "MOST_NAMES" = some (.int 6 t)
theorem PartA.isNon {K : PySem.W.Frag} {d : D3} {H : Hp} {v : V} {o : Option (List Act)} (h : PartA K d H v o) : decide (v = V.non) = o.isNone := by
  cases o with
  | none => rw [show v = .non from h]; rfl
  | some as =>
    obtain ⟨p, rfl, _⟩ := h
    exact decide_eq_false (fun e => nomatch e)
theorem Deeds.tru {K : PySem.W.Frag} {d : D3} {H : Hp} {p : Addr} {as : List Act} (h : Deeds K d H p as) : TruV K (.ref p) H (!as.isEmpty) := by
  obtain ⟨xs, e, hx⟩ := h
  refine .inr (.inl ⟨_, e, ?_⟩)
  cases xs with
  | nil =>
    have ea : as = [] := List.length_eq_zero_iff.mp hx.1.symm
    rw [ea]
    rfl
  | cons x r =>
    cases as with
    | nil => cases hx.1
    | cons a q => rfl
section
variable {P : Program} {w : World} {K : PySem.W.Frag} {mg : Str → Option Value} {base : Heap}
theorem ok_cp {d : D3} {f : Addr} {fd : FuncData} (F : Fun K "check_parts" "check_parts" sCp f fd) : FnOk P w K mg base CX0 1 f fd ["parts"] (spCp K d) := by
  refine F.ok scCp (fun vs H Q E h => ?_) (fun cdv A outer s H vs Q E hr h => ?_)
  · obtain ⟨p, g, rfl, _⟩ := h
    rfl
  · obtain ⟨p, g, rfl, hP, sh, q⟩ := h
    have hu := hu_of hr
    refine ⟨_, (pss_one (ps_if (pt_cmpR op_isN (pe_dget hu (pv 0) pe_str (fun _ _ => rfl)) pe_non (nomark _))
      (pss_cons (ps_if (pt_truth (pe_dget hu (pv 0) pe_str (fun _ _ => rfl)) (fun _ => rfl)) pss_never pss_nil)
      (pss_cons (ps_if (pt_cmpR op_notN (pe_dget hu (pv 0) pe_str (fun _ _ => rfl)) pe_non (nomark _)) pss_never pss_nil)
      (pss_one (ps_if (pt_truth (pe_dget hu (pv 0) pe_str (fun _ _ => rfl)) (fun _ => rfl)) pss_never pss_nil))))
      (pss_one (ps_if (PW.pt (pw_and (pt_truth (pe_dget hu (pv 0) pe_str (fun _ _ => rfl)) (fun _ => rfl)) (pw_and1 (pt_cmpR op_isN (pe_dget hu (pv 0) pe_str (fun _ _ => rfl)) pe_non (nomark _))))) pss_never pss_nil)))), ?_⟩
    obtain ⟨v1, g1, a1⟩ := hP.get 1 (z := "loop") rfl
    obtain ⟨v2, g2, a2⟩ := hP.get 2 (z := "between") rfl
    obtain ⟨v3, g3, a3⟩ := hP.get 3 (z := "second") rfl
    obtain ⟨v4, g4, a4⟩ := hP.get 4 (z := "behind") rfl
    have i1 := a1.isNon
    have i3 := a3.isNon
    obtain ⟨p2, rfl, d2⟩ := a2
    obtain ⟨p4, rfl, d4⟩ := a4
    have t2 := d2.tru (K := K)
    have t4 := d4.tru (K := K)
    refine ⟨_, rfl, p, v1, rfl, g1, rfl, _, rfl, ?_⟩
    rw [i1]
    have e1 : (g.at 1) = g.l := rfl
    have e3 : (g.at 3) = g.s := rfl
    rw [e1]
    rw [e3] at i3
    cases hl : g.l with
    | none =>
      obtain ⟨b0, s0, h0⟩ := sh.l hl
      rw [b0] at t2
      rw [h0] at t4
      rw [s0] at i3
      refine iteT ⟨_, rfl, p, _, rfl, g2, false, t2, iteF ⟨_, rfl, p, _, rfl, g3, rfl, _, rfl, ?_⟩⟩
      rw [i3]
      exact iteF ⟨_, rfl, p, _, rfl, g4, false, t4, iteF q⟩
    | some as =>
      refine iteF ⟨_, rfl, p, _, rfl, g2, _, t2, ?_⟩
      cases hb : g.b with
      | nil => exact iteF (iteF q)
      | cons x r =>
        refine iteT ⟨_, rfl, p, _, rfl, g3, rfl, _, rfl, ?_⟩
        rw [i3]
        cases hs : g.s with
        | none => rw [sh.s hs] at hb; cases hb
        | some q2 => exact iteF q
def Prg.outs (g : Prg) : Nat → Nat
  | 0 => 0
  | 1 => g.a.length
  | 2 => g.a.length
  | 3 => g.a.length + g.b.length
  | 4 => g.a.length + g.b.length
  | _ => g.a.length + g.b.length + g.h.length
theorem partF {i : Nat} {z : Str} (h : partN[i]? = some z) : i < 5 ∧ decide (V.str z = V.str (Str.ofString "ahead")) = decide (i = 0) := by
  match i, h with
  | 0, h => cases h; decide +kernel
  | 1, h => cases h; decide +kernel
  | 2, h => cases h; decide +kernel
  | 3, h => cases h; decide +kernel
  | 4, h => cases h; decide +kernel
  | n + 5, h => cases h
theorem ok_cz {d : D3} {f : Addr} {fd : FuncData} (F : Fun K "check_sizes" "check_sizes" sCz f fd) (T : TxtB mg) (TQ : TxtQ mg K) : FnOk P w K mg base CX0 1 f fd ["parts"] (spCz K d) := by
  refine F.ok scCz (fun vs H Q E h => ?_) (fun cdv A outer s H vs Q E hr h => ?_)
  · obtain ⟨p, g, rfl, _⟩ := h
    rfl
  · obtain ⟨p, g, rfl, hP, sz, q⟩ := h
    have hu := hu_of hr
    obtain ⟨aP, gP, sP⟩ := TQ.parts
    obtain ⟨aL, gL, sL⟩ := TQ.loops
    obtain ⟨t1, e1⟩ := TQ.ma
    obtain ⟨t2, e2⟩ := TQ.mi
    refine ⟨_, (pss_cons (ps_set (i := 1) scCz.nd rfl (Or.inl rfl) pe_int)
      (pss_cons (ps_for PassesOwn.never rfl (pi_tup (C8.pe_gc (v := .ref aP) rfl ⟨_, gP, rfl⟩)) (pg_name (i := 2) scCz.nd rfl (Or.inl rfl))
        (pss_cons (ps_set (i := 3) scCz.nd rfl (Or.inl rfl) (pe_callB call_len_seq (by rfl) T.blen (by decide +kernel) (pa_cons (pe_orT (pe_dget hu (pv 0) (pv 2) (fun _ _ => rfl)) (pe_one (pe_tup pa_nil))) pa_nil)))
        (pss_cons (ps_set (i := 4) scCz.nd rfl (Or.inl rfl) (pe_ifExp (pt_cmpR op_eq (pv 2) pe_str (nomark _)) (pe_glob (v := .int 200) rfl e1 ⟨_, rfl⟩) (pe_glob (v := .int 24) rfl e2 ⟨_, rfl⟩)))
        (pss_cons (ps_if (pt_cmpR op_gt (pv 3) (pv 4) (nomark _)) pss_never pss_nil)
        (pss_one (ps_if (pt_cmpR op_notIn_seq (pv 2) (C8.pe_gc (v := .ref aL) rfl ⟨_, gL, rfl⟩) rfl) (pss_one (ps_set (i := 1) scCz.nd rfl (Or.inl rfl) (pe_op op_add (pv 1) (pv 3)))) pss_nil))))))
      (pss_one (ps_if (pt_cmpR op_gt (pv 1) (pe_glob (v := .int 200) rfl e1 ⟨_, rfl⟩) (nomark _)) pss_never pss_nil)))), ?_⟩
    refine ⟨aP, rfl, ⟨_, sP _⟩, for_tup (xs := partN.map V.str) (fun i σ H' => Same H H' ∧ ∃ x2 x3 x4, σ = [some (.ref p), some (.int (g.outs i : Nat)), x2, x3, x4]) ⟨Same.refl H, _, _, _, rfl⟩ (fun i σ H' _ _ => sP H') (fun i x σ H' hx ⟨s1, x2, x3, x4, eσ⟩ => ?_) (fun σ H' ⟨s1, x2, x3, x4, eσ⟩ => ?_)⟩
    · subst eσ
      rw [List.getElem?_map] at hx
      obtain ⟨z, hz, rfl⟩ := Option.map_eq_some_iff.mp hx
      obtain ⟨v, hg, ha⟩ := (hP.same s1).get i hz
      obtain ⟨i5, ez⟩ := partF hz
      refine ⟨_, rfl, _, rfl, p, v, rfl, hg, ha.or fun p2 H2 s2 hd => ?_⟩
      obtain ⟨xs, hx2, hal⟩ := hd
      refine ⟨p2, _, rfl, .inr hx2, ?_⟩
      have lz := hal.1
      have mx : ((g.at i).getD []).length ≤ if i = 0 then 200 else 24 := by
        have : i = 0 ∨ i = 1 ∨ i = 2 ∨ i = 3 ∨ i = 4 := by omega
        rcases this with rfl | rfl | rfl | rfl | rfl
        · exact sz.a
        · exact sz.l
        · exact sz.b
        · exact sz.s
        · exact sz.h
      have inl : inV (V.str z) (([ "loop", "second" ] : List Str).map V.str) = decide (i = 1 ∨ i = 3) := by
        have : i = 0 ∨ i = 1 ∨ i = 2 ∨ i = 3 ∨ i = 4 := by omega
        rcases this with rfl | rfl | rfl | rfl | rfl <;> cases hz <;> decide +kernel
      have ou : (g.outs (i + 1) : Int) = g.outs i + if i = 1 ∨ i = 3 then 0 else (((g.at i).getD []).length : Int) := by
        have : i = 0 ∨ i = 1 ∨ i = 2 ∨ i = 3 ∨ i = 4 := by omega
        rcases this with rfl | rfl | rfl | rfl | rfl <;> simp [Prg.outs, Prg.at]
      refine ⟨_, rfl, rfl, _, rfl, ?_⟩
      rw [ez]
      refine ite2 (fun h0 => ?_) (fun h0 => ?_)
      · rw [if_pos (of_decide_eq_true h0)] at mx
        refine ⟨_, rfl, _, rfl, _, _, rfl, rfl, _, rfl, ite2 (fun h => ?_) (fun _ => ?_)⟩
        · have h := of_decide_eq_true h
          rw [List.length_map] at h
          exfalso
          omega
        · refine ⟨_, rfl, aL, _, rfl, .inr (sL _), rfl, by decide +kernel, _, rfl, ?_⟩
          rw [if_pos rfl, inl]
          by_cases hL : i = 1 ∨ i = 3
          · rw [decide_eq_true hL]
            rw [if_pos hL, Int.add_zero] at ou
            exact iteF ⟨s1.trans s2, _, _, _, by rw [ou]; rfl⟩
          · rw [decide_eq_false hL]
            rw [if_neg hL] at ou
            rw [← lz, ← List.length_map (f := V.ref)] at ou
            exact iteT ⟨_, rfl, _, rfl, _, _, rfl, rfl, s1.trans s2, _, _, _, by rw [ou]; rfl⟩
      · rw [if_neg (fun e => h0 (decide_eq_true e))] at mx
        refine ⟨_, rfl, _, rfl, _, _, rfl, rfl, _, rfl, ite2 (fun h => ?_) (fun _ => ?_)⟩
        · have h := of_decide_eq_true h
          rw [List.length_map] at h
          exfalso
          omega
        · refine ⟨_, rfl, aL, _, rfl, .inr (sL _), rfl, by decide +kernel, _, rfl, ?_⟩
          rw [if_pos rfl, inl]
          by_cases hL : i = 1 ∨ i = 3
          · rw [decide_eq_true hL]
            rw [if_pos hL, Int.add_zero] at ou
            exact iteF ⟨s1.trans s2, _, _, _, by rw [ou]; rfl⟩
          · rw [decide_eq_false hL]
            rw [if_neg hL] at ou
            rw [← lz, ← List.length_map (f := V.ref)] at ou
            exact iteT ⟨_, rfl, _, rfl, _, _, rfl, rfl, s1.trans s2, _, _, _, by rw [ou]; rfl⟩
    · subst eσ
      refine ⟨_, rfl, _, 200, rfl, rfl, _, rfl, ite2 (fun h => ?_) (fun _ => q _ s1)⟩
      have h := of_decide_eq_true h
      have e : g.outs (partN.map V.str).length = g.a.length + g.b.length + g.h.length := rfl
      rw [e] at h
      have := sz.all
      exfalso
      omega
end
end K07

set_option Elab.async false
set_option linter.all false
set_option maxRecDepth 100000
set_option maxHeartbeats 4000000
/-! The names of a program: what the checks ask of them. -/
namespace K07
open PySem L2 NX NU
open PyProof.Rows (sortedS)
abbrev sCt : Stmt := top 55
abbrev sAn : Stmt := top 56
abbrev sCd : Stmt := top 58
theorem scCt : FnScope ["given", "again", "results", "again_names", "name"] ["given", "again", "results"] (defScope sCt) := ⟨rfl, rfl, rfl, by decide +kernel, rfl, by decide +kernel, by decide +kernel⟩
theorem scAn : FnScope ["parts", "given", "again", "results", "names", "part", "deed"] ["parts", "given", "again", "results"] (defScope sAn) := ⟨rfl, rfl, rfl, by decide +kernel, rfl, by decide +kernel, by decide +kernel⟩
theorem scCd : FnScope ["deed", "place", "known", "again", "name"] ["deed", "place", "known", "again"] (defScope sCd) := ⟨rfl, rfl, rfl, by decide +kernel, rfl, by decide +kernel, by decide +kernel⟩
/-- the dict of names to be made again, with their prices -/
def agK (l : List (Str × Int)) : List (Key × V) := l.map fun q => (Sum.inr q.1, V.int q.2)
def AgD (H : Hp) (a : Addr) (l : List (Str × Int)) : Prop := H a = some (.dK (agK l))
structure AgOk (l : List (Str × Int)) : Prop where
  nm_ : ∀ q ∈ l, nm q.1 = true
  lo : ∀ q ∈ l, 0 ≤ q.2
  hi : ∀ q ∈ l, q.2 ≤ 9
  few : l.length < 60
  nd : (l.map (·.1)).Nodup
theorem agKeys (l : List (Str × Int)) : (agK l).map (·.1) = (l.map (·.1)).map Sum.inr := by
  unfold agK
  rw [List.map_map, List.map_map]
  rfl
theorem agIn : ∀ {l : List (Str × Int)} {z : Str}, z ∈ l.map (·.1) → ∃ n, valV (agK l) (.inr z) = some (.int n) ∧ (z, n) ∈ l
  | [], z, h => nomatch h
  | q :: r, z, h => by
    by_cases e : q.1 = z
    · refine ⟨q.2, ?_, ?_⟩
      · show valV ((Sum.inr q.1, V.int q.2) :: agK r) (.inr z) = _
        rw [valV_pos (show (Sum.inr q.1 : Key) = .inr z by rw [e])]
      · rw [← e]
        exact List.mem_cons_self
    · rw [List.map_cons, List.mem_cons] at h
      obtain ⟨n, h1, h2⟩ := agIn (h.resolve_left fun x => e x.symm)
      refine ⟨n, ?_, List.mem_cons_of_mem _ h2⟩
      show valV ((Sum.inr q.1, V.int q.2) :: agK r) (.inr z) = _
      rw [valV_neg (show ¬ (Sum.inr q.1 : Key) = .inr z from fun x => e (Sum.inr.inj x))]
      exact h1
theorem agOut : ∀ {l : List (Str × Int)} {z : Str}, z ∉ l.map (·.1) → valV (agK l) (.inr z) = none
  | [], z, h => rfl
  | q :: r, z, h => by
    rw [List.map_cons, List.mem_cons] at h
    show valV ((Sum.inr q.1, V.int q.2) :: agK r) (.inr z) = _
    rw [valV_neg (show ¬ (Sum.inr q.1 : Key) = .inr z from fun x => h (.inl (Sum.inr.inj x).symm))]
    exact agOut fun x => h (.inr x)
/-- names once each, as they are told -/
structure Tld (us : List Str) : Prop where
  nm_ : ∀ z ∈ us, nm z = true
  nr : us.Nodup
  few : us.length < 60
theorem Tld.nms {us : List Str} (h : Tld us) : Nms us := fun z hz => ⟨Nat.le_trans (nm_le (h.nm_ z hz)).2 (by decide), h.nm_ z hz⟩
def spCt (K : PySem.W.Frag) : Sp := fun vs H Q _ => ∃ (gv ag rs : Addr) (us ws : List Str) (l : List (Str × Int)), vs = [.ref gv, .ref ag, .ref rs] ∧ NI.Sq K H gv (us.map V.str) ∧ AgD H ag l ∧ NI.Sq K H rs (ws.map V.str) ∧ Tld us ∧ AgOk l ∧ Tld ws ∧ ∀ H', Same H H' → Q .non H'
def spCd (K : PySem.W.Frag) (d : D3) : Sp := fun vs H Q _ => ∃ (x kn ag : Addr) (v : V) (mk : Option Str) (us ys ws : List Str) (l : List (Str × Int)), vs = [.ref x, v, .ref kn, .ref ag] ∧ IsD d H x mk us ys ∧ SqL K H kn (ws.map V.str) ∧ AgD H ag l ∧ (∀ z ∈ us, z ∈ ws) ∧ (∀ m, mk = some m → m ∉ l.map (·.1)) ∧ Q .non H
theorem inV_str (z : Str) (ws : List Str) : inV (V.str z) (ws.map V.str) = decide (z ∈ ws) := by
  unfold inV
  rw [Bool.eq_iff_iff, decide_eq_true_eq, List.any_eq_true]
  constructor
  · rintro ⟨x, hx, e⟩
    obtain ⟨y, hy, rfl⟩ := List.mem_map.mp hx
    have e : (y == z) = true := e
    rw [← beq_iff_eq.mp e]
    exact hy
  · intro h
    exact ⟨_, List.mem_map_of_mem h, beq_self_eq_true z⟩
theorem flat_strs (ws : List Str) : (ws.map V.str).all flatV = true := by
  rw [List.all_eq_true]
  intro x hx
  obtain ⟨y, hy, rfl⟩ := List.mem_map.mp hx
  rfl
section
variable {P : Program} {w : World} {K : PySem.W.Frag} {mg : Str → Option Value} {base : Heap}
theorem ok_ct {f : Addr} {fd : FuncData} (F : Fun K "check_told_names" "check_told_names" sCt f fd) (T : TxtB mg) (TA : TxtA mg) (cCns : C8.Cal P w K mg base 2 "check_names" (spCnsS K) []) (cCun : C8.Cal P w K mg base 1 "check_unlike" (spCunS K) []) (cPri : C8.Cal P w K mg base 3 "is_price" spPri []) :
    FnOk P w K mg base CX0 4 f fd ["given", "again", "results"] (spCt K) := by
  refine F.ok scCt (fun vs H Q E h => ?_) (fun cdv A outer s H vs Q E hr h => ?_)
  · obtain ⟨a, b, c, us, ws, l, rfl, _⟩ := h
    rfl
  · obtain ⟨gv, ag, rs, us, ws, l, rfl, h1, h2, h3, o1, o2, o3, q⟩ := h
    have hu := hu_of hr
    refine ⟨_, (pss_cons (ps_expr (C8.pe_c cCns hr (by decide) rfl (pa_cons (pv 0) pa_nil)))
      (pss_cons (ps_expr (C8.pe_c cCun hr (by decide) rfl (pa_cons (pv 0) pa_nil)))
      (pss_cons (ps_set (i := 3) scCt.nd rfl (Or.inl rfl) (pe_callBK (NSK.cr_sortedKS rfl) (by rfl) TA.bsorted (by decide +kernel) (pa_cons (pv 1) pa_nil) (pk_cons (pe_bltn (v := .ty "str") (by rfl) T.bstr (by decide +kernel) rfl) pk_nil)))
      (pss_cons (ps_expr (C8.pe_c cCns hr (by decide) rfl (pa_cons (pv 3) pa_nil)))
      (pss_cons (ps_for PassesOwn.never rfl (pi_list (pv 3)) (pg_name (i := 4) scCt.nd rfl (Or.inl rfl)) (pss_one (ps_if (pt_not (pt_val (C8.pe_c cPri hr (by decide) rfl (pa_cons (pe_dget hu (pv 1) (pv 4) (fun _ _ => rfl)) pa_nil)))) pss_never pss_nil)))
      (pss_cons (ps_expr (C8.pe_c cCns hr (by decide) rfl (pa_cons (pv 2) pa_nil)))
      (pss_one (ps_expr (C8.pe_c cCun hr (by decide) rfl (pa_cons (pv 2) pa_nil)))))))))), ?_⟩
    refine ⟨_, rfl, gv, us, rfl, h1, o1.nms, ?_⟩
    refine ⟨_, rfl, gv, us, rfl, h1, by have := o1.few; omega, noRep_of o1.nr, fun H1 s1 => ?_⟩
    refine ⟨_, rfl, ag, l.map (·.1), rfl, rfl, .inr (.inr ⟨_, .inl (s1 _ _ h2), agKeys l⟩), by rw [List.length_map]; have := o2.few; omega, fun ys p pm srt hp => ?_⟩
    have s2 : Same H1 (upd H1 p (.lst (ys.map V.str))) := Same.new hp
    have inl : ∀ z ∈ ys, z ∈ l.map (·.1) := fun z hz => pm.mem_iff.mp hz
    have ny : Nms ys := fun z hz => by
      obtain ⟨q, hq, rfl⟩ := List.mem_map.mp (inl z hz)
      have := o2.nm_ q hq
      exact ⟨Nat.le_trans (nm_le this).2 (by decide), this⟩
    refine ⟨_, rfl, p, ys, rfl, .inl (SqL.of upd_same), ny, ?_⟩
    refine ⟨_, rfl, p, rfl, ⟨_, SqL.of upd_same⟩, ?_⟩
    refine for_list (xs := ys.map V.str) (fun i σ H' => H' = upd H1 p (.lst (ys.map V.str)) ∧ ∃ y, σ = [some (.ref gv), some (.ref ag), some (.ref rs), some (.ref p), y]) ⟨rfl, _, rfl⟩ (fun i σ H' _ ⟨e, _⟩ => by rw [e]; exact SqL.of upd_same) (fun i x σ H' hx ⟨e, y, eσ⟩ => ?_) (fun σ H' ⟨e, y, eσ⟩ => ?_)
    · subst e eσ
      rw [List.getElem?_map] at hx
      obtain ⟨z, hz, rfl⟩ := Option.map_eq_some_iff.mp hx
      obtain ⟨n, e1, e2⟩ := agIn (inl z (List.mem_of_getElem? hz))
      refine ⟨_, rfl, _, rfl, ag, .int n, rfl, ?_, n, rfl, o2.lo _ e2, o2.hi _ e2, true, rfl, iteF ⟨rfl, _, rfl⟩⟩
      rw [← e1]
      exact DGet.k (k := .inr z) (s2 _ _ (s1 _ _ h2))
    · subst e eσ
      refine ⟨_, rfl, rs, ws, rfl, (h3.same s1).same s2, o3.nms, ?_⟩
      exact ⟨_, rfl, rs, ws, rfl, (h3.same s1).same s2, by have := o3.few; omega, noRep_of o3.nr, fun H2 s3 => q H2 ((s1.trans s2).trans s3)⟩
theorem ok_cd {d : D3} {f : Addr} {fd : FuncData} (F : Fun K "check_deed" "check_deed" sCd f fd) (k : D3C K d) : FnOk P w K mg base CX0 1 f fd ["deed", "place", "known", "again"] (spCd K d) := by
  refine F.ok scCd (fun vs H Q E h => ?_) (fun cdv A outer s H vs Q E hr h => ?_)
  · obtain ⟨x, kn, ag, v, mk, us, ys, ws, l, rfl, _⟩ := h
    rfl
  · obtain ⟨x, kn, ag, v, mk, us, ys, ws, l, rfl, hD, hk, ha, hu1, hm, q⟩ := h
    have hu := hu_of hr
    have kc := k.at_ mk us
    obtain ⟨dx, p, r, g1, g2, g3⟩ := hD.dd
    refine ⟨_, (pss_cons (ps_for PassesOwn.never rfl (pi_tup (pe_fld (pv 0) rfl)) (pg_name (i := 4) scCd.nd rfl (Or.inl rfl)) (pss_one (ps_if (pt_cmpR op_notIn_seq (pv 4) (pv 2) rfl) pss_never pss_nil)))
      (pss_one (ps_if (pt_cmp (pc_dinN hu (pe_fld (pv 0) rfl) (pv 3))) pss_never pss_nil))), ?_⟩
    refine ⟨_, rfl, x, _, dx, _, _, rfl, g1, kc.cl, kc.nu, rfl, p, rfl, ⟨_, SqT.of g2⟩, ?_⟩
    refine for_tup (xs := us.map V.str) (fun i σ H' => H' = H ∧ ∃ y, σ = [some (.ref x), some v, some (.ref kn), some (.ref ag), y]) ⟨rfl, _, rfl⟩ (fun i σ H' _ ⟨e, _⟩ => by rw [e]; exact SqT.of g2) (fun i y σ H' hx ⟨e, y0, eσ⟩ => ?_) (fun σ H' ⟨e, y0, eσ⟩ => ?_)
    · subst e eσ
      rw [List.getElem?_map] at hx
      obtain ⟨z, hz, rfl⟩ := Option.map_eq_some_iff.mp hx
      refine ⟨_, rfl, _, rfl, kn, _, rfl, .inl hk, rfl, flat_strs ws, _, rfl, ?_⟩
      rw [if_pos rfl, inV_str, decide_eq_true (hu1 z (List.mem_of_getElem? hz))]
      exact iteF ⟨rfl, _, rfl⟩
    · subst e eσ
      refine ⟨_, rfl, x, _, dx, _, _, rfl, g1, kc.cl, kc.nk, rfl, _, rfl, ?_⟩
      cases mk with
      | none => exact .inr ⟨ag, _, rfl, rfl, .inl ha, false, rfl, iteF q⟩
      | some m =>
        refine .inl ⟨ag, none, rfl, ?_, false, rfl, iteF q⟩
        rw [← agOut (hm m rfl)]
        exact DGet.k (k := .inr m) ha
end
end K07

set_option Elab.async false
set_option linter.all false
set_option maxRecDepth 100000
set_option maxHeartbeats 4000000
/-! all_names, check_values. -/
namespace K07
open PySem L2 NX NU
open PyProof.Rows (sortedS)
abbrev sCv : Stmt := top 57
theorem scCv : FnScope ["parts", "given", "again", "results", "lasting", "part", "known", "index", "deed", "name"] ["parts", "given", "again", "results"] (defScope sCv) := ⟨rfl, rfl, rfl, by decide +kernel, rfl, by decide +kernel, by decide +kernel⟩
/-- the names of a deed -/
def Act.ns (a : Act) : List Str := a.1.toList ++ a.2
def actsN (as : List Act) : List Str := (as.map Act.ns).flatten
def Prg.upto (g : Prg) : Nat → List Act
  | 0 => []
  | n + 1 => g.upto n ++ (g.at n).getD []
def Prg.acts (g : Prg) : List Act := g.upto 5
theorem actsN_app (a b : List Act) : actsN (a ++ b) = actsN a ++ actsN b := by
  unfold actsN
  rw [List.map_append, List.flatten_append]
theorem IsD.names {d : D3} {H : Hp} {x : Addr} {mk : Option Str} {us ys : List Str} (h : IsD d H x mk us ys) : ys.length ≤ 4 := by
  have := h.asc.few (pool := mk.toList ++ us) fun z hz => hz
  rw [List.length_append] at this
  have := h.few
  have : mk.toList.length ≤ 1 := by cases mk <;> simp
  omega
/-- all but lists stays as it was -/
def KL (H H' : Hp) : Prop := ∀ b o, H b = some o → (∀ ys, o ≠ .lst ys) → H' b = some o
theorem KL.refl (H : Hp) : KL H H := fun _ _ h _ => h
theorem KL.of {H H' : Hp} (s : Same H H') : KL H H' := fun b o h _ => s b o h
theorem KL.trans {H H1 H2 : Hp} (a : KL H H1) (b : KL H1 H2) : KL H H2 := fun c o h n => b c o (a c o h n) n
theorem KL.put {H H' : Hp} {l : Addr} {xs ys : List V} (a : KL H H') (h : H' l = some (.lst xs)) : KL H (upd H' l (.lst ys)) := fun c o e n => by
  have q := a c o e n
  have ne : c ≠ l := fun z => by
    rw [z, h] at q
    exact n _ (Option.some.inj q).symm
  rw [upd_ne ne]
  exact q
theorem IsD.kl {d : D3} {H H' : Hp} {x : Addr} {mk : Option Str} {us ys : List Str} (s : KL H H') (h : IsD d H x mk us ys) : IsD d H' x mk us ys := by
  obtain ⟨⟨dx, p, q, a, b, c⟩, h1, h2, h3, h4⟩ := h
  exact ⟨⟨dx, p, q, s _ _ a (fun _ e => nomatch e), s _ _ b (fun _ e => nomatch e), s _ _ c (fun _ e => nomatch e)⟩, h1, h2, h3, h4⟩
theorem sqT_kl {K : PySem.W.Frag} {H H' : Hp} {a : Addr} {xs : List V} (s : KL H H') (h : SqT K H a xs) : SqT K H' a xs := by
  rcases h with (h | ⟨o, h⟩) | h
  · exact .inl (.inl (s _ _ h (fun _ e => nomatch e)))
  · exact .inl (.inr ⟨o, s _ _ h (fun _ e => nomatch e)⟩)
  · exact .inr h
theorem Deeds.kl {K : PySem.W.Frag} {d : D3} {H H' : Hp} {p : Addr} {as : List Act} (s : KL H H') (h : Deeds K d H p as) : Deeds K d H' p as := by
  obtain ⟨xs, e, l, k⟩ := h
  exact ⟨xs, sqT_kl s e, l, fun i x a e1 e2 => (k i x a e1 e2).imp fun _ q => q.kl s⟩
theorem PartA.kl {K : PySem.W.Frag} {d : D3} {H H' : Hp} {v : V} (s : KL H H') : ∀ {o : Option (List Act)}, PartA K d H v o → PartA K d H' v o
  | none, h => h
  | some _, ⟨p, e, h⟩ => ⟨p, e, h.kl s⟩
theorem PartsD.kl {K : PySem.W.Frag} {d : D3} {H H' : Hp} {P : Addr} {g : Prg} (s : KL H H') (h : PartsD K d H P g) : PartsD K d H' P g := by
  obtain ⟨v0, v1, v2, v3, v4, e, h0, h1, h2, h3, h4⟩ := h
  exact ⟨v0, v1, v2, v3, v4, s _ _ e (fun _ e => nomatch e), h0.kl s, h1.kl s, h2.kl s, h3.kl s, h4.kl s⟩
/-- a new list may change -/
theorem sameUpd {H H' : Hp} {l : Addr} {o : HO} (s : Same H H') (h : H l = none) : Same H (upd H' l o) := fun b u e => by
  have ne : b ≠ l := fun z => by rw [z, h] at e; cases e
  rw [upd_ne ne]
  exact s b u e
def spAn (K : PySem.W.Frag) (d : D3) : Sp := fun vs H Q _ => ∃ (P gv ag rs : Addr) (g : Prg) (us ws pool : List Str) (l : List (Str × Int)), vs = [.ref P, .ref gv, .ref ag, .ref rs] ∧ PartsD K d H P g ∧ NI.Sq K H gv (us.map V.str) ∧ AgD H ag l ∧ NI.Sq K H rs (ws.map V.str) ∧
  (∀ z ∈ us ++ l.map (·.1) ++ ws ++ actsN g.acts, z ∈ pool) ∧ pool.length ≤ 6 ∧ us.length + l.length + ws.length + 4 * g.acts.length ≤ 1000 ∧
  ∀ (ys : List Str) q H', Asc ys (us ++ l.map (·.1) ++ ws ++ actsN g.acts) → Same H H' → H q = none → H' q = some (.tup (ys.map V.str)) → Q (.ref q) H'
theorem Sq.sw {K : PySem.W.Frag} {H : Hp} {a : Addr} {xs : List V} (h : NI.Sq K H a xs) : SqT K H a xs ∨ SqL K H a xs := h.symm
theorem getLast {as : List Act} {i : Nat} {a : Act} (h : as[i]? = some a) : as.take (i + 1) = as.take i ++ [a] := by rw [List.take_add_one, h]; rfl
section
variable {P : Program} {w : World} {K : PySem.W.Frag} {mg : Str → Option Value} {base : Heap}
theorem ok_an {d : D3} {fN pN : Addr} {fdN : FuncData} {f : Addr} {fd : FuncData} (F : Fun K "all_names" "all_names" sAn f fd) (T : TxtB mg) (TQ : TxtQ mg K) (cAsc : C8.Cal P w K mg base 1 "ascending" (spAscM K) [])
    (FN : FnOk P w K mg base CX0 1 fN fdN ["self"] (spNames K d)) (hbN : Binds K fdN ["self"] []) (k : D3C K d) (q1 : PropOf K d.u "names" pN fN) (q2 : PropOf K d.m "names" pN fN) (q3 : PropOf K d.d "names" pN fN) :
    FnOk P w K mg base CX0 3 f fd ["parts", "given", "again", "results"] (spAn K d) := by
  refine F.ok scAn (fun vs H Q E h => ?_) (fun cdv A outer s H vs Q E hr h => ?_)
  · obtain ⟨a, b, c, e, g, us, ws, pool, l, rfl, _⟩ := h
    rfl
  · obtain ⟨p, gv, ag, rs, g, us, ws, pool, l, rfl, hP, h1, h2, h3, hpool, h6, hsz, q⟩ := h
    have hu := hu_of hr
    obtain ⟨aP, gP, sP⟩ := TQ.parts
    obtain ⟨t1, e1⟩ := TQ.mn
    refine ⟨_, (pss_cons (ps_set (i := 4) scAn.nd rfl (Or.inl rfl) (pe_lst (StX.pa_star (pv 1) (NSD.pa_starD rfl (pv 2) (StX.pa_star (pv 3) pa_nil)))))
      (pss_cons (ps_for PassesOwn.never rfl (pi_tup (C8.pe_gc (v := .ref aP) rfl ⟨_, gP, rfl⟩)) (pg_name (i := 5) scAn.nd rfl (Or.inl rfl))
        (pss_one (ps_for PassesOwn.never rfl (pi_tup (pe_orT (pe_dget hu (pv 0) (pv 5) (fun _ _ => rfl)) (pe_one (pe_tup pa_nil)))) (pg_name (i := 6) scAn.nd rfl (Or.inl rfl))
          (pss_one (ps_expr (pe_bm PySem.F.plainAttrs_list PySem.F.slot_list_extend PySem.F.type_list_extend NEX.mt_extendT (pv 4) (pa_cons (NX.pe_propG (pv 6) FN (hr.mono (by decide)) hbN pass0 rfl) pa_nil)))))))
      (pss_cons (ps_if (pt_cmpR op_gt (pe_callB call_len_seq (by rfl) T.blen (by decide +kernel) (pa_cons (C8.pe_c cAsc hr (by decide) rfl (pa_cons (pv 4) pa_nil)) pa_nil)) (pe_glob (v := .int 6) rfl e1 ⟨_, rfl⟩) (nomark _)) pss_never pss_nil)
      (pss_one (ps_ret (C8.pe_c cAsc hr (by decide) rfl (pa_cons (pv 4) pa_nil))))))), ?_⟩
    have z1000 : (1000 : Nat) ≤ sizeLine := by decide
    refine ⟨_, rfl, gv, _, rfl, h1.symm, _, rfl, ag, _, l.map (·.1), rfl, .inl h2, agKeys l, _, rfl, rs, _, rfl, h3.symm, ?_⟩
    dsimp only [tNil]
    rw [List.append_nil, ← List.map_append, ← List.map_append]
    have e0 : us ++ (l.map (·.1) ++ ws) = us ++ l.map (·.1) ++ ws := by rw [List.append_assoc]
    rw [e0]
    obtain ⟨ws0, hws0⟩ : ∃ ws0, us ++ l.map (·.1) ++ ws = ws0 := ⟨_, rfl⟩
    have l0 : ws0.length = us.length + l.length + ws.length := by rw [← hws0, List.length_append, List.length_append, List.length_map]
    rw [hws0] at hpool q ⊢
    refine ⟨by rw [List.length_map]; exact Nat.le_trans (by omega) z1000, fun N hN => ?_⟩
    have sN : Same H (upd H N (.lst (ws0.map V.str))) := Same.new hN
    refine ⟨aP, rfl, ⟨_, sP _⟩, for_tup (xs := partN.map V.str) (fun i σ H' => Same H H' ∧ (∃ xs : List Str, H' N = some (.lst (xs.map V.str)) ∧ (∀ y, y ∈ xs ↔ y ∈ ws0 ++ actsN (g.upto i)) ∧ xs.length ≤ ws0.length + 4 * (g.upto i).length) ∧ ∃ x5 x6, σ = [some (.ref p), some (.ref gv), some (.ref ag), some (.ref rs), some (.ref N), x5, x6])
      ⟨sN, ⟨ws0, upd_same, fun y => by show _ ↔ y ∈ ws0 ++ []; rw [List.append_nil], Nat.le_add_right _ _⟩, _, _, rfl⟩ (fun i σ H' _ _ => sP H') (fun i x σ H' hx ⟨s1, ⟨xs, gN, mm, lx⟩, x5, x6, eσ⟩ => ?_) (fun σ H' ⟨s1, ⟨xs, gN, mm, lx⟩, x5, x6, eσ⟩ => ?_)⟩
    · subst eσ
      rw [List.getElem?_map] at hx
      obtain ⟨z, hz, rfl⟩ := Option.map_eq_some_iff.mp hx
      obtain ⟨v, hg, ha⟩ := (hP.same s1).get i hz
      obtain ⟨i5, ez⟩ := partF hz
      have up : (g.upto (i + 1)) = g.upto i ++ (g.at i).getD [] := rfl
      have tot' : (g.upto (i + 1)).length ≤ g.acts.length := by
        have : i = 0 ∨ i = 1 ∨ i = 2 ∨ i = 3 ∨ i = 4 := by omega
        rcases this with rfl | rfl | rfl | rfl | rfl <;> simp only [Prg.acts, Prg.upto, List.length_append] <;> omega
      refine ⟨_, rfl, _, rfl, p, v, rfl, hg, ha.or fun p2 H2 s2 hd => ?_⟩
      obtain ⟨as, eas⟩ : ∃ as, as = (g.at i).getD [] := ⟨_, rfl⟩
      rw [← eas] at hd up
      obtain ⟨xd, hx2, hal⟩ := hd
      refine ⟨p2, rfl, ⟨_, hx2⟩, ?_⟩
      refine for_tup (xs := xd.map V.ref) (fun j σ H' => Same H H' ∧ KL H2 H' ∧ (∃ xs : List Str, H' N = some (.lst (xs.map V.str)) ∧ (∀ y, y ∈ xs ↔ y ∈ ws0 ++ actsN (g.upto i ++ as.take j)) ∧ xs.length ≤ ws0.length + 4 * ((g.upto i).length + j)) ∧ ∃ x6, σ = [some (.ref p), some (.ref gv), some (.ref ag), some (.ref rs), some (.ref N), some (.str z), x6])
        ⟨s1.trans s2, KL.refl H2, ⟨xs, s2 _ _ gN, fun y => by rw [List.take_zero, List.append_nil]; exact mm y, by omega⟩, _, rfl⟩ (fun j σ H' _ ⟨_, s3, _⟩ => sqT_kl s3 hx2) (fun j x σ H' hx ⟨s4, s3, ⟨xs, gN, mm, lx⟩, x6, eσ⟩ => ?_) (fun σ H' ⟨s4, s3, ⟨xs, gN, mm, lx⟩, x6, eσ⟩ => ?_)
      · subst eσ
        rw [List.getElem?_map] at hx
        obtain ⟨x, hxj, rfl⟩ := Option.map_eq_some_iff.mp hx
        have hj : j < as.length := by rw [← hal.1]; exact (List.getElem?_eq_some_iff.mp hxj).1
        obtain ⟨a, haj⟩ : ∃ a, as[j]? = some a := ⟨_, List.getElem?_eq_getElem hj⟩
        obtain ⟨ys, hD⟩ := hal.2 j x a hxj haj
        have hD := hD.kl s3
        have y4 := hD.names
        obtain ⟨dx, pu, pn, d1, d2, d3⟩ := id hD.dd
        have kc := k.at_ a.1 a.2
        refine ⟨_, rfl, .inl ⟨rfl, _, SqL.of gN⟩, _, rfl, x, _, dx, _, _, rfl, d1, kc.cl, of3 (φ := fun C => PropOf K C "names" pN fN) q1 q2 q3, ?_⟩
        refine ⟨x, a.1, a.2, ys, rfl, hD, fun r hr2 => ?_⟩
        rw [up, List.length_append] at tot'
        refine ⟨N, r, _, _, rfl, rfl, gN, SqT.of hr2, by rw [List.length_map, List.length_map]; exact Nat.le_trans (by omega) z1000, ?_⟩
        refine ⟨sameUpd s4 hN, s3.put gN, ⟨xs ++ ys, upd_same.trans (by rw [List.map_append]), fun y => ?_, by rw [List.length_append]; omega⟩, _, rfl⟩
        rw [getLast haj, ← List.append_assoc (g.upto i), actsN_app, ← List.append_assoc, List.mem_append, List.mem_append (s := ws0 ++ _), mm y, hD.asc.2.2 y]
        show _ ∨ _ ↔ _ ∨ y ∈ (([a] : List Act).map Act.ns).flatten
        simp [Act.ns]
      · subst eσ
        rw [List.length_map, hal.1, List.take_length] at mm
        rw [List.length_map, hal.1] at lx
        exact ⟨s4, ⟨xs, gN, by rw [up]; exact mm, by rw [up, List.length_append]; exact lx⟩, _, _, rfl⟩
    · subst eσ
      have mm : ∀ y, y ∈ xs ↔ y ∈ ws0 ++ actsN g.acts := mm
      have lx : xs.length ≤ ws0.length + 4 * g.acts.length := lx
      have hp2 : ∀ z ∈ xs, z ∈ pool := fun z hz => hpool z ((mm z).mp hz)
      refine ⟨_, rfl, N, xs, pool, rfl, .inl (SqL.of gN), by omega, hp2, by omega, fun ys q3 H3 asc s3 hq3 g3 => ?_⟩
      have := asc.few hp2
      refine ⟨q3, _, rfl, .inr (SqT.of g3), _, 6, rfl, rfl, _, rfl, ite2 (fun h => ?_) (fun _ => ?_)⟩
      · have h := of_decide_eq_true h
        rw [List.length_map] at h
        exfalso
        omega
      · refine ⟨_, rfl, N, xs, pool, rfl, .inl (SqL.of (s3 _ _ gN)), by omega, hp2, by omega, fun ys q4 H4 asc s4 hq4 g4 => ?_⟩
        exact q ys q4 H4 ⟨asc.1, asc.2.1, fun y => (asc.2.2 y).trans (mm y)⟩ ((s1.trans s3).trans s4) (by
          have := hq4
          cases e : H q4 with
          | none => rfl
          | some o => rw [s3 _ _ (s1 _ _ e)] at this; cases this) g4
end
end K07

set_option Elab.async false
set_option linter.all false
set_option maxRecDepth 100000
set_option maxHeartbeats 4000000
/-! check_values. -/
namespace K07
open PySem L2 NX NU
open PyProof.Rows (sortedS)
def UsesOk (ag : List Str) : List Str → List Act → Prop
  | _, [] => True
  | kn, a :: r => (∀ z ∈ a.2, z ∈ kn) ∧ (∀ m, a.1 = some m → m ∉ ag) ∧ UsesOk ag (kn ++ a.1.toList) r
def aft (kn : List Str) (as : List Act) : List Str := kn ++ (as.map fun a => a.1.toList).flatten
theorem aft_nil (kn : List Str) : aft kn [] = kn := List.append_nil kn
theorem aft_snoc (kn : List Str) (as : List Act) (a : Act) : aft kn (as ++ [a]) = aft kn as ++ a.1.toList := by
  unfold aft
  rw [List.map_append, List.flatten_append, List.append_assoc]
  simp
theorem aft_cons (kn : List Str) (as : List Act) (a : Act) : aft kn (a :: as) = aft (kn ++ a.1.toList) as := by
  unfold aft
  rw [List.map_cons, List.flatten_cons, List.append_assoc]
theorem aft_len (kn : List Str) : ∀ as : List Act, (aft kn as).length ≤ kn.length + as.length
  | [] => by rw [aft_nil]; exact Nat.le_add_right _ _
  | a :: r => by
    have := aft_len (kn ++ a.1.toList) r
    have h : a.1.toList.length ≤ 1 := by cases a.1 <;> simp
    rw [aft_cons]
    rw [List.length_append] at this
    rw [List.length_cons]
    omega
theorem usesAt {ag : List Str} : ∀ {as : List Act} {kn : List Str} {j : Nat} {a : Act}, UsesOk ag kn as → as[j]? = some a → (∀ z ∈ a.2, z ∈ aft kn (as.take j)) ∧ ∀ m, a.1 = some m → m ∉ ag
  | [], _, _, _, _, h => nomatch h
  | b :: r, kn, 0, a, u, h => by
    cases h
    rw [List.take_zero, aft_nil]
    exact ⟨u.1, u.2.1⟩
  | b :: r, kn, j + 1, a, u, h => by
    rw [List.take_succ_cons, aft_cons]
    exact usesAt u.2.2 h
def Prg.lastAt (g : Prg) (bs : List Str) : Nat → List Str
  | 0 => bs
  | n + 1 => if n = 1 ∨ n = 3 then g.lastAt bs n else aft (g.lastAt bs n) ((g.at n).getD [])
theorem lastLen (g : Prg) (bs : List Str) : ∀ n, (g.lastAt bs n).length ≤ bs.length + (g.upto n).length
  | 0 => Nat.le_add_right _ _
  | n + 1 => by
    have ih := lastLen g bs n
    show (if n = 1 ∨ n = 3 then g.lastAt bs n else aft (g.lastAt bs n) ((g.at n).getD [])).length ≤ bs.length + (g.upto n ++ (g.at n).getD []).length
    rw [List.length_append]
    split
    · omega
    · have := aft_len (g.lastAt bs n) ((g.at n).getD [])
      omega
theorem uptoLe (g : Prg) {i : Nat} (h : i < 5) : (g.upto i).length + ((g.at i).getD []).length ≤ g.acts.length := by
  have : i = 0 ∨ i = 1 ∨ i = 2 ∨ i = 3 ∨ i = 4 := by omega
  rcases this with rfl | rfl | rfl | rfl | rfl <;> simp only [Prg.acts, Prg.upto, List.length_append] <;> omega
/-- what the walk over the parts asks -/
structure Prg.VOk (g : Prg) (bs ag rs : List Str) : Prop where
  uses : ∀ i, i < 5 → UsesOk ag (g.lastAt bs i) ((g.at i).getD [])
  res : ∀ z ∈ rs, z ∈ g.lastAt bs 5
def spCv (K : PySem.W.Frag) (d : D3) : Sp := fun vs H Q _ => ∃ (P gv ag rs : Addr) (g : Prg) (us ws : List Str) (l : List (Str × Int)), vs = [.ref P, .ref gv, .ref ag, .ref rs] ∧ PartsD K d H P g ∧ NI.Sq K H gv (us.map V.str) ∧ AgD H ag l ∧ NI.Sq K H rs (ws.map V.str) ∧
  ws.length < 60 ∧ us.length + l.length + g.acts.length ≤ 1000 ∧ g.VOk (us ++ l.map (·.1)) (l.map (·.1)) ws ∧ ∀ H', Same H H' → Q .non H'
theorem partL {i : Nat} {z : Str} (h : partN[i]? = some z) : inV (V.str z) (([ "loop", "second" ] : List Str).map V.str) = decide (i = 1 ∨ i = 3) := by
  match i, h with
  | 0, h => cases h; decide +kernel
  | 1, h => cases h; decide +kernel
  | 2, h => cases h; decide +kernel
  | 3, h => cases h; decide +kernel
  | 4, h => cases h; decide +kernel
  | n + 5, h => cases h
section
variable {P : Program} {w : World} {K : PySem.W.Frag} {mg : Str → Option Value} {base : Heap}
theorem ok_cv {d : D3} {f : Addr} {fd : FuncData} (F : Fun K "check_values" "check_values" sCv f fd) (T : TxtB mg) (TQ : TxtQ mg K) (k : D3C K d) (cAsc : C8.Cal P w K mg base 1 "ascending" (spAscM K) []) (cCd : C8.Cal P w K mg base 1 "check_deed_partchecks" (spCd K d) []) :
    FnOk P w K mg base CX0 2 f fd ["parts", "given", "again", "results"] (spCv K d) := by
  refine F.ok scCv (fun vs H Q E h => ?_) (fun cdv A outer s H vs Q E hr h => ?_)
  · obtain ⟨a, b, c, e, g, us, ws, l, rfl, _⟩ := h
    rfl
  · obtain ⟨p, gv, ag, rs, g, us, ws, l, rfl, hP, h1, h2, h3, hws, hsz, vo, q⟩ := h
    have hu := hu_of hr
    obtain ⟨aP, gP, sP⟩ := TQ.parts
    obtain ⟨aL, gL, sL⟩ := TQ.loops
    refine ⟨_, (pss_cons (ps_set (i := 4) scCv.nd rfl (Or.inl rfl) (pe_lst (StX.pa_star (pv 1) (NSD.pa_starD rfl (pv 2) pa_nil))))
      (pss_cons (ps_for PassesOwn.never rfl (pi_tup (C8.pe_gc (v := .ref aP) rfl ⟨_, gP, rfl⟩)) (pg_name (i := 5) scCv.nd rfl (Or.inl rfl))
        (pss_cons (ps_set (i := 6) scCv.nd rfl (Or.inl rfl) (pe_callTy call_list_of (by rfl) T.blist (by decide +kernel) (pa_cons (pv 4) pa_nil)))
        (pss_cons (ps_for PassesOwn.never rfl (NEn.pi_ent (by rfl) T.benumerate (pa_cons (pe_orT (pe_dget hu (pv 0) (pv 5) (fun _ _ => rfl)) (pe_one (pe_tup pa_nil))) pa_nil)) (pg_tup rfl (pgs_cons (pg_name (i := 7) scCv.nd rfl (Or.inl rfl)) (pgs_cons (pg_name (i := 8) scCv.nd rfl (Or.inl rfl)) pgs_nil)))
          (pss_cons (ps_expr (C8.pe_c cCd hr (by decide) rfl (pa_cons (pv 8) (pa_cons (pe_tup (pa_cons (pv 5) (pa_cons (pv 7) pa_nil))) (pa_cons (pv 6) (pa_cons (pv 2) pa_nil))))))
          (pss_one (ps_if (pt_cmpR op_notN (pe_fld (pv 8) rfl) pe_non (nomark _)) (pss_one (ps_expr (pe_bm PySem.F.plainAttrs_list PySem.F.slot_list_append PySem.F.type_list_append mt_append (pv 6) (pa_cons (pe_fld (pv 8) rfl) pa_nil)))) pss_nil))))
        (pss_one (ps_if (pt_cmpR op_notIn_seq (pv 5) (C8.pe_gc (v := .ref aL) rfl ⟨_, gL, rfl⟩) rfl) (pss_one (ps_set (i := 4) scCv.nd rfl (Or.inl rfl) (pv 6))) pss_nil)))))
      (pss_one (ps_for PassesOwn.never rfl (pi_tup (C8.pe_c cAsc hr (by decide) rfl (pa_cons (pv 3) pa_nil))) (pg_name (i := 9) scCv.nd rfl (Or.inl rfl)) (pss_one (ps_if (pt_cmpR op_notIn_seq (pv 9) (pv 4) rfl) pss_never pss_nil)))))), ?_⟩
    have z1000 : (1000 : Nat) < sizeLine := by decide
    refine ⟨_, rfl, gv, _, rfl, h1.symm, _, rfl, ag, _, l.map (·.1), rfl, .inl h2, agKeys l, ?_⟩
    dsimp only [tNil]
    rw [List.append_nil, ← List.map_append]
    obtain ⟨bs, hbs⟩ : ∃ bs, us ++ l.map (·.1) = bs := ⟨_, rfl⟩
    have lb : bs.length = us.length + l.length := by rw [← hbs, List.length_append, List.length_map]
    rw [hbs] at vo ⊢
    refine ⟨by rw [List.length_map]; exact Nat.le_trans (by omega) (Nat.le_of_lt z1000), fun N hN => ?_⟩
    refine ⟨aP, rfl, ⟨_, sP _⟩, for_tup (xs := partN.map V.str) (fun i σ H' => Same H H' ∧ ∃ L x5 x6 x7 x8 x9, H' L = some (.lst ((g.lastAt bs i).map V.str)) ∧ σ = [some (.ref p), some (.ref gv), some (.ref ag), some (.ref rs), some (.ref L), x5, x6, x7, x8, x9])
      ⟨Same.new hN, N, _, _, _, _, _, upd_same, rfl⟩ (fun i σ H' _ _ => sP H') (fun i x σ H' hx ⟨s1, L, x5, x6, x7, x8, x9, gL1, eσ⟩ => ?_) (fun σ H' ⟨s1, L, x5, x6, x7, x8, x9, gL1, eσ⟩ => ?_)⟩
    · subst eσ
      rw [List.getElem?_map] at hx
      obtain ⟨z, hz, rfl⟩ := Option.map_eq_some_iff.mp hx
      obtain ⟨i5, ez⟩ := partF hz
      have uo := vo.uses i i5
      have up := uptoLe g i5
      have ll := lastLen g bs i
      obtain ⟨kn, hkn⟩ : ∃ kn, kn = g.lastAt bs i := ⟨_, rfl⟩
      rw [← hkn] at gL1 uo ll
      refine ⟨_, rfl, L, _, rfl, .inl (SqL.of gL1), fun Kn hKn => ?_⟩
      have sK := Same.new (o := .lst (kn.map V.str)) hKn
      have gK : (upd H' Kn (.lst (kn.map V.str))) Kn = some (.lst (kn.map V.str)) := upd_same
      have nKL : L ≠ Kn := ne_of_none gL1 hKn
      have gL1 := sK _ _ gL1
      have hKH : H Kn = none := by
        cases e : H Kn with
        | none => rfl
        | some o => rw [s1 _ _ e] at hKn; cases hKn
      have s2 := s1.trans sK
      clear s1 sK hKn
      generalize (upd H' Kn (.lst (kn.map V.str))) = H2 at *
      obtain ⟨v, hg, ha⟩ := (hP.same s2).get i hz
      refine ⟨_, rfl, _, rfl, p, v, rfl, hg, ha.or fun p2 H3 s3 hd => ?_⟩
      obtain ⟨as, eas⟩ : ∃ as, as = (g.at i).getD [] := ⟨_, rfl⟩
      rw [← eas] at hd uo up
      obtain ⟨xd, hx2, hal⟩ := hd
      refine ⟨p2, _, rfl, hx2, ?_⟩
      refine NEn.for_ent (xs := xd.map V.ref) (fun j σ H' => Same H H' ∧ KL H3 H' ∧ H' L = some (.lst (kn.map V.str)) ∧ H' Kn = some (.lst ((aft kn (as.take j)).map V.str)) ∧ ∃ x7 x8, σ = [some (.ref p), some (.ref gv), some (.ref ag), some (.ref rs), some (.ref L), some (.str z), some (.ref Kn), x7, x8, x9])
        ⟨s2.trans s3, KL.refl H3, s3 _ _ gL1, s3 _ _ (by rw [List.take_zero, aft_nil]; exact gK), _, _, rfl⟩ (fun j σ H' _ ⟨_, s4, _⟩ => sqT_kl s4 hx2) (fun j x σ H' T hx ⟨s4, s5, gL2, gK2, x7, x8, eσ⟩ hT => ?_) (fun σ H' ⟨s4, s5, gL2, gK2, x7, x8, eσ⟩ => ?_)
      · subst eσ
        rw [List.getElem?_map] at hx
        obtain ⟨x, hxj, rfl⟩ := Option.map_eq_some_iff.mp hx
        have hj : j < as.length := by rw [← hal.1]; exact (List.getElem?_eq_some_iff.mp hxj).1
        obtain ⟨a, haj⟩ : ∃ a, as[j]? = some a := ⟨_, List.getElem?_eq_getElem hj⟩
        obtain ⟨ys, hD⟩ := hal.2 j x a hxj haj
        obtain ⟨u1, u2⟩ := usesAt uo haj
        have sT : Same H' (upd H' T (.tup [.int (j : Nat), .ref x])) := Same.new hT
        refine ⟨T, _, rfl, SqT.of upd_same, rfl, _, _, rfl, _, _, rfl, rfl, ?_⟩
        have s4 := s4.trans sT
        have s5 := s5.trans (KL.of sT)
        have gL2 := sT _ _ gL2
        have gK2 := sT _ _ gK2
        clear sT hT
        generalize (upd H' T (.tup [.int (j : Nat), .ref x])) = H4 at *
        refine ⟨_, rfl, _, rfl, _, rfl, by show 2 ≤ sizeLine; decide, fun T2 hT2 => ?_⟩
        have sT : Same H4 (upd H4 T2 (.tup [.str z, .int (j : Nat)])) := Same.new hT2
        have s4 := s4.trans sT
        have s5 := s5.trans (KL.of sT)
        have gL2 := sT _ _ gL2
        have gK2 := sT _ _ gK2
        clear sT hT2
        generalize (upd H4 T2 (.tup [.str z, .int (j : Nat)])) = H5 at *
        have hD := hD.kl s5
        have kc := k.at_ a.1 a.2
        obtain ⟨dx, pu, pn, d1, d2, d3⟩ := id hD.dd
        refine ⟨_, rfl, _, rfl, x, Kn, ag, _, a.1, a.2, ys, _, l, rfl, hD, SqL.of gK2, s4 _ _ h2, u1, u2, ?_⟩
        refine ⟨_, rfl, x, _, dx, _, _, rfl, d1, kc.cl, kc.nk, rfl, rfl, _, rfl, ?_⟩
        have lk := aft_len kn (as.take j)
        rw [List.length_take] at lk
        cases ea : a.1 with
        | none =>
          refine iteF ⟨s4, s5, gL2, ?_, _, _, rfl⟩
          rw [getLast haj, aft_snoc, ea]
          show _ = some (HO.lst ((aft kn (as.take j) ++ []).map V.str))
          rw [List.append_nil]
          exact gK2
        | some m =>
          refine iteT ⟨_, rfl, .inl ⟨rfl, _, SqL.of gK2⟩, _, rfl, x, _, dx, _, _, rfl, d1, kc.cl, kc.nk, rfl, ?_⟩
          rw [ea]
          refine ⟨Kn, _, _, rfl, rfl, gK2, by rw [List.length_map]; exact Nat.lt_of_le_of_lt (by omega) z1000, ?_⟩
          refine ⟨sameUpd s4 hKH, s5.put gK2, (upd_ne nKL).trans gL2, ?_, _, _, rfl⟩
          rw [getLast haj, aft_snoc, ea]
          exact upd_same.trans (by rw [List.map_append]; rfl)
      · subst eσ
        rw [List.length_map, hal.1, List.take_length] at gK2
        refine ⟨_, rfl, aL, _, rfl, .inr (sL _), rfl, by decide +kernel, _, rfl, ?_⟩
        rw [if_pos rfl, partL hz]
        have e9 : g.lastAt bs (i + 1) = if i = 1 ∨ i = 3 then kn else aft kn as := by rw [hkn, eas]; rfl
        by_cases hL : i = 1 ∨ i = 3
        · rw [decide_eq_true hL]
          rw [if_pos hL] at e9
          exact iteF ⟨s4, L, _, _, _, _, _, by rw [e9]; exact gL2, rfl⟩
        · rw [decide_eq_false hL]
          rw [if_neg hL] at e9
          exact iteT ⟨_, rfl, s4, Kn, _, _, _, _, _, by rw [e9]; exact gK2, rfl⟩
    · subst eσ
      have gL1 : H' L = some (.lst ((g.lastAt bs 5).map V.str)) := gL1
      refine ⟨_, rfl, rs, ws, ws, rfl, h3.same s1, by omega, fun _ h => h, by omega, fun ys q2 H2 asc s2 hq2 g2 => ?_⟩
      refine ⟨q2, rfl, ⟨_, SqT.of g2⟩, ?_⟩
      refine for_tup (xs := ys.map V.str) (fun i σ H' => H' = H2 ∧ ∃ x9, σ = [some (.ref p), some (.ref gv), some (.ref ag), some (.ref rs), some (.ref L), x5, x6, x7, x8, x9]) ⟨rfl, _, rfl⟩ (fun i σ H' _ ⟨e, _⟩ => by rw [e]; exact SqT.of g2) (fun i x σ H' hx ⟨e, y, eσ⟩ => ?_) (fun σ H' ⟨e, _⟩ => by rw [e]; exact q H2 (s1.trans s2))
      subst e eσ
      rw [List.getElem?_map] at hx
      obtain ⟨z, hz, rfl⟩ := Option.map_eq_some_iff.mp hx
      refine ⟨_, rfl, _, rfl, L, _, rfl, .inl (SqL.of (s2 _ _ gL1)), rfl, flat_strs _, _, rfl, ?_⟩
      rw [if_pos rfl, inV_str, decide_eq_true (vo.res z ((asc.2.2 z).mp (List.mem_of_getElem? hz)))]
      exact iteF ⟨rfl, _, rfl⟩
end
end K07

set_option Elab.async false
set_option linter.all false
set_option maxRecDepth 100000
set_option maxHeartbeats 4000000
/-! Program.__init__. -/
namespace K07
open PySem L2 NX NU
open PyProof.Rows (sortedS)
abbrev sPi : Stmt := inClass (top 66) 0
abbrev NPi : List Str := ["self", "ahead", "loop", "between", "second", "behind", "given", "again", "results", "parts", "prices"]
abbrev pPi : List Str := ["self", "ahead", "loop", "between", "second", "behind", "given", "again", "results"]
theorem scPi : FnScope NPi pPi (defScope sPi) := ⟨rfl, rfl, rfl, by decide +kernel, rfl, by decide +kernel, by decide +kernel⟩
def InA (K : PySem.W.Frag) (d : D3) (H : Hp) (v : V) (as : List Act) : Prop := ∃ (p : Addr) (xs : List Addr), v = .ref p ∧ NI.Sq K H p (xs.map V.ref) ∧ AllAt d H xs as
def InO (K : PySem.W.Frag) (d : D3) (H : Hp) (v : V) : Option (List Act) → Prop
  | none => v = .non
  | some as => InA K d H v as
theorem InA.same {K : PySem.W.Frag} {d : D3} {H H' : Hp} {v : V} {as : List Act} (s : Same H H') (h : InA K d H v as) : InA K d H' v as := by
  obtain ⟨p, xs, e, a, b⟩ := h
  exact ⟨p, xs, e, a.same s, b.same s⟩
theorem InO.same {K : PySem.W.Frag} {d : D3} {H H' : Hp} {v : V} (s : Same H H') : ∀ {o : Option (List Act)}, InO K d H v o → InO K d H' v o
  | none, h => h
  | some _, h => InA.same s h
/-- tuple(deeds) -/
theorem InA.tup {K : PySem.W.Frag} {d : D3} {H : Hp} {v : V} {as : List Act} {Q : VK} (h : InA K d H v as) (q : ∀ p H', Same H H' → Deeds K d H' p as → Q (.ref p) H') :
    ∃ p ys, [v] = [V.ref p] ∧ ((SqL K H p ys ∧ ∀ l, H l = none → Q (.ref l) (upd H l (.tup ys))) ∨ (SqT K H p ys ∧ Q (.ref p) H)) := by
  obtain ⟨p, xs, rfl, hs, b⟩ := h
  rcases hs with hs | hs
  · exact ⟨p, _, rfl, .inl ⟨hs, fun l hl => q l _ (Same.new hl) ⟨xs, SqT.of upd_same, b.same (Same.new hl)⟩⟩⟩
  · exact ⟨p, _, rfl, .inr ⟨hs, q p H (Same.refl H) ⟨xs, hs, b⟩⟩⟩
/-- tuple(v), v a list or a tuple of deeds -/
theorem tupR {K : PySem.W.Frag} {d : D3} {H : Hp} {v : V} {as : List Act} {i : Nat} {σ : L2.St} {Q : VK} (hσ : σ[i]? = some (some v)) (h : InA K d H v as) (q : ∀ p H', Same H H' → Deeds K d H' p as → Q (.ref p) H') :
    tCB (fun xs H Q => ∃ p ys, xs = [V.ref p] ∧ ((SqL K H p ys ∧ ∀ l, H l = none → Q (.ref l) (upd H l (.tup ys))) ∨ (SqT K H p ys ∧ Q (.ref p) H))) (tCons (tVar i) tNil) σ H Q := ⟨v, hσ, InA.tup (Q := Q) h q⟩
theorem optR {K : PySem.W.Frag} {d : D3} {H : Hp} {v : V} {o : Option (List Act)} {i : Nat} {σ : L2.St} {Q : VK} (hσ : σ[i]? = some (some v)) (h : InO K d H v o) (q : ∀ v' H', Same H H' → PartA K d H' v' o → Q v' H') :
    tIf (tTest (tOp (fun x y H Q => y = V.non ∧ Q (V.bl (decide (x = V.non))) H) (tVar i) (tC V.non))) (tC V.non) (tCB (fun xs H Q => ∃ p ys, xs = [V.ref p] ∧ ((SqL K H p ys ∧ ∀ l, H l = none → Q (.ref l) (upd H l (.tup ys))) ∨ (SqT K H p ys ∧ Q (.ref p) H))) (tCons (tVar i) tNil)) σ H Q := by
  refine ⟨v, hσ, rfl, _, rfl, ?_⟩
  cases o with
  | none =>
    obtain rfl : v = .non := h
    exact iteT (q _ H (Same.refl H) rfl)
  | some as =>
    refine ite2 (fun e => ?_) (fun _ => tupR hσ h fun p H' s h2 => q _ H' s ⟨p, rfl, h2⟩)
    obtain ⟨p, xs, rfl, _⟩ := h
    exact absurd (of_decide_eq_true e) (fun z => nomatch z)
theorem IsD.put {d : D3} {H : Hp} {x : Addr} {mk : Option Str} {us ys : List Str} {y C dy : Addr} {fs : List (Str × V)} {o : HO} (hy : H y = some (.ins C dy fs)) (hf : ∀ v r, fs ≠ (Str.ofString "uses", v) :: r) (h : IsD d H x mk us ys) : IsD d (upd H y o) x mk us ys := by
  obtain ⟨⟨dx, p, q, a, b, c⟩, h1, h2, h3, h4⟩ := h
  refine ⟨⟨dx, p, q, ?_, ?_, ?_⟩, h1, h2, h3, h4⟩
  · rw [upd_ne (fun e => by rw [e, hy] at a; injection a with a; injection a with a1 a2 a3; exact hf _ _ a3)]; exact a
  · rw [upd_ne (fun e => by rw [e, hy] at b; cases b)]; exact b
  · rw [upd_ne (fun e => by rw [e, hy] at c; cases c)]; exact c
theorem Deeds.put {K : PySem.W.Frag} {d : D3} {H : Hp} {p : Addr} {as : List Act} {y C dy : Addr} {fs : List (Str × V)} {o : HO} (hy : H y = some (.ins C dy fs)) (hf : ∀ v r, fs ≠ (Str.ofString "uses", v) :: r) (h : Deeds K d H p as) : Deeds K d (upd H y o) p as := by
  obtain ⟨xs, e, l, k⟩ := h
  exact ⟨xs, NI.sqT_put hy e, l, fun i x a e1 e2 => (k i x a e1 e2).imp fun _ q => q.put hy hf⟩
theorem PartA.put {K : PySem.W.Frag} {d : D3} {H : Hp} {v : V} {y C dy : Addr} {fs : List (Str × V)} {o : HO} (hy : H y = some (.ins C dy fs)) (hf : ∀ v r, fs ≠ (Str.ofString "uses", v) :: r) : ∀ {q : Option (List Act)}, PartA K d H v q → PartA K d (upd H y o) v q
  | none, h => h
  | some _, ⟨p, e, h⟩ => ⟨p, e, h.put hy hf⟩
theorem PartsD.put {K : PySem.W.Frag} {d : D3} {H : Hp} {P : Addr} {g : Prg} {y C dy : Addr} {fs : List (Str × V)} {o : HO} (hy : H y = some (.ins C dy fs)) (hf : ∀ v r, fs ≠ (Str.ofString "uses", v) :: r) (h : PartsD K d H P g) : PartsD K d (upd H y o) P g := by
  obtain ⟨v0, v1, v2, v3, v4, e, h0, h1, h2, h3, h4⟩ := h
  exact ⟨v0, v1, v2, v3, v4, (upd_ne (fun z => by rw [z, hy] at e; cases e)).trans e, h0.put hy hf, h1.put hy hf, h2.put hy hf, h3.put hy hf, h4.put hy hf⟩
/-- all but dicts stays as it was -/
def KD (H H' : Hp) : Prop := ∀ b o, H b = some o → (∀ ys, o ≠ .dK ys) → H' b = some o
theorem IsD.kd {d : D3} {H H' : Hp} {x : Addr} {mk : Option Str} {us ys : List Str} (s : KD H H') (h : IsD d H x mk us ys) : IsD d H' x mk us ys := by
  obtain ⟨⟨dx, p, q, a, b, c⟩, h1, h2, h3, h4⟩ := h
  exact ⟨⟨dx, p, q, s _ _ a (fun _ e => nomatch e), s _ _ b (fun _ e => nomatch e), s _ _ c (fun _ e => nomatch e)⟩, h1, h2, h3, h4⟩
theorem sqT_kd {K : PySem.W.Frag} {H H' : Hp} {a : Addr} {xs : List V} (s : KD H H') (h : SqT K H a xs) : SqT K H' a xs := by
  rcases h with (h | ⟨o, h⟩) | h
  · exact .inl (.inl (s _ _ h (fun _ e => nomatch e)))
  · exact .inl (.inr ⟨o, s _ _ h (fun _ e => nomatch e)⟩)
  · exact .inr h
theorem Deeds.kd {K : PySem.W.Frag} {d : D3} {H H' : Hp} {p : Addr} {as : List Act} (s : KD H H') (h : Deeds K d H p as) : Deeds K d H' p as := by
  obtain ⟨xs, e, l, k⟩ := h
  exact ⟨xs, sqT_kd s e, l, fun i x a e1 e2 => (k i x a e1 e2).imp fun _ q => q.kd s⟩
theorem PartA.kd {K : PySem.W.Frag} {d : D3} {H H' : Hp} {v : V} (s : KD H H') : ∀ {o : Option (List Act)}, PartA K d H v o → PartA K d H' v o
  | none, h => h
  | some _, ⟨p, e, h⟩ => ⟨p, e, h.kd s⟩
/-- None, or a copy of the dict -/
theorem agR {H : Hp} {v : V} {l : List (Str × Int)} {i : Nat} {σ : L2.St} {Q : VK} (hσ : σ[i]? = some (some v)) (h : (v = .non ∧ l = []) ∨ ∃ p, v = .ref p ∧ AgD H p l) (q : ∀ a, H a = none → Q (.ref a) (upd H a (.dK (agK l)))) :
    tIf (tTest (tOp (fun x y H Q => y = V.non ∧ Q (V.bl (decide (x = V.non))) H) (tVar i) (tC V.non))) tDNewK (tCB (fun xs H Q => ∃ a kvs, xs = [V.ref a] ∧ Rd H a (.dK kvs) ∧ ∀ p, H p = none → Q (.ref p) (upd H p (.dK kvs))) (tCons (tVar i) tNil)) σ H Q := by
  refine ⟨v, hσ, rfl, _, rfl, ?_⟩
  rcases h with ⟨rfl, rfl⟩ | ⟨p, rfl, h⟩
  · exact iteT q
  · exact ite2 (fun e => absurd (of_decide_eq_true e) (fun z => nomatch z)) (fun _ => ⟨_, hσ, p, _, rfl, .inl h, q⟩)
theorem AgD.put {H : Hp} {a y C dy : Addr} {fs : List (Str × V)} {o : HO} {l : List (Str × Int)} (hy : H y = some (.ins C dy fs)) (h : AgD H a l) : AgD (upd H y o) a l := (upd_ne (fun z => by unfold AgD at h; rw [z, hy] at h; cases h)).trans h
/-- what a program is made of -/
structure Tol where
  g : Prg
  us : List Str
  ag : List (Str × Int)
  rs : List Str
def Tol.words (t : Tol) : List Str := t.us ++ t.ag.map (·.1) ++ t.rs ++ actsN t.g.acts
structure Tol.Ok (t : Tol) : Prop where
  shape : t.g.Shape
  sizes : t.g.Sizes
  us : Tld t.us
  ag : AgOk t.ag
  rs : Tld t.rs
  six : ∃ pool : List Str, (∀ z ∈ t.words, z ∈ pool) ∧ pool.length ≤ 6
  size : t.us.length + t.ag.length + t.rs.length + 4 * t.g.acts.length ≤ 1000
  v : t.g.VOk (t.us ++ t.ag.map (·.1)) (t.ag.map (·.1)) t.rs
/-- a program at x -/
structure IsP (K : PySem.W.Frag) (d : D3) (H : Hp) (x C : Addr) (t : Tol) : Prop where
  ex : ∃ (dx nt P gt ag rt : Addr) (ns gs rs : List Str), H x = some (.ins C dx [("_names", .ref nt), ("_parts", .ref P), ("_given", .ref gt), ("_again", .ref ag), ("_results", .ref rt)]) ∧ H nt = some (.tup (ns.map V.str)) ∧ PartsD K d H P t.g ∧ H gt = some (.tup (gs.map V.str)) ∧ AgD H ag t.ag ∧ H rt = some (.tup (rs.map V.str)) ∧
    Asc ns t.words ∧ Asc gs t.us ∧ Asc rs t.rs
theorem IsP.same {K : PySem.W.Frag} {d : D3} {H H' : Hp} {x C : Addr} {t : Tol} (s : Same H H') (h : IsP K d H x C t) : IsP K d H' x C t := by
  obtain ⟨dx, nt, P, gt, ag, rt, ns, gs, rs, a, b, c, e, f, g, h1, h2, h3⟩ := h.ex
  exact ⟨dx, nt, P, gt, ag, rt, ns, gs, rs, s _ _ a, s _ _ b, c.same s, s _ _ e, s _ _ f, s _ _ g, h1, h2, h3⟩
structure PCls (K : PySem.W.Frag) (C : Addr) : Prop where
  cl : Cls K C
  n1 : NoAttr K C "_names"
  n2 : NoAttr K C "_parts"
  n3 : NoAttr K C "_given"
  n4 : NoAttr K C "_again"
  n5 : NoAttr K C "_results"
/-- what Program(..) is told -/
structure PArg (K : PySem.W.Frag) (d : D3) (H : Hp) (v1 v2 v3 v4 v5 vg va vr : V) (t : Tol) : Prop where
  a : InA K d H v1 t.g.a
  l : InO K d H v2 t.g.l
  b : InA K d H v3 t.g.b
  s : InO K d H v4 t.g.s
  h : InA K d H v5 t.g.h
  gv : ∃ p, vg = .ref p ∧ NI.Sq K H p (t.us.map V.str)
  ag : (va = .non ∧ t.ag = []) ∨ ∃ p, va = .ref p ∧ AgD H p t.ag
  rs : ∃ p, vr = .ref p ∧ NI.Sq K H p (t.rs.map V.str)
def spPi (K : PySem.W.Frag) (d : D3) : Sp := fun vs H Q _ => ∃ (x C dx : Addr) (v1 v2 v3 v4 v5 vg va vr : V) (t : Tol), vs = [.ref x, v1, v2, v3, v4, v5, vg, va, vr] ∧ H x = some (.ins C dx []) ∧ PCls K C ∧ PArg K d H v1 v2 v3 v4 v5 vg va vr t ∧ t.Ok ∧
  ∀ H', (∀ b o, b ≠ x → H b = some o → H' b = some o) → IsP K d H' x C t → Q .non H'
theorem asc_of {ys us : List Str} (p : ys.Perm us) (s : sortedS ys = true) (n : us.Nodup) : Asc ys us := ⟨s, p.nodup_iff.mpr n, fun y => p.mem_iff⟩
/-- while a program is made -/
structure PSt (K : PySem.W.Frag) (d : D3) (t : Tol) (x C dx Pd a gv rs : Addr) (H0 H : Hp) (fs : List (Str × V)) : Prop where
  hx : H x = some (.ins C dx fs)
  par : PartsD K d H Pd t.g
  ag : AgD H a t.ag
  gv : NI.Sq K H gv (t.us.map V.str)
  rs : NI.Sq K H rs (t.rs.map V.str)
  bt : ∀ b o, b ≠ x → H0 b = some o → H b = some o
theorem PSt.same {K : PySem.W.Frag} {d : D3} {t : Tol} {x C dx Pd a gv rs : Addr} {H0 H H' : Hp} {fs : List (Str × V)} (s : Same H H') (h : PSt K d t x C dx Pd a gv rs H0 H fs) : PSt K d t x C dx Pd a gv rs H0 H' fs :=
  ⟨s _ _ h.hx, h.par.same s, s _ _ h.ag, h.gv.same s, h.rs.same s, fun b o n e => s _ _ (h.bt b o n e)⟩
theorem PSt.put {K : PySem.W.Frag} {d : D3} {t : Tol} {x C dx Pd a gv rs : Addr} {H0 H : Hp} {fs fs2 : List (Str × V)} (hf : ∀ v r, fs ≠ (Str.ofString "uses", v) :: r) (h : PSt K d t x C dx Pd a gv rs H0 H fs) : PSt K d t x C dx Pd a gv rs H0 (upd H x (.ins C dx fs2)) fs2 :=
  ⟨upd_same, h.par.put h.hx hf, h.ag.put h.hx, h.gv.imp (NI.sqL_put h.hx) (NI.sqT_put h.hx), h.rs.imp (NI.sqL_put h.hx) (NI.sqT_put h.hx), fun b o n e => (upd_ne n).trans (h.bt b o n e)⟩
theorem noUses {n : Str} {u : V} {fs : List (Str × V)} (h : n ≠ Str.ofString "uses") : ∀ v r, (n, u) :: fs ≠ (Str.ofString "uses", v) :: r := fun v r e => by
  injection e with e1 e2
  injection e1 with e1 _
  exact h e1
theorem tupUpd {H : Hp} {p x C dx : Addr} {xs : List V} {fs : List (Str × V)} {o : HO} (h : H p = some (.tup xs)) (hx : H x = some (.ins C dx fs)) : (upd H x o) p = some (.tup xs) := (upd_ne (fun e => by rw [e, hx] at h; cases h)).trans h
section
variable {P : Program} {w : World} {K : PySem.W.Frag} {mg : Str → Option Value} {base : Heap}
theorem ok_pi {d : D3} {dvs : List V} {kws : List (Str × V)} {f : Addr} {fd : FuncData} (F : L2.FunD K "__init__" "Program.__init__" (defArgs sPi) (defBody sPi) (defScope sPi) dvs kws f fd) (T : TxtB mg) (N : TxtP mg) (TA : TxtA mg) (cCp : C8.Cal P w K mg base 1 "check_parts" (spCp K d) []) (cCz : C8.Cal P w K mg base 1 "check_sizes" (spCz K d) [])
    (cCt : C8.Cal P w K mg base 4 "check_told_names" (spCt K) []) (cAn : C8.Cal P w K mg base 3 "all_names" (spAn K d) []) (cCv : C8.Cal P w K mg base 2 "check_values" (spCv K d) []) : FnOk P w K mg base CX0 5 f fd pPi (spPi K d) := by
  refine F.ok scPi (fun vs H Q E h => ?_) (fun cdv A outer s H vs Q E hr h => ?_)
  · obtain ⟨x, C, dx, v1, v2, v3, v4, v5, vg, va, vr, t, rfl, _⟩ := h
    rfl
  · obtain ⟨x, C, dx, v1, v2, v3, v4, v5, vg, va, vr, t, rfl, hx, pc, ar, ok, q⟩ := h
    have hu := hu_of hr
    refine ⟨_, (pss_cons (ps_set (i := 9) scPi.nd rfl (Or.inl rfl) (pe_disp (pps_cons pe_str (pe_callTy call_tuple_of (by rfl) T.btuple (by decide +kernel) (pa_cons (pv 1) pa_nil))
        (pps_cons pe_str (pe_ifExp (pt_cmpR op_isN (pv 2) pe_non (nomark _)) pe_non (pe_callTy call_tuple_of (by rfl) T.btuple (by decide +kernel) (pa_cons (pv 2) pa_nil)))
        (pps_cons pe_str (pe_callTy call_tuple_of (by rfl) T.btuple (by decide +kernel) (pa_cons (pv 3) pa_nil))
        (pps_cons pe_str (pe_ifExp (pt_cmpR op_isN (pv 4) pe_non (nomark _)) pe_non (pe_callTy call_tuple_of (by rfl) T.btuple (by decide +kernel) (pa_cons (pv 4) pa_nil)))
        (pps_cons pe_str (pe_callTy call_tuple_of (by rfl) T.btuple (by decide +kernel) (pa_cons (pv 5) pa_nil)) pps_nil))))) rfl rfl (by intro h; cases h) (by decide)))
      (pss_cons (ps_set (i := 10) scPi.nd rfl (Or.inl rfl) (pe_ifExp (pt_cmpR op_isN (pv 7) pe_non (nomark _)) pe_dnewK (pe_callTy call_dictD (by rfl) N.bdict (by decide +kernel) (pa_cons (pv 7) pa_nil))))
      (pss_cons (ps_expr (C8.pe_c cCp hr (by decide) rfl (pa_cons (pv 9) pa_nil)))
      (pss_cons (ps_expr (C8.pe_c cCz hr (by decide) rfl (pa_cons (pv 9) pa_nil)))
      (pss_cons (ps_expr (C8.pe_c cCt hr (by decide) rfl (pa_cons (pv 6) (pa_cons (pv 10) (pa_cons (pv 8) pa_nil)))))
      (pss_cons (ps_fld (pv 0) (C8.pe_c cAn hr (by decide) rfl (pa_cons (pv 9) (pa_cons (pv 6) (pa_cons (pv 10) (pa_cons (pv 8) pa_nil))))) rfl)
      (pss_cons (ps_expr (C8.pe_c cCv hr (by decide) rfl (pa_cons (pv 9) (pa_cons (pv 6) (pa_cons (pv 10) (pa_cons (pv 8) pa_nil))))))
      (pss_cons (ps_fld (pv 0) (pv 9) rfl)
      (pss_cons (ps_fld (pv 0) (pe_callTy call_tuple_of (by rfl) T.btuple (by decide +kernel) (pa_cons (pe_callBK (NSK.cr_sortedKS rfl) (by rfl) TA.bsorted (by decide +kernel) (pa_cons (pv 6) pa_nil) (pk_cons (pe_bltn (v := .ty "str") (by rfl) T.bstr (by decide +kernel) rfl) pk_nil)) pa_nil)) rfl)
      (pss_cons (ps_fld (pv 0) (pv 10) rfl)
      (pss_one (ps_fld (pv 0) (pe_callTy call_tuple_of (by rfl) T.btuple (by decide +kernel) (pa_cons (pe_callBK (NSK.cr_sortedKS rfl) (by rfl) TA.bsorted (by decide +kernel) (pa_cons (pv 8) pa_nil) (pk_cons (pe_bltn (v := .ty "str") (by rfl) T.bstr (by decide +kernel) rfl) pk_nil)) pa_nil)) rfl)))))))))))), ?_⟩
    intro Pd hPd
    have s0 : Same H (upd H Pd (.dK [])) := Same.new hPd
    dsimp only [tPairs, tC]
    refine tupR (i := 1) rfl (ar.a.same s0) fun p1 H1 s1 a1 => ?_
    have g1 := s1
    have s1 := s0.trans s1
    refine optR (i := 2) rfl (ar.l.same s1) fun w2 H2 s2 a2 => ?_
    have t2 := s1.trans s2
    refine tupR (i := 3) rfl (ar.b.same t2) fun p3 H3 s3 a3 => ?_
    have t3 := t2.trans s3
    refine optR (i := 4) rfl (ar.s.same t3) fun w4 H4 s4 a4 => ?_
    have t4 := t3.trans s4
    refine tupR (i := 5) rfl (ar.h.same t4) fun p5 H5 s5 a5 => ?_
    have t5 := t4.trans s5
    have a4 := a4.same s5
    have a3 := (a3.same s4).same s5
    have a2 := ((a2.same s3).same s4).same s5
    have a1 := (((a1.same s2).same s3).same s4).same s5
    have gP5 : H5 Pd = some (.dK []) := s5 _ _ (s4 _ _ (s3 _ _ (s2 _ _ (g1 _ _ upd_same))))
    refine ⟨gP5, kvsP (.ref p1) w2 (.ref p3) w4 (.ref p5), rfl, by show 5 ≤ 15; decide, ?_⟩
    have hm : mergeK [] (kvsP (.ref p1) w2 (.ref p3) w4 (.ref p5)) = kvsP (.ref p1) w2 (.ref p3) w4 (.ref p5) := rfl
    rw [hm]
    have kd : KD H5 (upd H5 Pd (.dK (kvsP (.ref p1) w2 (.ref p3) w4 (.ref p5)))) := fun b o e n => by
      have ne : b ≠ Pd := fun z => by
        rw [z, gP5] at e
        exact n _ (Option.some.inj e).symm
      rw [upd_ne ne]
      exact e
    have par : PartsD K d (upd H5 Pd (.dK (kvsP (.ref p1) w2 (.ref p3) w4 (.ref p5)))) Pd t.g :=
      ⟨_, _, _, _, _, upd_same, ⟨p1, rfl, a1.kd kd⟩, a2.kd kd, ⟨p3, rfl, a3.kd kd⟩, a4.kd kd, ⟨p5, rfl, a5.kd kd⟩⟩
    have t6 : Same H (upd H5 Pd (.dK (kvsP (.ref p1) w2 (.ref p3) w4 (.ref p5)))) := sameUpd t5 hPd
    clear kd gP5 a1 a2 a3 a4 a5 t5 t4 t3 t2 s1 g1 s0 hm s2 s3 s4 s5 hPd
    generalize (upd H5 Pd (.dK (kvsP (.ref p1) w2 (.ref p3) w4 (.ref p5)))) = H6 at *
    obtain ⟨gv, rfl, hgv⟩ := ar.gv
    obtain ⟨rs, rfl, hrs⟩ := ar.rs
    refine agR (i := 7) (l := t.ag) rfl (ar.ag.imp id fun ⟨p, e, h⟩ => ⟨p, e, t6 _ _ h⟩) fun a ha => ?_
    have t7 := t6.trans (Same.new (o := .dK (agK t.ag)) ha)
    have B7 : PSt K d t x C dx Pd a gv rs H (upd H6 a (.dK (agK t.ag))) [] := ⟨t7 _ _ hx, par.same (Same.new ha), upd_same, hgv.same t7, hrs.same t7, fun b o _ e => t7 _ _ e⟩
    clear t7 par t6 ha
    generalize (upd H6 a (.dK (agK t.ag))) = H7 at *
    refine ⟨_, rfl, Pd, t.g, rfl, B7.par, ok.shape, ?_⟩
    refine ⟨_, rfl, Pd, t.g, rfl, B7.par, ok.sizes, fun H8 s8 => ?_⟩
    have B8 := B7.same s8
    refine ⟨_, rfl, _, rfl, _, rfl, gv, a, rs, t.us, t.rs, t.ag, rfl, B8.gv, B8.ag, B8.rs, ok.us, ok.ag, ok.rs, fun H9 s9 => ?_⟩
    have B9 := B8.same s9
    obtain ⟨pool, hp1, hp2⟩ := ok.six
    refine ⟨_, rfl, _, rfl, _, rfl, _, rfl, Pd, gv, a, rs, t.g, t.us, t.rs, pool, t.ag, rfl, B9.par, B9.gv, B9.ag, B9.rs, hp1, hp2, ok.size, fun ns nt H10 nasc s10 hnt gnt => ?_⟩
    have B10 := B9.same s10
    refine ⟨_, rfl, x, C, dx, _, rfl, B10.hx, pc.cl, pc.n1, by decide, ?_⟩
    have B11 := B10.put (fs2 := [("_names", .ref nt)]) (fun v r e => by cases e)
    have gnt := tupUpd (o := .ins C dx [("_names", .ref nt)]) gnt B10.hx
    clear B7 B8 B9 s8 s9 s10 hnt
    rw [show putF (Str.ofString "_names") (V.ref nt) ([] : List (Str × V)) = ([("_names", .ref nt)] : List (Str × V)) from rfl]
    generalize (upd H10 x (.ins C dx [("_names", .ref nt)])) = H11 at *
    clear B10
    refine ⟨_, rfl, _, rfl, _, rfl, _, rfl, Pd, gv, a, rs, t.g, t.us, t.rs, t.ag, rfl, B11.par, B11.gv, B11.ag, B11.rs, ok.rs.few, by have := ok.size; omega, ok.v, fun H12 s12 => ?_⟩
    have B12 := B11.same s12
    have gnt := s12 _ _ gnt
    refine ⟨_, rfl, _, rfl, x, C, dx, _, rfl, B12.hx, pc.cl, pc.n2, by show 1 < 1000; decide, ?_⟩
    have B13 := B12.put (fs2 := [("_names", .ref nt), ("_parts", .ref Pd)]) (noUses (by decide +kernel))
    have gnt := tupUpd (o := .ins C dx [("_names", .ref nt), ("_parts", .ref Pd)]) gnt B12.hx
    rw [show putF (Str.ofString "_parts") (V.ref Pd) ([("_names", .ref nt)] : List (Str × V)) = ([("_names", .ref nt), ("_parts", .ref Pd)] : List (Str × V)) from rfl]
    generalize (upd H12 x (.ins C dx [("_names", .ref nt), ("_parts", .ref Pd)])) = H13 at *
    clear B12 B11 s12
    refine ⟨_, rfl, gv, t.us, rfl, rfl, B13.gv.imp id .inl, by have := ok.us.few; omega, fun gs p pm srt hp => ?_⟩
    have s14 : Same H13 (upd H13 p (.lst (gs.map V.str))) := Same.new hp
    refine ⟨p, _, rfl, .inl ⟨SqL.of upd_same, fun gt hgt => ?_⟩⟩
    have s15 := s14.trans (Same.new (o := .tup (gs.map V.str)) hgt)
    have B15 := B13.same s15
    have gnt := s15 _ _ gnt
    have ggt : (upd (upd H13 p (.lst (gs.map V.str))) gt (.tup (gs.map V.str))) gt = some (.tup (gs.map V.str)) := upd_same
    clear s14 s15 hgt hp
    generalize (upd (upd H13 p (.lst (gs.map V.str))) gt (.tup (gs.map V.str))) = H15 at *
    refine ⟨_, rfl, x, C, dx, _, rfl, B15.hx, pc.cl, pc.n3, by show 2 < 1000; decide, ?_⟩
    have B16 := B15.put (fs2 := [("_names", .ref nt), ("_parts", .ref Pd), ("_given", .ref gt)]) (noUses (by decide +kernel))
    have gnt := tupUpd (o := .ins C dx [("_names", .ref nt), ("_parts", .ref Pd), ("_given", .ref gt)]) gnt B15.hx
    have ggt := tupUpd (o := .ins C dx [("_names", .ref nt), ("_parts", .ref Pd), ("_given", .ref gt)]) ggt B15.hx
    rw [show putF (Str.ofString "_given") (V.ref gt) ([("_names", .ref nt), ("_parts", .ref Pd)] : List (Str × V)) = ([("_names", .ref nt), ("_parts", .ref Pd), ("_given", .ref gt)] : List (Str × V)) from rfl]
    generalize (upd H15 x (.ins C dx [("_names", .ref nt), ("_parts", .ref Pd), ("_given", .ref gt)])) = H16 at *
    refine ⟨_, rfl, _, rfl, x, C, dx, _, rfl, B16.hx, pc.cl, pc.n4, by show 3 < 1000; decide, ?_⟩
    have B17 := B16.put (fs2 := [("_names", .ref nt), ("_parts", .ref Pd), ("_given", .ref gt), ("_again", .ref a)]) (noUses (by decide +kernel))
    have gnt := tupUpd (o := .ins C dx [("_names", .ref nt), ("_parts", .ref Pd), ("_given", .ref gt), ("_again", .ref a)]) gnt B16.hx
    have ggt := tupUpd (o := .ins C dx [("_names", .ref nt), ("_parts", .ref Pd), ("_given", .ref gt), ("_again", .ref a)]) ggt B16.hx
    rw [show putF (Str.ofString "_again") (V.ref a) ([("_names", .ref nt), ("_parts", .ref Pd), ("_given", .ref gt)] : List (Str × V)) = ([("_names", .ref nt), ("_parts", .ref Pd), ("_given", .ref gt), ("_again", .ref a)] : List (Str × V)) from rfl]
    generalize (upd H16 x (.ins C dx [("_names", .ref nt), ("_parts", .ref Pd), ("_given", .ref gt), ("_again", .ref a)])) = H17 at *
    clear B13 B15 B16
    refine ⟨_, rfl, rs, t.rs, rfl, rfl, B17.rs.imp id .inl, by have := ok.rs.few; omega, fun ws p2 pm2 srt2 hp2 => ?_⟩
    have s18 : Same H17 (upd H17 p2 (.lst (ws.map V.str))) := Same.new hp2
    refine ⟨p2, _, rfl, .inl ⟨SqL.of upd_same, fun rt hrt => ?_⟩⟩
    have s19 := s18.trans (Same.new (o := .tup (ws.map V.str)) hrt)
    have B19 := B17.same s19
    have gnt := s19 _ _ gnt
    have ggt := s19 _ _ ggt
    have grt : (upd (upd H17 p2 (.lst (ws.map V.str))) rt (.tup (ws.map V.str))) rt = some (.tup (ws.map V.str)) := upd_same
    clear s18 s19 hrt hp2
    generalize (upd (upd H17 p2 (.lst (ws.map V.str))) rt (.tup (ws.map V.str))) = H19 at *
    refine ⟨_, rfl, x, C, dx, _, rfl, B19.hx, pc.cl, pc.n5, by show 4 < 1000; decide, ?_⟩
    have B20 := B19.put (fs2 := [("_names", .ref nt), ("_parts", .ref Pd), ("_given", .ref gt), ("_again", .ref a), ("_results", .ref rt)]) (noUses (by decide +kernel))
    have gnt := tupUpd (o := .ins C dx [("_names", .ref nt), ("_parts", .ref Pd), ("_given", .ref gt), ("_again", .ref a), ("_results", .ref rt)]) gnt B19.hx
    have ggt := tupUpd (o := .ins C dx [("_names", .ref nt), ("_parts", .ref Pd), ("_given", .ref gt), ("_again", .ref a), ("_results", .ref rt)]) ggt B19.hx
    have grt := tupUpd (o := .ins C dx [("_names", .ref nt), ("_parts", .ref Pd), ("_given", .ref gt), ("_again", .ref a), ("_results", .ref rt)]) grt B19.hx
    exact q _ B20.bt ⟨dx, nt, Pd, gt, a, rt, ns, gs, ws, B20.hx, gnt, B20.par, ggt, B20.ag, grt, nasc, asc_of pm srt ok.us.nr, asc_of pm2 srt2 ok.rs.nr⟩
end
end K07

set_option Elab.async false
set_option linter.all false
set_option maxRecDepth 100000
set_option maxHeartbeats 4000000
/-! The law's deeds. -/
namespace K07
open PySem L2 NX NU
open PyProof.Rows (sortedS)
abbrev sOr : Stmt := top 79
abbrev sDs : Stmt := top 80
abbrev NDs : List Str := ["_law_pen_here", "_law_known", "_law_free", "_law_most", "_law_found", "_law_here", "_law_lap", "_law_way", "_law_used", "_law_made"]
theorem scOr : FnScope [] [] (defScope sOr) := ⟨rfl, rfl, rfl, by decide +kernel, rfl, by decide +kernel, by decide +kernel⟩
theorem scDs : FnScope NDs ["_law_pen_here", "_law_known", "_law_free", "_law_most"] (defScope sDs) := ⟨rfl, rfl, rfl, by decide +kernel, rfl, by decide +kernel, by decide +kernel⟩
/-- lots (made, used) at the addresses ts -/
def LotsT (H : Hp) (ts : List Addr) (as : List Act) : Prop := ts.length = as.length ∧ ∀ (i : Nat) t a, ts[i]? = some t → as[i]? = some a → ∃ u, H t = some (.tup [mkV a.1, .ref u]) ∧ H u = some (.lst (a.2.map V.str))
def LotsAt (H : Hp) (L : Addr) (as : List Act) : Prop := ∃ ts : List Addr, H L = some (.lst (ts.map V.ref)) ∧ LotsT H ts as
theorem LotsT.same {H H' : Hp} {ts : List Addr} {as : List Act} (s : Same H H') (h : LotsT H ts as) : LotsT H' ts as := ⟨h.1, fun i t a e1 e2 => (h.2 i t a e1 e2).imp fun _ q => ⟨s _ _ q.1, s _ _ q.2⟩⟩
theorem LotsAt.same {H H' : Hp} {L : Addr} {as : List Act} (s : Same H H') (h : LotsAt H L as) : LotsAt H' L as := h.imp fun _ q => ⟨s _ _ q.1, q.2.same s⟩
theorem pen_ne {H : Hp} {p c : Addr} {ns : List Int} {x y : Int} {u : Addr} {zs : List Str} (P : Pen H p c ns x y) (h : H u = some (.lst (zs.map V.str))) : u ≠ p := fun e => by
  rw [e, P.hp] at h
  injection h with h
  injection h with h
  cases zs with
  | nil => cases h
  | cons z r => injection h with h; cases h
theorem pen_ne2 {H : Hp} {p c : Addr} {ns : List Int} {x y : Int} {u : Addr} {ts : List Addr} (P : Pen H p c ns x y) (h : H u = some (.lst (ts.map V.ref))) : u ≠ p := fun e => by
  rw [e, P.hp] at h
  injection h with h
  injection h with h
  match ts, h with
  | [], h => cases h
  | [_], h => cases h
  | _ :: _ :: _, h => injection h with _ h; injection h with h; cases h
theorem LotsT.but {H H' : Hp} {p c : Addr} {ns : List Int} {x y : Int} {ts : List Addr} {as : List Act} (P : Pen H p c ns x y) (b : But p H H') (h : LotsT H ts as) : LotsT H' ts as :=
  ⟨h.1, fun i t a e1 e2 => (h.2 i t a e1 e2).imp fun _ q => ⟨b _ _ q.1 (fun e => by have z := q.1; rw [e, P.hp] at z; cases z), b _ _ q.2 (pen_ne P q.2)⟩⟩
theorem LotsAt.but {H H' : Hp} {p c : Addr} {ns : List Int} {x y : Int} {L : Addr} {as : List Act} (P : Pen H p c ns x y) (b : But p H H') (h : LotsAt H L as) : LotsAt H' L as := h.imp fun _ q => ⟨b _ _ q.1 (pen_ne2 P q.1), q.2.but P b⟩
theorem UsesOk.congr {ag : List Str} : ∀ {as : List Act} {kn kn2 : List Str}, (∀ z, z ∈ kn ↔ z ∈ kn2) → UsesOk ag kn as → UsesOk ag kn2 as
  | [], _, _, _, _ => trivial
  | a :: r, kn, kn2, e, h => ⟨fun z hz => (e z).mp (h.1 z hz), h.2.1, UsesOk.congr (fun z => by rw [List.mem_append, List.mem_append, e z]) h.2.2⟩
theorem UsesOk.snoc {ag : List Str} {a : Act} : ∀ {as : List Act} {kn : List Str}, UsesOk ag kn as → (∀ z ∈ a.2, z ∈ aft kn as) → (∀ m, a.1 = some m → m ∉ ag) → UsesOk ag kn (as ++ [a])
  | [], kn, _, h1, h2 => ⟨fun z hz => by have := h1 z hz; rw [aft_nil] at this; exact this, h2, trivial⟩
  | b :: r, kn, h, h1, h2 => ⟨h.1, h.2.1, UsesOk.snoc h.2.2 (by rw [aft_cons] at h1; exact h1) h2⟩
/-- deeds drawn: uses known, what is made free -/
structure Drw (kn fs : List Str) (as : List Act) (hs : List Str) : Prop where
  lot : ∀ a ∈ as, LotOk a.1 a.2
  uses : ∀ ag : List Str, (∀ z ∈ fs, z ∉ ag) → UsesOk ag kn as
  here : Uni hs
  eq : ∀ z, z ∈ hs ↔ z ∈ aft kn as
  hin : ∀ z ∈ hs, z ∈ kn ∨ z ∈ fs
  inn : ∀ z ∈ actsN as, z ∈ kn ∨ z ∈ fs
def spDs (K : PySem.W.Frag) : Sp := fun vs H Q _ => ∃ (p c : Addr) (ns : List Int) (at_ rest : Int) (kn fr : Addr) (ws fs : List Str) (most : Nat), vs = [.ref p, .ref kn, .ref fr, .int (most : Int)] ∧ Pen H p c ns at_ rest ∧ at_ ≤ 700000 ∧ H kn = some (.lst (ws.map V.str)) ∧ H fr = some (.lst (fs.map V.str)) ∧
  Uni ws ∧ 0 < ws.length ∧ Uni fs ∧ (∃ pool : List Str, (∀ z ∈ ws, z ∈ pool) ∧ (∀ z ∈ fs, z ∈ pool) ∧ pool.length ≤ 6) ∧ most ≤ 8 ∧
  ∀ T L Hn as hs H', H' T = some (.tup [.ref L, .ref Hn]) → LotsAt H' L as → H' Hn = some (.lst (hs.map V.str)) → as.length ≤ most → Drw ws fs as hs → Drawn H p c ns (at_ + 100) H' → Q (.ref T) H'
theorem uniLen {ws pool : List Str} (h : Uni ws) (k : ∀ z ∈ ws, z ∈ pool) : ws.length ≤ pool.length := by
  rw [← many_of ws h.1]
  exact many_in ws pool k
theorem mem_ns {a : Act} {z : Str} : z ∈ a.ns ↔ z ∈ a.2 ∨ a.1 = some z := by
  obtain ⟨m, u⟩ := a
  unfold Act.ns
  cases m with
  | none => simp
  | some m => simp only [Option.toList_some, List.singleton_append, List.mem_cons, Option.some.injEq]; exact ⟨fun h => h.elim (fun e => Or.inr e.symm) Or.inl, fun h => h.elim Or.inr (fun e => Or.inl e.symm)⟩
theorem actsN_snoc {as : List Act} {a : Act} {z : Str} : z ∈ actsN (as ++ [a]) ↔ z ∈ actsN as ∨ z ∈ a.ns := by
  rw [actsN_app, List.mem_append]
  unfold actsN
  simp
theorem Drw.start {kn fs : List Str} (u : Uni kn) : Drw kn fs [] kn := ⟨nofun, fun _ _ => trivial, u, fun z => by rw [aft_nil], fun z h => .inl h, nofun⟩
theorem Drw.snoc {kn fs : List Str} {as : List Act} {hs hs2 : List Str} {mk : Option Str} {us : List Str} (h : Drw kn fs as hs) (lo : LotOk mk us) (hu : ∀ z ∈ us, z ∈ hs) (hm : ∀ m, mk = some m → m ∈ fs) (u2 : Uni hs2) (e2 : ∀ z, z ∈ hs2 ↔ z ∈ hs ∨ mk = some z) : Drw kn fs (as ++ [(mk, us)]) hs2 where
  lot := fun a ha => (List.mem_append.mp ha).elim (h.lot a) fun e => by rw [List.mem_singleton.mp e]; exact lo
  uses := fun ag hag => (h.uses ag hag).snoc (fun z hz => (h.eq z).mp (hu z hz)) (fun m e => hag m (hm m e))
  here := u2
  eq := fun z => by
    rw [e2 z, aft_snoc, List.mem_append, h.eq z]
    cases mk with
    | none => simp
    | some m => simp [eq_comm]
  hin := fun z hz => ((e2 z).mp hz).elim (h.hin z) fun e => .inr (hm z e)
  inn := fun z hz => (actsN_snoc.mp hz).elim (h.inn z) fun e => (mem_ns.mp e).elim (fun e => h.hin z (hu z e)) fun e => .inr (hm z e)
theorem uni_sub {ws xs : List Str} (h : Uni ws) (p : Part ws xs) : Uni xs := ⟨p.nodup h.1, fun z hz => h.2 z (p.mem z hz)⟩
theorem uni_snoc {hs : List Str} {m : Str} (h : Uni hs) (n : m ∉ hs) (k : nm m = true) : Uni (hs ++ [m]) := ⟨List.nodup_append.mpr ⟨h.1, by simp, fun a ha b hb e => n (by rw [← List.mem_singleton.mp hb, ← e]; exact ha)⟩, fun z hz => (List.mem_append.mp hz).elim (h.2 z) fun e => by rw [List.mem_singleton.mp e]; exact k⟩
/-- lots that stand apart from L and N -/
def LotsX (L N : Addr) (H : Hp) (ts : List Addr) (as : List Act) : Prop := ts.length = as.length ∧ ∀ (i : Nat) t a, ts[i]? = some t → as[i]? = some a → ∃ u, u ≠ L ∧ u ≠ N ∧ H t = some (.tup [mkV a.1, .ref u]) ∧ H u = some (.lst (a.2.map V.str))
theorem LotsX.toT {L N : Addr} {H : Hp} {ts : List Addr} {as : List Act} (h : LotsX L N H ts as) : LotsT H ts as := ⟨h.1, fun i t a e1 e2 => (h.2 i t a e1 e2).imp fun _ q => q.2.2⟩
theorem LotsX.but {L N : Addr} {H H' : Hp} {p c : Addr} {ns : List Int} {x y : Int} {ts : List Addr} {as : List Act} (P : Pen H p c ns x y) (b : But p H H') (h : LotsX L N H ts as) : LotsX L N H' ts as :=
  ⟨h.1, fun i t a e1 e2 => (h.2 i t a e1 e2).imp fun _ q => ⟨q.1, q.2.1, b _ _ q.2.2.1 (fun e => by have z := q.2.2.1; rw [e, P.hp] at z; cases z), b _ _ q.2.2.2 (pen_ne P q.2.2.2)⟩⟩
theorem LotsX.put {L N : Addr} {H : Hp} {y : Addr} {xs : List V} {o : HO} {ts : List Addr} {as : List Act} (hy : y = L ∨ y = N) (g : H y = some (.lst xs)) (h : LotsX L N H ts as) : LotsX L N (upd H y o) ts as :=
  ⟨h.1, fun i t a e1 e2 => (h.2 i t a e1 e2).imp fun u q => ⟨q.1, q.2.1, (upd_ne (fun e => by have z := q.2.2.1; rw [e, g] at z; cases z)).trans q.2.2.1, (upd_ne (hy.elim (fun e => by rw [e]; exact q.1) (fun e => by rw [e]; exact q.2.1))).trans q.2.2.2⟩⟩
theorem LotsX.snoc {L N : Addr} {H : Hp} {ts : List Addr} {as : List Act} {t u : Addr} {mk : Option Str} {us : List Str} (h : LotsX L N H ts as) (n1 : u ≠ L) (n2 : u ≠ N) (g1 : H t = some (.tup [mkV mk, .ref u])) (g2 : H u = some (.lst (us.map V.str))) : LotsX L N H (ts ++ [t]) (as ++ [(mk, us)]) := by
  refine ⟨by rw [List.length_append, List.length_append, h.1]; rfl, fun i t2 a e1 e2 => ?_⟩
  by_cases hi : i < ts.length
  · rw [List.getElem?_append_left hi] at e1
    rw [List.getElem?_append_left (by rw [← h.1]; exact hi)] at e2
    exact h.2 i t2 a e1 e2
  · obtain ⟨j, rfl⟩ : ∃ j, i = ts.length + j := ⟨i - ts.length, by omega⟩
    have hl := h.1
    rw [List.getElem?_append_right (by omega)] at e1
    rw [List.getElem?_append_right (by omega)] at e2
    rw [Nat.add_sub_cancel_left] at e1
    cases j with
    | zero =>
      rw [← h.1, Nat.add_zero, Nat.sub_self] at e2
      cases e1
      cases e2
      exact ⟨u, n1, n2, g1, g2⟩
    | succ j => cases e1
theorem butPut {p : Addr} {H H' : Hp} {y : Addr} {o : HO} (b : But p H H') (h : H y = none) : But p H (upd H' y o) := fun z u e n => by
  rw [upd_ne (fun q => by rw [q, h] at e; cases e)]
  exact b z u e n
theorem Pen.put {H : Hp} {p c : Addr} {ns : List Int} {a r : Int} {y : Addr} {o : HO} (P : Pen H p c ns a r) (h1 : y ≠ p) (h2 : y ≠ c) : Pen (upd H y o) p c ns a r := ⟨(upd_ne (Ne.symm h1)).trans P.hp, (upd_ne (Ne.symm h2)).trans P.hc, P.la, P.lr⟩
/-- the made name -/
theorem madeR {K : PySem.W.Frag} {H : Hp} {σ : L2.St} {Q : VK} {p c fr : Addr} {ns : List Int} {a r d : Int} {fs : List Str} (h0 : σ[0]? = some (some (.ref p))) (h2 : σ[2]? = some (some (.ref fr))) (h7 : σ[7]? = some (some (.int d))) (Pn : Pen H p c ns a r) (ha : a ≤ 1000000) (gf : H fr = some (.lst (fs.map V.str))) (uf : Uni fs) (f6 : fs.length ≤ 6)
    (k : ∀ mk H', (∀ m, mk = some m → m ∈ fs) → Drawn H p c ns (a + 1) H' → Q (mkV mk) H') :
    tIf (tAnd (tTest (tOp (rI0 fun i j => V.bl (decide (j < i))) (tVar 7) (tC (V.int 1)))) (tTest (tOp (rNeD K) (tVar 2) (tLst tNil)))) (tCall (spPick K) [] C8.E0 (tCons (tVar 0) (tCons (tVar 2) tNil))) (tC V.non) σ H Q := by
  refine ⟨_, h7, d, 1, rfl, rfl, _, rfl, ite2 (fun _ => ?_) (fun _ => iteF (k none H nofun ⟨a, r, Pn, by omega, But.refl⟩))⟩
  refine ⟨_, h2, by show 0 ≤ sizeLine; decide, fun e he => ?_⟩
  have s1 : Same H (upd H e (.lst [])) := Same.new he
  have gf1 := s1 _ _ gf
  have P1 := Pn.same s1
  refine ⟨_, _, .lst (SqL.of gf1) (dpTup fs), .lst (SqL.of upd_same) .nil, shapedTup uf.2, by decide +kernel, _, rfl, ?_⟩
  generalize (upd H e (.lst [])) = H1 at *
  cases fs with
  | nil => exact iteF (k none H1 nofun ⟨a, r, P1, by omega, But.same s1⟩)
  | cons x q =>
    refine iteT ⟨_, h0, _, h2, p, c, ns, a, r, _, rfl, P1, ha, .inl ⟨fr, _, rfl, SqL.of gf1, pen_ne P1 gf1, by rw [List.length_map]; exact Nat.succ_pos _, by rw [List.length_map]; omega, fun v H2 hv hd => ?_⟩⟩
    obtain ⟨m, hm, rfl⟩ := List.mem_map.mp hv
    obtain ⟨a2, r2, P2, l2, B2⟩ := hd
    exact k (some m) H2 (fun _ e => by cases e; exact hm) ⟨a2, r2, P2, l2, (But.same s1).trans B2⟩
/-- the used names -/
theorem usedR {H : Hp} {σ : L2.St} {Q : VK} {l L N : Addr} {d : Int} {mk : Option Str} {xs : List Str} {oL oN : HO} (h7 : σ[7]? = some (some (.int d))) (h9 : σ[9]? = some (some (mkV mk))) (h8 : σ[8]? = some (some (.ref l))) (gl : H l = some (.lst (xs.map V.str))) (gL : H L = some oL) (gN : H N = some oN) (n1 : l ≠ L) (n2 : l ≠ N)
    (k : ∀ u us H', Same H H' → H' u = some (.lst (us.map V.str)) → u ≠ L → u ≠ N → (us = xs ∨ us = [] ∧ mk ≠ none) → Q (.ref u) H') :
    tIf (tAnd (tTest (tOp rEq (tVar 7) (tC (V.int 2)))) (tTest (tOp (fun x y H Q => y = V.non ∧ Q (V.bl !decide (x = V.non)) H) (tVar 9) (tC V.non)))) (tLst tNil) (tVar 8) σ H Q := by
  have old : tVar 8 σ H Q := ⟨_, h8, k l xs H (Same.refl H) gl n1 n2 (.inl rfl)⟩
  refine ⟨_, h7, rfl, _, rfl, ite2 (fun _ => ?_) (fun _ => iteF old)⟩
  refine ⟨_, h9, rfl, _, rfl, ?_⟩
  cases mk with
  | none => exact iteF old
  | some m =>
    refine iteT ⟨by show 0 ≤ sizeLine; decide, fun u hu => ?_⟩
    exact k u [] _ (Same.new hu) upd_same (fun e => by rw [e, gL] at hu; cases hu) (fun e => by rw [e, gN] at hu; cases hu) (.inr ⟨rfl, nofun⟩)
section
variable {P : Program} {w : World} {K : PySem.W.Frag} {mg : Str → Option Value} {base : Heap}
theorem ok_ds {f : Addr} {fd : FuncData} (F : Fun K "_law_deeds" "_law_deeds" sDs f fd) (T : TxtB mg) (cDraw : C8.Cal P w K mg base 1 "_law_draw" spDraw []) (cPick : C8.Cal P w K mg base 2 "_law_pick" (spPick K) []) (cSome : C8.Cal P w K mg base 2 "_law_some" (spSome K) []) :
    FnOk P w K mg base CX0 3 f fd ["_law_pen_here", "_law_known", "_law_free", "_law_most"] (spDs K) := by
  refine F.ok scDs (fun vs H Q E h => ?_) (fun cdv A outer s H vs Q E hr h => ?_)
  · obtain ⟨p, c, ns, a, r, kn, fr, ws, fs, most, rfl, _⟩ := h
    rfl
  · obtain ⟨p, c, ns, at_, rest, kn, fr, ws, fs, most, rfl, Pn, hat, gk, gf, uw, w0, uf, ⟨pool, pw, pf, p6⟩, m8, k⟩ := h
    refine ⟨_, (pss_cons (ps_par (i := 4) (j := 5) (by rfl) scDs.nd rfl rfl (by decide) rfl rfl (pa_cons (pe_lst pa_nil) (pa_cons (pe_callTy call_list_of (by rfl) T.blist (by decide +kernel) (pa_cons (pv 1) pa_nil)) pa_nil)) (by rfl))
      (pss_cons (ps_for PassesOwn.never rfl (pi_range1 (by rfl) T.brange (pa_cons (C8.pe_c cDraw hr (by decide) rfl (pa_cons (pv 0) (pa_cons (pe_op op_add (pv 3) pe_int) pa_nil))) pa_nil)) (pg_name (i := 6) scDs.nd rfl (Or.inl rfl))
        (pss_cons (ps_par (i := 7) (j := 8) (by rfl) scDs.nd rfl rfl (by decide) rfl rfl (pa_cons (C8.pe_c cDraw hr (by decide) rfl (pa_cons (pv 0) (pa_cons pe_int pa_nil))) (pa_cons (C8.pe_c cSome hr (by decide) rfl (pa_cons (pv 0) (pa_cons (pv 5) (pa_cons pe_int (pa_cons pe_int pa_nil))))) pa_nil)) (by rfl))
        (pss_cons (ps_set (i := 9) scDs.nd rfl (Or.inl rfl) (pe_ifExp (PW.pt (pw_and (pt_cmpR op_gt (pv 7) pe_int (nomark _)) (pw_and1 (pt_cmpR (op_neD hr.units) (pv 2) (pe_lst pa_nil) (nomark _))))) (C8.pe_c cPick hr (by decide) rfl (pa_cons (pv 0) (pa_cons (pv 2) pa_nil))) pe_non))
        (pss_cons (ps_expr (pe_bm PySem.F.plainAttrs_list PySem.F.slot_list_append PySem.F.type_list_append mt_append (pv 4) (pa_cons (pe_tup (pa_cons (pv 9) (pa_cons (pe_ifExp (PW.pt (pw_and (pt_cmpR op_eq (pv 7) pe_int (nomark _)) (pw_and1 (pt_cmpR op_notN (pv 9) pe_non (nomark _))))) (pe_lst pa_nil) (pv 8)) pa_nil))) pa_nil)))
        (pss_one (ps_if (PW.pt (pw_and (pt_cmpR op_notN (pv 9) pe_non (nomark _)) (pw_and1 (pt_cmpR op_notIn_seq (pv 9) (pv 5) rfl)))) (pss_one (ps_expr (pe_bm PySem.F.plainAttrs_list PySem.F.slot_list_append PySem.F.type_list_append mt_append (pv 5) (pa_cons (pv 9) pa_nil)))) pss_nil))))))
      (pss_one (ps_ret (pe_tup (pa_cons (pv 4) (pa_cons (pv 5) pa_nil))))))), ?_⟩
    have z8 : (100 : Nat) < sizeLine := by decide
    refine ⟨by show 0 ≤ sizeLine; decide, fun L hL => ?_⟩
    have s1 := Same.new (o := .lst []) hL
    have gL : (upd H L (.lst [])) L = some (.lst []) := upd_same
    refine ⟨_, rfl, kn, _, rfl, .inl (SqL.of (s1 _ _ gk)), fun N hN => ?_⟩
    have hN0 := sameNone s1 hN
    have nLN : L ≠ N := ne_of_none gL hN
    have s2 := s1.trans (Same.new (o := .lst (ws.map V.str)) hN)
    have gL := (Same.new (o := .lst (ws.map V.str)) hN) _ _ gL
    have gN : (upd (upd H L (.lst [])) N (.lst (ws.map V.str))) N = some (.lst (ws.map V.str)) := upd_same
    clear s1 hN
    generalize (upd (upd H L (.lst [])) N (.lst (ws.map V.str))) = H1 at *
    have Lp : L ≠ p := fun e => by rw [e, Pn.hp] at hL; cases hL
    have Lc : L ≠ c := fun e => by rw [e, Pn.hc] at hL; cases hL
    have Np : N ≠ p := fun e => by rw [e, Pn.hp] at hN0; cases hN0
    have Nc : N ≠ c := fun e => by rw [e, Pn.hc] at hN0; cases hN0
    have f6 : fs.length ≤ 6 := Nat.le_trans (uniLen uf pf) p6
    have P1 := Pn.same s2
    refine ⟨_, _, rfl, _, rfl, _, rfl, _, _, rfl, rfl, p, c, ns, at_, rest, _, rfl, P1, by omega, by omega, by omega, fun dn H2 d0 d1 hd => ?_⟩
    obtain ⟨a2, r2, P2, l2, B2⟩ := hd
    obtain ⟨n, rfl⟩ := Int.eq_ofNat_of_zero_le d0
    have gL2 := B2 _ _ gL Lp
    have gN2 := B2 _ _ gN Np
    have B02 : But p H H2 := (But.same s2).trans B2
    refine ⟨(n : Int), rfl, by omega, by omega, ?_⟩
    rw [Int.toNat_natCast]
    refine for_range (n := n) (fun i σ H' => (∃ a r, Pen H' p c ns a r ∧ a ≤ at_ + 1 + 9 * i) ∧ But p H H' ∧ (∃ (ts : List Addr) (as : List Act) (hs : List Str), as.length = i ∧ H' L = some (.lst (ts.map V.ref)) ∧ H' N = some (.lst (hs.map V.str)) ∧ LotsX L N H' ts as ∧ Drw ws fs as hs) ∧ ∃ x6 x7 x8 x9, σ = [some (.ref p), some (.ref kn), some (.ref fr), some (.int (most : Int)), some (.ref L), some (.ref N), x6, x7, x8, x9])
      ⟨⟨a2, r2, P2, by omega⟩, B02, ⟨[], [], ws, rfl, gL2, gN2, ⟨rfl, nofun⟩, Drw.start uw⟩, _, _, _, _, rfl⟩ (fun i σ H3 hi ⟨⟨a3, r3, P3, l3⟩, B3, ⟨ts, as, hs, la, gL3, gN3, X3, D3⟩, x6, x7, x8, x9, eσ⟩ => ?_) (fun σ H3 ⟨⟨a3, r3, P3, l3⟩, B3, ⟨ts, as, hs, la, gL3, gN3, X3, D3⟩, x6, x7, x8, x9, eσ⟩ => ?_)
    · subst eσ
      have h6 : hs.length ≤ 6 := Nat.le_trans (uniLen D3.here fun z hz => (D3.hin z hz).elim (pw z) (pf z)) p6
      have h1 : 0 < hs.length := by
        obtain ⟨z, zr, e⟩ : ∃ z zr, ws = z :: zr := by cases ws with
          | nil => cases w0
          | cons z zr => exact ⟨z, zr, rfl⟩
        exact List.length_pos_of_mem ((D3.eq z).mpr (by unfold aft; rw [e]; simp))
      refine ⟨_, rfl, p, c, ns, a3, r3, 5, rfl, P3, by omega, by decide, by decide, fun d H4 d0 d5 hd => ?_⟩
      obtain ⟨a4, r4, P4, l4, B4⟩ := hd
      have gL4 := B4 _ _ gL3 Lp
      have gN4 := B4 _ _ gN3 Np
      have X4 := X3.but P3 B4
      have B4 := B3.trans B4
      refine ⟨_, rfl, _, rfl, p, c, ns, a4, r4, N, hs, 1, 3, rfl, P4, by omega, SqL.of gN4, by omega, by decide, h1, fun l xs H5 hl0 gl pt x1 x3 hd => ?_⟩
      obtain ⟨a5, r5, P5, l5, B5⟩ := hd
      have gL5 := B5 _ _ gL4 Lp
      have gN5 := B5 _ _ gN4 Np
      have X5 := X4.but P4 B5
      have B5 := B4.trans B5
      have nl1 : l ≠ L := fun e => by rw [e, gL4] at hl0; cases hl0
      have nl2 : l ≠ N := fun e => by rw [e, gN4] at hl0; cases hl0
      refine ⟨_, _, rfl, ?_⟩
      refine madeR rfl rfl rfl P5 (by omega) (B5 _ _ gf (pen_ne Pn gf)) uf f6 fun mk H6 hm hd => ?_
      obtain ⟨a6, r6, P6, l6, B6⟩ := hd
      have gL6 := B6 _ _ gL5 Lp
      have gN6 := B6 _ _ gN5 Np
      have X6 := X5.but P5 B6
      have gl6 := B6 _ _ gl (pen_ne P5 gl)
      have B6 := B5.trans B6
      refine ⟨_, rfl, .inl ⟨rfl, _, SqL.of gL6⟩, _, rfl, usedR (L := L) (N := N) rfl rfl rfl gl6 gL6 gN6 nl1 nl2 fun u us H7 s7 gu nu1 nu2 hus => ?_⟩
      have gL7 := s7 _ _ gL6
      have gN7 := s7 _ _ gN6
      have X7 := X6.but P6 (But.same s7)
      have P7 := P6.same s7
      have B7 := B6.trans (But.same s7)
      refine ⟨by show 2 ≤ sizeLine; decide, fun t ht => ?_⟩
      have s8 := Same.new (o := .tup [mkV mk, .ref u]) ht
      have gt : (upd H7 t (.tup [mkV mk, .ref u])) t = some (.tup [mkV mk, .ref u]) := upd_same
      have gu := s8 _ _ gu
      have gL8 := s8 _ _ gL7
      have gN8 := s8 _ _ gN7
      have X8 := X7.but P7 (But.same s8)
      have P8 := P7.same s8
      have B8 := B7.trans (But.same s8)
      clear s8 ht
      generalize (upd H7 t (.tup [mkV mk, .ref u])) = H8 at *
      have lts := X8.1
      refine ⟨L, _, _, rfl, rfl, gL8, by rw [List.length_map]; omega, ?_⟩
      have X9 := (X8.put (o := .lst (ts.map V.ref ++ [V.ref t])) (.inl rfl) gL8).snoc (mk := mk) (us := us) nu1 nu2 ((upd_ne (fun e => by rw [e, gL8] at gt; cases gt)).trans gt) ((upd_ne nu1).trans gu)
      have gL9 : (upd H8 L (.lst (ts.map V.ref ++ [V.ref t]))) L = some (.lst ((ts ++ [t]).map V.ref)) := by rw [upd_same, List.map_append]; rfl
      have gN9 := (upd_ne (o := .lst (ts.map V.ref ++ [V.ref t])) (Ne.symm nLN)).trans gN8
      have P9 := P8.put (o := .lst (ts.map V.ref ++ [V.ref t])) Lp Lc
      have B9 := butPut (o := .lst (ts.map V.ref ++ [V.ref t])) B8 hL
      generalize (upd H8 L (.lst (ts.map V.ref ++ [V.ref t]))) = H9 at *
      have xh : ∀ z ∈ us, z ∈ hs := fun z hz => by
        rcases hus with e | e
        · rw [e] at hz; exact pt.mem z hz
        · rw [e.1] at hz; cases hz
      have lo : LotOk mk us := by
        rcases hus with e | ⟨e, n⟩
        · rw [e]
          exact ⟨uni_sub D3.here pt, x3, fun z e => uf.2 z (hm z e), fun _ => x1⟩
        · rw [e]
          exact ⟨⟨List.nodup_nil, nofun⟩, by show 0 ≤ 3; decide, fun z e => uf.2 z (hm z e), fun e => absurd e n⟩
      have la9 : (as ++ [(mk, us)]).length = i + 1 := by rw [List.length_append, la]; rfl
      refine ⟨_, rfl, rfl, _, rfl, ?_⟩
      cases mk with
      | none =>
        exact iteF (iteF ⟨⟨_, _, P9, by omega⟩, B9, ⟨_, _, hs, la9, gL9, gN9, X9, D3.snoc lo xh hm D3.here (fun z => by simp)⟩, _, _, _, _, rfl⟩)
      | some m =>
        refine iteT ⟨_, rfl, _, rfl, N, _, rfl, .inl (SqL.of gN9), rfl, flat_strs _, _, rfl, ?_⟩
        have ei : inV (mkV (some m)) (hs.map V.str) = decide (m ∈ hs) := inV_str m hs
        rw [if_pos rfl, ei]
        by_cases hmh : m ∈ hs
        · rw [decide_eq_true hmh]
          exact iteF ⟨⟨_, _, P9, by omega⟩, B9, ⟨_, _, hs, la9, gL9, gN9, X9, D3.snoc lo xh hm D3.here (fun z => by simp; intro e; rw [← e]; exact hmh)⟩, _, _, _, _, rfl⟩
        · rw [decide_eq_false hmh]
          refine iteT ⟨_, rfl, .inl ⟨rfl, _, SqL.of gN9⟩, _, rfl, N, _, _, rfl, rfl, gN9, by rw [List.length_map]; omega, ?_⟩
          refine ⟨⟨_, _, P9.put Np Nc, by omega⟩, butPut B9 hN0, ⟨_, _, hs ++ [m], la9, (upd_ne nLN).trans gL9, by rw [upd_same, List.map_append]; rfl, X9.put (.inr rfl) gN9, D3.snoc lo xh hm (uni_snoc D3.here hmh (uf.2 m (hm m rfl))) (fun z => by simp [eq_comm])⟩, _, _, _, _, rfl⟩
    · subst eσ
      refine ⟨_, rfl, _, rfl, by show 2 ≤ sizeLine; decide, fun t ht => ?_⟩
      have s4 := Same.new (o := .tup [.ref L, .ref N]) ht
      exact k t L N as hs _ upd_same ⟨ts, s4 _ _ gL3, X3.toT.same s4⟩ (s4 _ _ gN3) (by omega) D3 ⟨a3, r3, P3.same s4, by omega, B3.trans (But.same s4)⟩
end
end K07

set_option Elab.async false
set_option linter.all false
set_option maxRecDepth 100000
set_option maxHeartbeats 4000000
/-! The law's programs. -/
namespace K07
open PySem L2 NX NU
open PyProof.Rows (sortedS)
abbrev sSi : Stmt := top 81
abbrev NSi : List Str := ["_law_pen_here", "_law_loops", "_law_most", "_law_words", "_law_prices", "_law_first", "_law_free", "_law_known", "_law_site_here", "_law_word"]
theorem scSi : FnScope NSi ["_law_pen_here", "_law_loops", "_law_most"] (defScope sSi) := ⟨rfl, rfl, rfl, by decide +kernel, rfl, by decide +kernel, by decide +kernel⟩
def spOr : Sp := fun vs H Q _ => vs = [] ∧ ∀ a H', Same H H' → H a = none → H' a = some (.lst (partN.map V.str)) → Q (.ref a) H'
theorem scOr0 : FnScope [] [] (defScope sOr) := scOr
theorem takeSnoc {α : Type} {l : List α} {i : Nat} {a : α} (h : l[i]? = some a) : l.take (i + 1) = l.take i ++ [a] := by rw [List.take_add_one, h]; rfl
theorem gNm {i : Nat} {x : V} {σ : L2.St} {H : Hp} {N : L2.St → Hp → Prop} (h : N (σ.set i (some x)) H) : gName i x σ H N := h
theorem sqA {te : TE} {g : TG} {tr : TS} {D : L2.Ends} {σ : L2.St} {H : Hp} (h : te σ H fun x H1 => g x σ H1 (tr D)) : tSeq (tAsg te g) tr D σ H := h
theorem cb1 {r : List V → Hp → VK → Prop} {t : TE} {σ : L2.St} {H : Hp} {Q : VK} (h : t σ H fun x H1 => r [x] H1 Q) : tCB r (tCons t tNil) σ H Q := h
theorem lcOf {wi : TI} {g : TG} {tt : TT} {te : TE} {vs : List Nat} {σ : L2.St} {H : Hp} {Q : VK} (h : wi σ H fun J H1 => tLc (fun _ H R => R J H) g tt te vs σ H1 Q) : tLc wi g tt te vs σ H Q := h
theorem takeSub {xs : List Str} {i : Nat} {z : Str} {ys : List Str} (hz : xs[i]? = some z) (h : ys.Sublist (xs.take i)) : ys.Sublist (xs.take (i + 1)) ∧ (ys ++ [z]).Sublist (xs.take (i + 1)) := by
  rw [takeSnoc hz]
  exact ⟨h.trans (List.sublist_append_left _ _), h.append (List.Sublist.refl _)⟩
theorem Drawn.trans {H H1 H2 : Hp} {p c : Addr} {ns : List Int} {m n : Int} (h : But p H H1) (k : Drawn H1 p c ns m H2) (l : m ≤ n) : Drawn H p c ns n H2 := by
  obtain ⟨a, r, P, e, B⟩ := k
  exact ⟨a, r, P, by omega, h.trans B⟩
/-- [w for w in l if a draw] -/
theorem lcD {K : PySem.W.Frag} {H : Hp} {l p c : Addr} {ns : List Int} {a r : Int} {s1 s2 s3 s4 s5 s6 s7 s8 s9 : Option V} {xs : List Str} {tt : TT} {Q : VK} (gl : H l = some (.lst (xs.map V.str))) (Pn : Pen H p c ns a r) (ha : a + xs.length ≤ 900000) (h100 : xs.length ≤ 100)
    (htt : ∀ z H2 a2 r2 (R : Bool → Hp → Prop), Pen H2 p c ns a2 r2 → a2 ≤ 900000 → (∀ b H3, Drawn H2 p c ns (a2 + 1) H3 → R b H3) → tt [some (.ref p), s1, s2, s3, s4, s5, s6, s7, s8, some (.str z)] H2 R)
    (k : ∀ (D : Addr) (ys : List Str) H', H D = none → H' D = some (.lst (ys.map V.str)) → ys.Sublist xs → Drawn H p c ns (a + xs.length) H' → Q (.ref D) H') :
    tLc (fun _ H R => R (Itl K l) H) (gName 9) tt (tVar 9) [9] [some (.ref p), s1, s2, s3, s4, s5, s6, s7, s8, s9] H Q := by
  intro D hD
  have Dp : D ≠ p := fun z => by rw [z, Pn.hp] at hD; cases hD
  have Dc : D ≠ c := fun z => by rw [z, Pn.hc] at hD; cases hD
  have lp := pen_ne Pn gl
  have z100 : (200 : Nat) ≤ sizeLine := by decide
  refine lc_list (xs := xs.map V.str) (fun j H' => Drawn H p c ns (a + j) H' ∧ ∃ ys : List Str, H' D = some (.lst (ys.map V.str)) ∧ ys.Sublist (xs.take j)) ⟨⟨a, r, Pn.put Dp Dc, by omega, butPut But.refl hD⟩, [], upd_same, List.nil_sublist _⟩ (fun j H' _ z => SqL.of (by obtain ⟨⟨a2, r2, P2, l2, B2⟩, _⟩ := z; exact B2 _ _ gl lp)) ?_ ?_
  · rintro j y H2 hy ⟨⟨a2, r2, P2, l2, B2⟩, ys, gD, sb⟩
    rw [List.getElem?_map] at hy
    obtain ⟨z, hz, rfl⟩ := Option.map_eq_some_iff.mp hy
    have hj : j < xs.length := (List.getElem?_eq_some_iff.mp hz).1
    refine ⟨rfl, htt z H2 a2 r2 _ P2 (by omega) fun b H3 hd => ?_⟩
    obtain ⟨a3, r3, P3, l3, B3⟩ := hd
    have gD3 := B3 _ _ gD Dp
    have B3 := B2.trans B3
    obtain ⟨sb1, sb2⟩ := takeSub hz sb
    have ly := sb.length_le
    rw [List.length_take] at ly
    cases b with
    | false => exact iteF ⟨⟨a3, r3, P3, by omega, B3⟩, ys, gD3, sb1⟩
    | true => exact iteT ⟨_, rfl, _, gD3, by rw [List.length_map]; omega, ⟨a3, r3, P3.put Dp Dc, by omega, butPut B3 hD⟩, ys ++ [z], by rw [upd_same, List.map_append]; rfl, sb2⟩
  · rintro H2 ⟨hd, ys, gD, sb⟩
    rw [List.length_map] at hd sb
    rw [List.take_length] at sb
    exact k D ys H2 hD gD sb hd
/-- [w for w in l if ..], nothing drawn -/
theorem lcP {K : PySem.W.Frag} {H : Hp} {l : Addr} {s0 s1 s2 s3 s4 s5 s6 s7 s8 s9 : Option V} {xs : List Str} (fl : Str → Bool) {tt : TT} {Q : VK} (gl : H l = some (.lst (xs.map V.str))) (h100 : xs.length ≤ 100)
    (htt : ∀ z H2 (R : Bool → Hp → Prop), Same H H2 → R (fl z) H2 → tt [s0, s1, s2, s3, s4, s5, s6, s7, s8, some (.str z)] H2 R)
    (k : ∀ D H', H D = none → H' D = some (.lst ((xs.filter fl).map V.str)) → Same H H' → Q (.ref D) H') :
    tLc (fun _ H R => R (Itl K l) H) (gName 9) tt (tVar 9) [9] [s0, s1, s2, s3, s4, s5, s6, s7, s8, s9] H Q := by
  intro D hD
  have z100 : (200 : Nat) ≤ sizeLine := by decide
  refine lc_list (xs := xs.map V.str) (fun j H' => Same H H' ∧ H' D = some (.lst (((xs.take j).filter fl).map V.str))) ⟨Same.new hD, upd_same⟩ (fun j H' _ z => SqL.of (z.1 _ _ gl)) ?_ ?_
  · rintro j y H4 hy ⟨sj, gD⟩
    rw [List.getElem?_map] at hy
    obtain ⟨z, hz, rfl⟩ := Option.map_eq_some_iff.mp hy
    refine ⟨rfl, htt z H4 _ sj ?_⟩
    cases hb : fl z with
    | false =>
      refine iteF ⟨sj, ?_⟩
      rw [takeSnoc hz, List.filter_append, List.filter_cons_of_neg (by rw [hb]; exact Bool.false_ne_true), List.filter_nil, List.append_nil]
      exact gD
    | true =>
      refine iteT ⟨_, rfl, _, gD, ?_, sameUpd sj hD, ?_⟩
      · rw [List.length_map]
        have := List.length_filter_le fl (xs.take j)
        rw [List.length_take] at this
        omega
      · rw [takeSnoc hz, List.filter_append, List.filter_cons_of_pos hb, List.filter_nil, List.map_append]
        exact upd_same
  · rintro H4 ⟨sj, gD⟩
    rw [List.length_map, List.take_length] at gD
    exact k D H4 hD gD sj
/-- pairs (name, price) at the addresses ps -/
def PrT (H : Hp) : List Addr → List (Str × Int) → Prop
  | [], [] => True
  | p :: ps, q :: l => H p = some (.tup [.str q.1, .int q.2]) ∧ PrT H ps l
  | _, _ => False
theorem PrT.keep {H H' : Hp} (s : ∀ t xs, H t = some (.tup xs) → H' t = some (.tup xs)) : ∀ {ps : List Addr} {l : List (Str × Int)}, PrT H ps l → PrT H' ps l
  | [], [], _ => trivial
  | [], _ :: _, h => h
  | _ :: _, [], h => h
  | _ :: _, _ :: _, h => ⟨s _ _ h.1, h.2.keep s⟩
theorem PrT.snoc {H : Hp} {t : Addr} {z : Str} {n : Int} (g : H t = some (.tup [.str z, .int n])) : ∀ {ps : List Addr} {l : List (Str × Int)}, PrT H ps l → PrT H (ps ++ [t]) (l ++ [(z, n)])
  | [], [], _ => ⟨g, trivial⟩
  | [], _ :: _, h => h.elim
  | _ :: _, [], h => h.elim
  | _ :: _, _ :: _, h => ⟨h.1, h.2.snoc g⟩
theorem PrT.paired {K : PySem.W.Frag} {H : Hp} : ∀ {ps : List Addr} {l : List (Str × Int)}, PrT H ps l → Paired (fun p (kv : Key × V) => SqT K H p [kV kv.1, kv.2]) ps (agK l)
  | [], [], _ => .nil
  | [], _ :: _, h => h.elim
  | _ :: _, [], h => h.elim
  | _ :: _, _ :: _, h => .cons (SqT.of h.1) h.2.paired
theorem merge_ag : ∀ {l l0 : List (Str × Int)}, ((l0 ++ l).map (·.1)).Nodup → mergeK (agK l0) (agK l) = agK (l0 ++ l)
  | [], l0, _ => by rw [List.append_nil]; rfl
  | q :: r, l0, h => by
    have e : putK (agK l0) (Sum.inr q.1) (V.int q.2) = agK (l0 ++ [q]) := by
      rw [putK_new _ (agOut (fun hm => ?_))]
      · unfold agK
        rw [List.map_append]
        rfl
      · rw [List.map_append, List.nodup_append] at h
        exact h.2.2 _ hm q.1 (by simp) rfl
    show mergeK (putK (agK l0) (Sum.inr q.1) (V.int q.2)) (agK r) = _
    rw [e, merge_ag (by rw [List.append_assoc]; exact h), List.append_assoc]
    rfl
/-- [(w, price) for w in l if a draw] -/
theorem lcPr {K : PySem.W.Frag} {H : Hp} {l p c : Addr} {ns : List Int} {a r : Int} {s1 s2 s3 s4 s5 s6 s7 s8 s9 : Option V} {xs : List Str} {Q : VK} (gl : H l = some (.lst (xs.map V.str))) (Pn : Pen H p c ns a r) (ha : a + 2 * xs.length ≤ 900000) (h100 : xs.length ≤ 100)
    (k : ∀ (D : Addr) (ps : List Addr) (l : List (Str × Int)) H', H' D = some (.lst (ps.map V.ref)) → PrT H' ps l → (l.map (·.1)).Sublist xs → (∀ q ∈ l, 0 ≤ q.2 ∧ q.2 ≤ 9) → Drawn H p c ns (a + 2 * xs.length) H' → Q (.ref D) H') :
    tLc (fun _ H R => R (Itl K l) H) (gName 9) (tTest (tOp rEq (tCall spDraw [] C8.E0 (tCons (tVar 0) (tCons (tC (V.int 5)) tNil))) (tC (V.int 0)))) (tTup (tCons (tVar 9) (tCons (tCall spDraw [] C8.E0 (tCons (tVar 0) (tCons (tC (V.int 10)) tNil))) tNil))) [9] [some (.ref p), s1, s2, s3, s4, s5, s6, s7, s8, s9] H Q := by
  intro D hD
  have P1 := Pn
  have Dp : D ≠ p := fun z => by rw [z, P1.hp] at hD; cases hD
  have Dc : D ≠ c := fun z => by rw [z, P1.hc] at hD; cases hD
  have lp := pen_ne P1 gl
  have z100 : (200 : Nat) ≤ sizeLine := by decide
  refine lc_list (xs := xs.map V.str) (fun j H' => Drawn H p c ns (a + 2 * j) H' ∧ ∃ (ps : List Addr) (l : List (Str × Int)), H' D = some (.lst (ps.map V.ref)) ∧ PrT H' ps l ∧ ps.length ≤ j ∧ (l.map (·.1)).Sublist (xs.take j) ∧ ∀ q ∈ l, 0 ≤ q.2 ∧ q.2 ≤ 9)
    ⟨⟨a, r, P1.put Dp Dc, by omega, butPut But.refl hD⟩, [], [], upd_same, trivial, Nat.le_refl _, List.nil_sublist _, nofun⟩ (fun j H' _ z => SqL.of (by obtain ⟨⟨a2, r2, P2, l2, B2⟩, _⟩ := z; exact B2 _ _ gl lp)) ?_ ?_
  · rintro j y H2 hy ⟨⟨a2, r2, P2, l2, B2⟩, ps, l, gD, pr, lps, sb, hq⟩
    rw [List.getElem?_map] at hy
    obtain ⟨z, hz, rfl⟩ := Option.map_eq_some_iff.mp hy
    have hj : j < xs.length := (List.getElem?_eq_some_iff.mp hz).1
    have kp : ∀ {H3 : Hp} {x y : Int}, Pen H2 p c ns x y → But p H2 H3 → PrT H3 ps l := fun P B => pr.keep fun t q e => B _ _ e (fun n => by rw [n, P.hp] at e; cases e)
    refine ⟨rfl, _, rfl, p, c, ns, a2, r2, _, rfl, P2, by omega, by decide, by decide, fun d H3 d0 d5 hd => ?_⟩
    obtain ⟨a3, r3, P3, l3, B3⟩ := hd
    have gD3 := B3 _ _ gD Dp
    have pr3 := kp P2 B3
    have B3 := B2.trans B3
    obtain ⟨sb1, sb2⟩ := takeSub hz sb
    refine ⟨rfl, _, rfl, ite2 (fun _ => ?_) (fun _ => ⟨⟨a3, r3, P3, by omega, B3⟩, ps, l, gD3, pr3, by omega, sb1, hq⟩)⟩
    refine ⟨_, rfl, _, rfl, p, c, ns, a3, r3, _, rfl, P3, by omega, by decide, by decide, fun n H4 n0 n9 hd => ?_⟩
    obtain ⟨a4, r4, P4, l4, B4⟩ := hd
    have gD4 := B4 _ _ gD3 Dp
    have pr4 : PrT H4 ps l := pr3.keep fun t q e => B4 _ _ e (fun n => by rw [n, P3.hp] at e; cases e)
    have B4 := B3.trans B4
    refine ⟨by show 2 ≤ sizeLine; decide, fun t ht => ?_⟩
    have s5 : Same H4 (upd H4 t (.tup [.str z, .int n])) := Same.new ht
    have gt : (upd H4 t (.tup [.str z, .int n])) t = some (.tup [.str z, .int n]) := upd_same
    have gD5 := s5 _ _ gD4
    have pr5 := (pr4.keep fun t q e => s5 _ _ e).snoc gt
    have P5 := P4.same s5
    have B5 := B4.trans (But.same s5)
    generalize (upd H4 t (.tup [.str z, .int n])) = H5 at *
    refine ⟨_, gD5, by rw [List.length_map]; omega, ⟨a4, r4, P5.put Dp Dc, by omega, butPut B5 hD⟩, ps ++ [t], l ++ [(z, n)], by rw [upd_same, List.map_append]; rfl, pr5.keep (fun t q e => (upd_ne (fun n => by rw [n, gD5] at e; cases e)).trans e), by rw [List.length_append]; show ps.length + 1 ≤ j + 1; omega, by rw [List.map_append]; exact sb2, fun q hm => (List.mem_append.mp hm).elim (hq q) fun e => by rw [List.mem_singleton.mp e]; exact ⟨n0, by omega⟩⟩
  · rintro H2 ⟨hd, ps, l, gD, pr, lps, sb, hq⟩
    rw [List.length_map] at hd sb
    rw [List.take_length] at sb
    exact k D ps l H2 gD pr sb hq hd
theorem cut1 (xs : List Str) (h : 1 ≤ xs.length) : cutV (xs.map V.str) (some 1) none = (xs.drop 1).map V.str := by
  have e1 : ∀ n : Nat, 1 ≤ n → HT.sIx n 0 (some 1) = 1 := fun n h => by
    show HT.sIx n 0 (some ((1 : Nat) : Int)) = 1
    rw [HT.sIx_nat]
    omega
  unfold cutV
  rw [List.length_map, e1 _ h, HT.sIx_none, ← List.map_drop, List.take_of_length_le]
  rw [List.length_map, List.length_drop]
  exact Nat.le_refl _
theorem cutT (xs : List Str) (h : 1 ≤ xs.length) : cutV (xs.map V.str) none (some 1) = (xs.take 1).map V.str := by
  have e1 : ∀ n : Nat, 1 ≤ n → HT.sIx n n (some 1) = 1 := fun n h => by
    show HT.sIx n n (some ((1 : Nat) : Int)) = 1
    rw [HT.sIx_nat]
    omega
  unfold cutV
  rw [List.length_map, e1 _ h, HT.sIx_none, ← List.map_drop, ← List.map_take]
  rfl
theorem opv {r : R2} {i : Nat} {x : V} {tb : TE} {σ : L2.St} {H : Hp} {Q : VK} (e : σ[i]? = some (some x)) (h : tb σ H fun y H2 => r x y H2 Q) : tOp r (tVar i) tb σ H Q := ⟨x, e, h⟩
theorem nxT {D : L2.Ends} {σ : L2.St} {H : Hp} (h : D.nx σ H) : tNext D σ H := h
theorem sdp {i : Nat} {k : V} {tv : TE} {tr : TS} {D : L2.Ends} {σ : L2.St} {H : Hp} (h : tv σ H fun v H1 => tVar i σ H1 fun x H2 => ∃ a H4, x = .ref a ∧ DPut H2 a k v H4 ∧ tr D σ H4) : tSeq (sDPut (tVar i) (tC k) tv) tr D σ H := h
theorem agSome {l : List (Str × Int)} {z : Str} : (valV (agK l) (.inr z)).isSome = decide (z ∈ l.map (·.1)) := by
  by_cases h : z ∈ l.map (·.1)
  · obtain ⟨n, e, _⟩ := agIn h
    rw [e, decide_eq_true h]
    rfl
  · rw [agOut h, decide_eq_false h]
    rfl
theorem fresh0 {p S : Addr} {H H' : Hp} (b : But p H H') (h : H' S = none) (n : S ≠ p) : H S = none := by
  cases e : H S with
  | none => rfl
  | some o => rw [b _ _ e n] at h; cases h
theorem LotsAt.putD {H : Hp} {S L : Addr} {kvs : List (Key × V)} {o : HO} {as : List Act} (g : H S = some (.dK kvs)) (h : LotsAt H L as) : LotsAt (upd H S o) L as := by
  obtain ⟨ts, e, l, q⟩ := h
  have ne : ∀ {a : Addr} {u : HO}, H a = some u → (∀ k, u ≠ .dK k) → (upd H S o) a = some u := fun {a u} e n => (upd_ne (fun z => by rw [z, g] at e; exact n _ (Option.some.inj e).symm)).trans e
  exact ⟨ts, ne e (fun _ z => nomatch z), l, fun i t a e1 e2 => (q i t a e1 e2).imp fun u r => ⟨ne r.1 (fun _ z => nomatch z), ne r.2 (fun _ z => nomatch z)⟩⟩

section
variable {P : Program} {w : World} {K : PySem.W.Frag} {mg : Str → Option Value} {base : Heap}
theorem ok_or {f : Addr} {fd : FuncData} (F : Fun K "_law_order" "_law_order" sOr f fd) : FnOk P w K mg base CX0 1 f fd [] spOr := by
  refine F.ok scOr (fun vs H Q E h => ?_) (fun cdv A outer s H vs Q E hr h => ?_)
  · obtain ⟨rfl, _⟩ := h
    rfl
  · obtain ⟨rfl, k⟩ := h
    refine ⟨_, (pss_one (ps_ret (pe_lst (pa_cons pe_str (pa_cons pe_str (pa_cons pe_str (pa_cons pe_str (pa_cons pe_str pa_nil)))))))), ?_⟩
    refine ⟨by show 5 ≤ sizeLine; decide, fun a ha => ?_⟩
    exact k a _ (Same.new ha) ha upd_same
end
end K07

set_option Elab.async false
set_option linter.all false
set_option maxRecDepth 100000
set_option maxHeartbeats 4000000
/-! The law's program made. -/
namespace K07
open PySem L2 NX NU
open PyProof.Rows (sortedS)
abbrev sRp : Stmt := top 82
abbrev sRl : Stmt := top 83
abbrev NRp : List Str := ["_law_deeds_here", "_law_made", "_law_used"]
abbrev NRl : List Str := ["_law_site_here", "_law_parts", "_law_some_here", "_law_part"]
theorem scRp : FnScope NRp ["_law_deeds_here"] (defScope sRp) := ⟨rfl, rfl, rfl, by decide +kernel, rfl, by decide +kernel, by decide +kernel⟩
theorem scRl : FnScope NRl ["_law_site_here"] (defScope sRl) := ⟨rfl, rfl, rfl, by decide +kernel, rfl, by decide +kernel, by decide +kernel⟩
abbrev dvsP (t0 t1 t2 : Addr) : List V := [.ref t0, .non, .ref t1, .non, .ref t2]
abbrev kwsP (t3 t4 : Addr) : List (Str × V) := [("given", .ref t3), ("again", .non), ("results", .ref t4)]
section
variable {K : PySem.W.Frag} {f : Addr} {fd : FuncData} {t0 t1 t2 t3 t4 : Addr}
theorem kb6 (F : L2.FunD K "__init__" "Program.__init__" (defArgs sPi) (defBody sPi) (defScope sPi) (dvsP t0 t1 t2) (kwsP t3 t4) f fd) : KBn K fd pPi 6 ["given", "again", "results"] (fun us ws => us ++ ws) (fun vs zs => vs ++ zs) := by
  obtain ⟨its, mv, h⟩ := F.kbinds (ps := pPi) 6 ["given", "again", "results"] [] (fun us its mv ws => us ++ ws) (by intro h; cases h) (by intro h; cases h) nofun (fun r1 _ _ r2 => r1.append r2) (fun T D doc pm an cdv ct us its mv ws l1 l2 l3 l4 => by
    match us, its, mv, ws, l1, l2, l3, l4 with
    | [_, _, _, _, _, _], [_, _, _, _, _], [], [_, _, _], _, _, _, _ => exact ⟨_, rfl, rfl⟩)
  exact h
theorem kb2 (F : L2.FunD K "__init__" "Program.__init__" (defArgs sPi) (defBody sPi) (defScope sPi) (dvsP t0 t1 t2) (kwsP t3 t4) f fd) : ∃ its mv : List Value, KBn K fd pPi 2 ["given", "results"] (fun us ws => us ++ its.drop 1 ++ ws.take 1 ++ mv ++ ws.drop 1) (fun vs zs => vs ++ (dvsP t0 t1 t2).drop 1 ++ zs.take 1 ++ [.non] ++ zs.drop 1) :=
  F.kbinds (ps := pPi) 2 ["given", "results"] [("again", .non)] (fun us its mv ws => us ++ its.drop 1 ++ ws.take 1 ++ mv ++ ws.drop 1) (by intro h; cases h) (by intro h; cases h) (fun q h => by rw [List.mem_singleton.mp h]; simp) (fun r1 r2 r3 r4 => (((r1.append (r2.drop 1)).append (r4.take 1)).append r3).append (r4.drop 1)) (fun T D doc pm an cdv ct us its mv ws l1 l2 l3 l4 => by
    match us, its, mv, ws, l1, l2, l3, l4 with
    | [_, _], [_, _, _, _, _], [_], [_, _], _, _, _, _ => exact ⟨_, rfl, _, _, _, _, _, _, rfl, rfl, rfl⟩)
end
/-- a part as it is drawn -/
def PtI (H : Hp) (v : V) : Option (List Act) → Prop
  | none => v = .non
  | some as => ∃ L, v = .ref L ∧ LotsAt H L as ∧ as.length ≤ 200 ∧ ∀ a ∈ as, LotOk a.1 a.2
/-- a part of the package's deeds, in a new list -/
def PtR (d : D3) (H H' : Hp) (v : V) : Option (List Act) → Prop
  | none => v = .non
  | some as => ∃ (p : Addr) (xs : List Addr), v = .ref p ∧ H p = none ∧ H' p = some (.lst (xs.map V.ref)) ∧ AllAt d H' xs as
def spRp (K : PySem.W.Frag) (d : D3) : Sp := fun vs H Q _ => ∃ (v : V) (o : Option (List Act)), vs = [v] ∧ PtI H v o ∧ ∀ v' H', Same H H' → PtR d H H' v' o → Q v' H'
section
variable {P : Program} {w : World} {K : PySem.W.Frag} {mg : Str → Option Value} {base : Heap}
theorem ok_rp {d : D3} {f : Addr} {fd : FuncData} (F : Fun K "_law_real_part" "_law_real_part" sRp f fd) (cReal : C8.Cal P w K mg base 7 "_law_real_deed" (spReal K d) []) : FnOk P w K mg base CX0 8 f fd ["_law_deeds_here"] (spRp K d) := by
  refine F.ok scRp (fun vs H Q E h => ?_) (fun cdv A outer s H vs Q E hr h => ?_)
  · obtain ⟨v, o, rfl, _⟩ := h
    rfl
  · obtain ⟨v, o, rfl, h, k⟩ := h
    refine ⟨_, (pss_cons (ps_if (pt_cmpR op_isN (pv 0) pe_non (nomark _)) (pss_one (ps_ret pe_non)) pss_nil)
      (pss_one (ps_ret (pe_lc (own := [("_law_made", 1), ("_law_used", 2)]) (g := gTup K 2 (gCons (gName 1) (gCons (gName 2) gNil))) rfl scRp.nd (pi_list (pv 0)) (blkOk_by (own := [("_law_made", 1), ("_law_used", 2)]) (N := NRp) (sc := defScope sRp) (by decide +kernel)) (fun _ _ _ _ _ => (pg_tup (n := 2) rfl (pgs_cons (pg_name (i := 1) scRp.nd rfl (Or.inl rfl)) (pgs_cons (pg_name (i := 2) scRp.nd rfl (Or.inl rfl)) pgs_nil)))) (fun _ _ _ _ _ => pts_nil) (fun _ _ _ _ _ => (C8.pe_c cReal hr (by decide) rfl (pa_cons (pv 1) (pa_cons (pv 2) pa_nil)))))))), ?_⟩
    cases o with
    | none =>
      obtain rfl : v = .non := h
      exact ⟨_, rfl, rfl, _, rfl, iteT (k _ H (Same.refl H) rfl)⟩
    | some as =>
      obtain ⟨L, rfl, ⟨ts, gL, lt⟩, h200, lo⟩ := h
      refine ⟨_, rfl, rfl, _, rfl, iteF ?_⟩
      refine ⟨_, rfl, L, rfl, ⟨_, SqL.of gL⟩, fun D hD => ?_⟩
      have z200 : (300 : Nat) ≤ sizeLine := by decide
      refine lc_list (xs := ts.map V.ref) (fun j H' => Same H H' ∧ ∃ xs : List Addr, H' D = some (.lst (xs.map V.ref)) ∧ AllAt d H' xs (as.take j)) ⟨Same.new hD, [], upd_same, rfl, nofun⟩ (fun j H' _ z => SqL.of (z.1 _ _ gL)) ?_ ?_
      · rintro j y H2 hy ⟨s2, xs, gD, al⟩
        rw [List.getElem?_map] at hy
        obtain ⟨t, ht, rfl⟩ := Option.map_eq_some_iff.mp hy
        have hj : j < as.length := by rw [← lt.1]; exact (List.getElem?_eq_some_iff.mp ht).1
        obtain ⟨a, ha⟩ : ∃ a, as[j]? = some a := ⟨_, List.getElem?_eq_getElem hj⟩
        obtain ⟨u, g1, g2⟩ := lt.2 j t a ht ha
        refine ⟨t, _, rfl, SqT.of (s2 _ _ g1), rfl, _, _, rfl, _, _, rfl, rfl, ?_⟩
        refine ⟨rfl, ?_⟩
        unfold tYes
        dsimp only
        rw [if_pos rfl]
        refine ⟨_, rfl, _, rfl, u, a.1, a.2, rfl, SqL.of (s2 _ _ g2), lo a (List.mem_of_getElem? ha), fun x H3 hn => ?_⟩
        obtain ⟨s3, hx, ys, isd⟩ := hn
        have gD3 := s3 _ _ gD
        have lx := al.1
        rw [List.length_take] at lx
        have put : ∀ {x' mk us ys}, IsD d H3 x' mk us ys → IsD d (upd H3 D (.lst (xs.map V.ref ++ [V.ref x]))) x' mk us ys := fun {x' mk us ys} h => h.kl (fun b o e n => (upd_ne (fun z => by rw [z, gD3] at e; exact n _ (Option.some.inj e).symm)).trans e)
        refine ⟨_, gD3, by rw [List.length_map]; omega, sameUpd (s2.trans s3) hD, xs ++ [x], by rw [upd_same, List.map_append]; rfl, ?_⟩
        rw [takeSnoc ha]
        refine ⟨by rw [List.length_append, List.length_append, al.1]; rfl, fun i x2 a2 e1 e2 => ?_⟩
        by_cases hi : i < xs.length
        · rw [List.getElem?_append_left hi] at e1
          rw [List.getElem?_append_left (by rw [← al.1]; exact hi)] at e2
          exact (al.2 i x2 a2 e1 e2).imp fun ys h => put (h.same s3)
        · obtain ⟨q, rfl⟩ : ∃ q, i = xs.length + q := ⟨i - xs.length, by omega⟩
          have hl := al.1
          rw [List.getElem?_append_right (by omega)] at e1
          rw [List.getElem?_append_right (by omega)] at e2
          rw [Nat.add_sub_cancel_left] at e1
          cases q with
          | zero =>
            rw [← hl, Nat.add_zero, Nat.sub_self] at e2
            cases e1
            cases e2
            exact ⟨ys, put isd⟩
          | succ q => cases e1
      · rintro H2 ⟨s2, xs, gD, al⟩
        rw [List.length_map, lt.1, List.take_length] at al
        exact k _ H2 s2 ⟨D, xs, rfl, hD, gD, al⟩
end
end K07

set_option Elab.async false
set_option linter.all false
set_option maxRecDepth 100000
set_option maxHeartbeats 4000000
/-! The law's program made, 2. -/
namespace K07
open PySem L2 NX NU
open PyProof.Rows (sortedS)
/-- a part in the list of parts at D -/
def PL (d : D3) (H : Hp) (D : Addr) (v : V) : Option (List Act) → Prop
  | none => v = .non
  | some as => ∃ (p : Addr) (xs : List Addr), v = .ref p ∧ p ≠ D ∧ H p = some (.lst (xs.map V.ref)) ∧ AllAt d H xs as
theorem AllAt.kl {d : D3} {H H' : Hp} {xs : List Addr} {as : List Act} (s : KL H H') (h : AllAt d H xs as) : AllAt d H' xs as := ⟨h.1, fun i x a e1 e2 => (h.2 i x a e1 e2).imp fun _ q => q.kl s⟩
theorem PL.but {d : D3} {H H' : Hp} {D : Addr} {v : V} {ys : List V} (g : H D = some (.lst ys)) (B : But D H H') : ∀ {o : Option (List Act)}, PL d H D v o → PL d H' D v o
  | none, h => h
  | some _, ⟨p, xs, e, n, a, b⟩ => ⟨p, xs, e, n, B _ _ a n, b.kl fun c u h k => B c u h fun z => by rw [z, g] at h; exact k _ (Option.some.inj h).symm⟩
theorem PL.inO {K : PySem.W.Frag} {d : D3} {H : Hp} {D : Addr} {v : V} : ∀ {o : Option (List Act)}, PL d H D v o → InO K d H v o
  | none, h => h
  | some _, ⟨p, xs, e, _, a, b⟩ => ⟨p, xs, e, .inl (SqL.of a), b⟩
theorem PtR.pl {d : D3} {H H' : Hp} {D : Addr} {v : V} {o' : HO} (g : H D = some o') : ∀ {o : Option (List Act)}, PtR d H H' v o → PL d H' D v o
  | none, h => h
  | some _, ⟨p, xs, e, n, a, b⟩ => ⟨p, xs, e, (fun z => by rw [z, g] at n; cases n), a, b⟩
theorem lots0 {H : Hp} {b : Addr} (h : H b = some (.lst [])) : LotsAt H b [] := ⟨[], h, rfl, nofun⟩
/-- Program(..) is made -/
structure PM (P : Program) (w : World) (K : PySem.W.Frag) (mg : Str → Option Value) (base : Heap) (d : D3) (C f : Addr) (fd : FuncData) (t0 t1 t2 t3 t4 : Addr) : Prop where
  mak : Mk K C f
  fn : FnOk P w K mg base CX0 5 f fd pPi (spPi K d)
  g : mg "Program" = some (.ref C)
  fd_ : L2.FunD K "__init__" "Program.__init__" (defArgs sPi) (defBody sPi) (defScope sPi) (dvsP t0 t1 t2) (kwsP t3 t4) f fd
  cls : PCls K C
  e1 : ∀ H, SqT K H t1 []
  e2 : ∀ H, SqT K H t2 []
section
variable {P : Program} {w : World} {K : PySem.W.Frag} {mg : Str → Option Value} {base : Heap}
theorem pe_c0 {X : Cx} {k j : Nat} {x : Str} {sp : Sp} {dvs : List V} {p pos : Pos} (c : C8.Cal X.prog X.w X.K X.mg X.base k x sp dvs) (hr : Room j X.A) (hk : k ≤ j) (hg : Gl X x)
    (hdb : (x == ("__debug__" : Str)) = false := by decide) : PE X (.Call (.Name x p) [] [] pos) (tCall sp dvs C8.E0 tNil) := by
  obtain ⟨f, fd, ps, ds, F, hm, kp, b, d⟩ := c.ex
  exact pe_call0 F (hr.mono hk) hg hm kp b d C8.pass0 hdb
end
end K07

set_option Elab.async false
set_option linter.all false
set_option maxRecDepth 100000
set_option maxHeartbeats 4000000
/-! The law's programs, with loops. -/
namespace K07
open PySem L2 NX NU
open PyProof.Rows (sortedS)
def sk7 (gv ag vl vb vx vh vL : V) : List (Key × V) := [(.inr "given", gv), (.inr "again", ag), (.inr "loop", vl), (.inr "between", vb), (.inr "second", vx), (.inr "behind", vh), (.inr "ahead", vL)]
def sk8 (gv ag vl vb vx vh vL r : V) : List (Key × V) := [(.inr "given", gv), (.inr "again", ag), (.inr "loop", vl), (.inr "between", vb), (.inr "second", vx), (.inr "behind", vh), (.inr "ahead", vL), (.inr "results", r)]
/-- a drawn program at S -/
structure SiteG (H : Hp) (S : Addr) (t : Tol) : Prop where
  ex : ∃ (gv ag r : Addr) (vl vb vx vh vL : V), H S = some (.dK (sk8 (.ref gv) (.ref ag) vl vb vx vh vL (.ref r))) ∧ H gv = some (.lst (t.us.map V.str)) ∧ AgD H ag t.ag ∧ H r = some (.lst (t.rs.map V.str)) ∧
    PtI H vL (some t.g.a) ∧ PtI H vl t.g.l ∧ PtI H vb (some t.g.b) ∧ PtI H vx t.g.s ∧ PtI H vh (some t.g.h)
/-- what is there of a program with so many loops -/
def Loops (nl : Nat) (g : Prg) : Prop := (g.l.isSome = decide (0 < nl)) ∧ (g.s.isSome = decide (1 < nl)) ∧ (nl ≤ 1 → g.b = []) ∧ (nl = 0 → g.h = [])
theorem PtI.but {H H' : Hp} {p c : Addr} {ns : List Int} {x y : Int} {v : V} (P : Pen H p c ns x y) (B : But p H H') : ∀ {o : Option (List Act)}, PtI H v o → PtI H' v o
  | none, h => h
  | some _, ⟨L, e, l, a, b⟩ => ⟨L, e, l.but P B, a, b⟩
theorem PtI.putD {H : Hp} {S : Addr} {kvs : List (Key × V)} {o' : HO} {v : V} (g : H S = some (.dK kvs)) : ∀ {o : Option (List Act)}, PtI H v o → PtI (upd H S o') v o
  | none, h => h
  | some _, ⟨L, e, l, a, b⟩ => ⟨L, e, l.putD g, a, b⟩
/-- what stands while the parts are drawn -/
structure SiS (H0 H : Hp) (p c : Addr) (ns : List Int) (m : Int) (most : Nat) (gv ag : Addr) (vl vb vx vh vL : V) (S kn fr : Addr) (us : List Str) (l : List (Str × Int)) (ws fs hs : List Str) (g : Prg) : Prop where
  pen : ∃ a r, Pen H p c ns a r ∧ a ≤ m
  but : But p H0 H
  s0 : H0 S = none
  site : H S = some (.dK (sk7 (.ref gv) (.ref ag) vl vb vx vh vL))
  gv_ : H gv = some (.lst (us.map V.str))
  ag_ : AgD H ag l
  kn_ : H kn = some (.lst (hs.map V.str))
  fr_ : H fr = some (.lst (fs.map V.str))
  pa : PtI H vL (some g.a)
  pl : PtI H vl g.l
  pb : PtI H vb (some g.b)
  px : PtI H vx g.s
  ph : PtI H vh (some g.h)
  uses : ∀ i, i < 5 → UsesOk (l.map (·.1)) (g.lastAt (us ++ l.map (·.1)) i) ((g.at i).getD [])
  eq : ∀ z, z ∈ hs ↔ z ∈ g.lastAt (us ++ l.map (·.1)) 5
  uni : Uni hs
  pos : 0 < hs.length
  hin : ∀ z ∈ hs, z ∈ ws
  inn : ∀ z ∈ actsN g.acts, z ∈ ws
  len : ∀ i, i < 5 → ((g.at i).getD []).length ≤ most
theorem agD_ne {H : Hp} {p c ag : Addr} {ns : List Int} {x y : Int} {l : List (Str × Int)} (P : Pen H p c ns x y) (h : AgD H ag l) : ag ≠ p := fun e => by unfold AgD at h; rw [e, P.hp] at h; cases h
section
variable {H0 H H' : Hp} {p c : Addr} {ns : List Int} {m m' : Int} {most : Nat} {gv ag : Addr} {vl vb vx vh vL : V} {S kn fr : Addr} {us : List Str} {l : List (Str × Int)} {ws fs hs : List Str} {g : Prg}
theorem SiS.sp (h : SiS H0 H p c ns m most gv ag vl vb vx vh vL S kn fr us l ws fs hs g) : S ≠ p := fun e => by
  obtain ⟨a, r, P, _⟩ := h.pen
  have z := h.site
  rw [e, P.hp] at z
  cases z
/-- behind some draws, and new things -/
theorem SiS.step (h : SiS H0 H p c ns m most gv ag vl vb vx vh vL S kn fr us l ws fs hs g) (hd : ∃ a r, Pen H' p c ns a r ∧ a ≤ m') (B : But p H H') : SiS H0 H' p c ns m' most gv ag vl vb vx vh vL S kn fr us l ws fs hs g := by
  obtain ⟨a, r, P, _⟩ := h.pen
  exact { h with pen := hd, but := h.but.trans B, site := B _ _ h.site h.sp, gv_ := B _ _ h.gv_ (pen_ne P h.gv_), ag_ := B _ _ h.ag_ (agD_ne P h.ag_), kn_ := B _ _ h.kn_ (pen_ne P h.kn_), fr_ := B _ _ h.fr_ (pen_ne P h.fr_), pa := h.pa.but P B, pl := h.pl.but P B, pb := h.pb.but P B, px := h.px.but P B, ph := h.ph.but P B }
theorem lst_ne {a : Addr} {xs : List V} {kvs : List (Key × V)} (e : H a = some (.lst xs)) (g : H S = some (.dK kvs)) : a ≠ S := fun z => by rw [z, g] at e; cases e
/-- a part is put to the dict -/
theorem SiS.put {vl' vb' vx' vh' : V} {kn' : Addr} {hs' : List Str} {g' : Prg} (h : SiS H0 H p c ns m most gv ag vl vb vx vh vL S kn fr us l ws fs hs g) (hag : ag ≠ S) (gk : H kn' = some (.lst (hs'.map V.str))) (pa : PtI H vL (some g'.a)) (pl : PtI H vl' g'.l) (pb : PtI H vb' (some g'.b)) (px : PtI H vx' g'.s) (ph : PtI H vh' (some g'.h))
    (uses : ∀ i, i < 5 → UsesOk (l.map (·.1)) (g'.lastAt (us ++ l.map (·.1)) i) ((g'.at i).getD [])) (eq : ∀ z, z ∈ hs' ↔ z ∈ g'.lastAt (us ++ l.map (·.1)) 5) (uni : Uni hs') (pos : 0 < hs'.length) (hin : ∀ z ∈ hs', z ∈ ws) (inn : ∀ z ∈ actsN g'.acts, z ∈ ws) (len : ∀ i, i < 5 → ((g'.at i).getD []).length ≤ most) :
    SiS H0 (upd H S (.dK (sk7 (.ref gv) (.ref ag) vl' vb' vx' vh' vL))) p c ns m most gv ag vl' vb' vx' vh' vL S kn' fr us l ws fs hs' g' := by
  obtain ⟨a, r, P, e⟩ := h.pen
  have Sp := h.sp
  have Sc : S ≠ c := fun z => by have q := h.site; rw [z, P.hc] at q; cases q
  exact ⟨⟨a, r, P.put Sp Sc, e⟩, butPut h.but h.s0, h.s0, upd_same, (upd_ne (lst_ne h.gv_ h.site)).trans h.gv_, (upd_ne hag).trans h.ag_, (upd_ne (lst_ne gk h.site)).trans gk, (upd_ne (lst_ne h.fr_ h.site)).trans h.fr_,
    pa.putD h.site, pl.putD h.site, pb.putD h.site, px.putD h.site, ph.putD h.site, uses, eq, uni, pos, hin, inn, len⟩
theorem aft_congr {A B : List Str} {as : List Act} (h : ∀ z, z ∈ A ↔ z ∈ B) : ∀ z, z ∈ aft A as ↔ z ∈ aft B as := fun z => by
  unfold aft
  rw [List.mem_append, List.mem_append, h z]
theorem last5 (g : Prg) (bs : List Str) : g.lastAt bs 5 = aft (aft (aft bs g.a) g.b) g.h := rfl
theorem acts5 (g : Prg) (z : Str) : z ∈ actsN g.acts ↔ z ∈ actsN g.a ∨ z ∈ actsN (g.l.getD []) ∨ z ∈ actsN g.b ∨ z ∈ actsN (g.s.getD []) ∨ z ∈ actsN g.h := by
  have e : actsN g.acts = actsN g.a ++ actsN (g.l.getD []) ++ actsN g.b ++ actsN (g.s.getD []) ++ actsN g.h := by
    show actsN (((((([] ++ g.a) ++ g.l.getD []) ++ g.b) ++ g.s.getD []) ++ g.h)) = _
    rw [List.nil_append, actsN_app, actsN_app, actsN_app, actsN_app]
  rw [e]
  simp only [List.mem_append, or_assoc]
/-- what a further lot of deeds keeps -/
theorem drw_in {as : List Act} {hs hs2 : List Str} (dr : Drw hs fs as hs2) (hin : ∀ z ∈ hs, z ∈ ws) (hf : ∀ z ∈ fs, z ∈ ws) : (∀ z ∈ hs2, z ∈ ws) ∧ ∀ z ∈ actsN as, z ∈ ws := ⟨fun z hz => (dr.hin z hz).elim (hin z) (hf z), fun z hz => (dr.inn z hz).elim (hin z) (hf z)⟩
theorem pos_of {A B : List Str} (h : 0 < A.length) (k : ∀ z ∈ A, z ∈ B) : 0 < B.length := by
  cases A with
  | nil => cases h
  | cons z r => exact List.length_pos_of_mem (k z List.mem_cons_self)
theorem five {i : Nat} (h : i < 5) : i = 0 ∨ i = 1 ∨ i = 2 ∨ i = 3 ∨ i = 4 := by omega
/-- the first loop -/
theorem SiS.loop {as : List Act} {hs2 : List Str} {L : Addr} (h : SiS H0 H p c ns m most gv ag vl vb vx vh vL S kn fr us l ws fs hs g) (hag : ag ≠ S) (gb : g.b = []) (gh : g.h = []) (lots : LotsAt H L as) (dr : Drw hs fs as hs2) (hf : ∀ z ∈ fs, z ∈ ws ∧ z ∉ l.map (·.1)) (la : as.length ≤ most) (m8 : most ≤ 8) :
    SiS H0 (upd H S (.dK (sk7 (.ref gv) (.ref ag) (.ref L) vb vx vh vL))) p c ns m most gv ag (.ref L) vb vx vh vL S kn fr us l ws fs hs { g with l := some as } := by
  have di := drw_in dr h.hin (fun z hz => (hf z hz).1)
  refine h.put hag h.kn_ h.pa ⟨L, rfl, lots, (show as.length ≤ 200 by omega), dr.lot⟩ h.pb h.px h.ph (fun i i5 => ?_) h.eq h.uni h.pos h.hin (fun z hz => ?_) (fun i i5 => ?_)
  · rcases five i5 with rfl | rfl | rfl | rfl | rfl
    · exact h.uses 0 (by decide)
    · refine (dr.uses _ fun z hz => (hf z hz).2).congr fun z => ?_
      rw [h.eq z, last5, gb, gh, aft_nil, aft_nil]
      exact Iff.rfl
    · exact h.uses 2 (by decide)
    · exact h.uses 3 (by decide)
    · exact h.uses 4 (by decide)
  · rw [acts5] at hz
    have q := fun k => h.inn z ((acts5 g z).mpr k)
    rcases hz with k | k | k | k | k
    · exact q (.inl k)
    · exact di.2 z k
    · exact q (.inr (.inr (.inl k)))
    · exact q (.inr (.inr (.inr (.inl k))))
    · exact q (.inr (.inr (.inr (.inr k))))
  · rcases five i5 with rfl | rfl | rfl | rfl | rfl
    · exact h.len 0 (by decide)
    · exact la
    · exact h.len 2 (by decide)
    · exact h.len 3 (by decide)
    · exact h.len 4 (by decide)
/-- the deeds between -/
theorem SiS.between {as : List Act} {hs2 : List Str} {L N : Addr} (h : SiS H0 H p c ns m most gv ag vl vb vx vh vL S kn fr us l ws fs hs g) (hag : ag ≠ S) (gb : g.b = []) (gs : g.s = none) (gh : g.h = []) (lots : LotsAt H L as) (gN : H N = some (.lst (hs2.map V.str))) (dr : Drw hs fs as hs2) (hf : ∀ z ∈ fs, z ∈ ws ∧ z ∉ l.map (·.1)) (la : as.length ≤ most) (m8 : most ≤ 8) :
    SiS H0 (upd H S (.dK (sk7 (.ref gv) (.ref ag) vl (.ref L) vx vh vL))) p c ns m most gv ag vl (.ref L) vx vh vL S N fr us l ws fs hs2 { g with b := as } := by
  have di := drw_in dr h.hin (fun z hz => (hf z hz).1)
  have e1 : ∀ z, z ∈ hs ↔ z ∈ aft (us ++ l.map (·.1)) g.a := fun z => by
    rw [h.eq z, last5, gb, gh, aft_nil, aft_nil]
  refine h.put hag gN h.pa h.pl ⟨L, rfl, lots, (show as.length ≤ 200 by omega), dr.lot⟩ h.px h.ph (fun i i5 => ?_) (fun z => ?_) dr.here (pos_of h.pos fun z hz => (dr.eq z).mpr (by unfold aft; exact List.mem_append_left _ hz)) di.1 (fun z hz => ?_) (fun i i5 => ?_)
  · rcases five i5 with rfl | rfl | rfl | rfl | rfl
    · exact h.uses 0 (by decide)
    · exact h.uses 1 (by decide)
    · exact (dr.uses _ fun z hz => (hf z hz).2).congr e1
    · show UsesOk _ _ (g.s.getD [])
      rw [gs]
      exact trivial
    · show UsesOk _ _ g.h
      rw [gh]
      exact trivial
  · rw [dr.eq z, last5]
    show _ ↔ z ∈ aft (aft (aft _ g.a) as) g.h
    rw [gh, aft_nil]
    exact aft_congr e1 z
  · rw [acts5] at hz
    have q := fun k => h.inn z ((acts5 g z).mpr k)
    rcases hz with k | k | k | k | k
    · exact q (.inl k)
    · exact q (.inr (.inl k))
    · exact di.2 z k
    · exact q (.inr (.inr (.inr (.inl k))))
    · exact q (.inr (.inr (.inr (.inr k))))
  · rcases five i5 with rfl | rfl | rfl | rfl | rfl
    · exact h.len 0 (by decide)
    · exact h.len 1 (by decide)
    · exact la
    · exact h.len 3 (by decide)
    · exact h.len 4 (by decide)
/-- the second loop -/
theorem SiS.second {as : List Act} {hs2 : List Str} {L : Addr} (h : SiS H0 H p c ns m most gv ag vl vb vx vh vL S kn fr us l ws fs hs g) (hag : ag ≠ S) (gh : g.h = []) (lots : LotsAt H L as) (dr : Drw hs fs as hs2) (hf : ∀ z ∈ fs, z ∈ ws ∧ z ∉ l.map (·.1)) (la : as.length ≤ most) (m8 : most ≤ 8) :
    SiS H0 (upd H S (.dK (sk7 (.ref gv) (.ref ag) vl vb (.ref L) vh vL))) p c ns m most gv ag vl vb (.ref L) vh vL S kn fr us l ws fs hs { g with s := some as } := by
  have di := drw_in dr h.hin (fun z hz => (hf z hz).1)
  refine h.put hag h.kn_ h.pa h.pl h.pb ⟨L, rfl, lots, (show as.length ≤ 200 by omega), dr.lot⟩ h.ph (fun i i5 => ?_) h.eq h.uni h.pos h.hin (fun z hz => ?_) (fun i i5 => ?_)
  · rcases five i5 with rfl | rfl | rfl | rfl | rfl
    · exact h.uses 0 (by decide)
    · exact h.uses 1 (by decide)
    · exact h.uses 2 (by decide)
    · refine (dr.uses _ fun z hz => (hf z hz).2).congr fun z => ?_
      rw [h.eq z, last5, gh, aft_nil]
      exact Iff.rfl
    · exact h.uses 4 (by decide)
  · rw [acts5] at hz
    have q := fun k => h.inn z ((acts5 g z).mpr k)
    rcases hz with k | k | k | k | k
    · exact q (.inl k)
    · exact q (.inr (.inl k))
    · exact q (.inr (.inr (.inl k)))
    · exact di.2 z k
    · exact q (.inr (.inr (.inr (.inr k))))
  · rcases five i5 with rfl | rfl | rfl | rfl | rfl
    · exact h.len 0 (by decide)
    · exact h.len 1 (by decide)
    · exact h.len 2 (by decide)
    · exact la
    · exact h.len 4 (by decide)
/-- the deeds behind -/
theorem SiS.behind {as : List Act} {hs2 : List Str} {L N : Addr} (h : SiS H0 H p c ns m most gv ag vl vb vx vh vL S kn fr us l ws fs hs g) (hag : ag ≠ S) (gh : g.h = []) (lots : LotsAt H L as) (gN : H N = some (.lst (hs2.map V.str))) (dr : Drw hs fs as hs2) (hf : ∀ z ∈ fs, z ∈ ws ∧ z ∉ l.map (·.1)) (la : as.length ≤ most) (m8 : most ≤ 8) :
    SiS H0 (upd H S (.dK (sk7 (.ref gv) (.ref ag) vl vb vx (.ref L) vL))) p c ns m most gv ag vl vb vx (.ref L) vL S N fr us l ws fs hs2 { g with h := as } := by
  have di := drw_in dr h.hin (fun z hz => (hf z hz).1)
  have e1 : ∀ z, z ∈ hs ↔ z ∈ aft (aft (us ++ l.map (·.1)) g.a) g.b := fun z => by
    rw [h.eq z, last5, gh, aft_nil]
  refine h.put hag gN h.pa h.pl h.pb h.px ⟨L, rfl, lots, (show as.length ≤ 200 by omega), dr.lot⟩ (fun i i5 => ?_) (fun z => ?_) dr.here (pos_of h.pos fun z hz => (dr.eq z).mpr (by unfold aft; exact List.mem_append_left _ hz)) di.1 (fun z hz => ?_) (fun i i5 => ?_)
  · rcases five i5 with rfl | rfl | rfl | rfl | rfl
    · exact h.uses 0 (by decide)
    · exact h.uses 1 (by decide)
    · exact h.uses 2 (by decide)
    · exact h.uses 3 (by decide)
    · exact (dr.uses _ fun z hz => (hf z hz).2).congr e1
  · rw [dr.eq z, last5]
    exact aft_congr e1 z
  · rw [acts5] at hz
    have q := fun k => h.inn z ((acts5 g z).mpr k)
    rcases hz with k | k | k | k | k
    · exact q (.inl k)
    · exact q (.inr (.inl k))
    · exact q (.inr (.inr (.inl k)))
    · exact q (.inr (.inr (.inr (.inl k))))
    · exact di.2 z k
  · rcases five i5 with rfl | rfl | rfl | rfl | rfl
    · exact h.len 0 (by decide)
    · exact h.len 1 (by decide)
    · exact h.len 2 (by decide)
    · exact h.len 3 (by decide)
    · exact la
end
end K07

set_option Elab.async false
set_option linter.all false
set_option maxRecDepth 100000
set_option maxHeartbeats 4000000
/-! The law's programs, with loops, 2. -/
namespace K07
open PySem L2 NX NU
open PyProof.Rows (sortedS)
def spSg : Sp := fun vs H Q _ => ∃ (p c : Addr) (ns : List Int) (at_ rest : Int) (nl most : Nat), vs = [.ref p, .int (nl : Int), .int (most : Int)] ∧ Pen H p c ns at_ rest ∧ at_ ≤ 600000 ∧ nl ≤ 2 ∧ most ≤ 8 ∧
  ∀ S t H', SiteG H' S t → t.Ok → 0 < t.us.length + t.ag.length → Loops nl t.g → (∀ i, i < 5 → ((t.g.at i).getD []).length ≤ most) → Drawn H p c ns (at_ + 1000) H' → Q (.ref S) H'
theorem tolOkG {H0 H : Hp} {p c : Addr} {ns : List Int} {m : Int} {most : Nat} {gv ag : Addr} {vl vb vx vh vL : V} {S kn fr : Addr} {us : List Str} {l : List (Str × Int)} {ws fs hs rs : List Str} {g : Prg} {nl : Nat} (h : SiS H0 H p c ns m most gv ag vl vb vx vh vL S kn fr us l ws fs hs g) (lp : Loops nl g) (uw : Uni ws) (w6 : ws.length ≤ 6) (sbu : us.Sublist ws) (sbl : (l.map (·.1)).Sublist ws) (hq : ∀ q ∈ l, 0 ≤ q.2 ∧ q.2 ≤ 9) (m8 : most ≤ 8) (sbr : rs.Sublist hs) : Tol.Ok ⟨g, us, l, rs⟩ := by
  have lu := sbu.length_le
  have ll := sbl.length_le
  rw [List.length_map] at ll
  have lr := sbr.length_le
  have lh : hs.length ≤ 6 := Nat.le_trans (uniLen h.uni h.hin) w6
  obtain ⟨l1, l2, l3, l4⟩ := lp
  have n0 := h.len 0 (by decide)
  have n1 := h.len 1 (by decide)
  have n2 := h.len 2 (by decide)
  have n3 := h.len 3 (by decide)
  have n4 := h.len 4 (by decide)
  have n0 : g.a.length ≤ most := n0
  have n1 : (g.l.getD []).length ≤ most := n1
  have n2 : g.b.length ≤ most := n2
  have n3 : (g.s.getD []).length ≤ most := n3
  have n4 : g.h.length ≤ most := n4
  have al : g.acts.length = g.a.length + (g.l.getD []).length + g.b.length + (g.s.getD []).length + g.h.length := by
    show (((((([] ++ g.a) ++ g.l.getD []) ++ g.b) ++ g.s.getD []) ++ g.h)).length = _
    simp only [List.nil_append, List.length_append]
  refine ⟨⟨fun e => ?_, fun e => ?_⟩, ⟨(show g.a.length ≤ 200 by omega), (show (g.l.getD []).length ≤ 24 by omega), (show g.b.length ≤ 24 by omega), (show (g.s.getD []).length ≤ 24 by omega), (show g.h.length ≤ 24 by omega), (show g.a.length + g.b.length + g.h.length ≤ 200 by omega)⟩, ⟨fun z h => uw.2 z (sbu.subset h), uw.1.sublist sbu, (show us.length < 60 by omega)⟩, ⟨fun q h => uw.2 q.1 (sbl.subset (List.mem_map_of_mem h)), fun q h => (hq q h).1, fun q h => (hq q h).2, (show l.length < 60 by omega), uw.1.sublist sbl⟩, ⟨fun z hz => h.uni.2 z (sbr.subset hz), h.uni.1.sublist sbr, (show rs.length < 60 by omega)⟩, ⟨ws, fun z hz => ?_, w6⟩, ?_, ⟨h.uses, fun z hz => (h.eq z).mp (sbr.subset hz)⟩⟩
  · rw [show g.l = none from e] at l1
    have n : ¬ 0 < nl := of_decide_eq_false l1.symm
    have z : nl = 0 := by omega
    refine ⟨l3 (by omega), ?_, l4 z⟩
    rw [decide_eq_false (by omega)] at l2
    cases hs : g.s with
    | none => rfl
    | some q => rw [hs] at l2; cases l2
  · rw [show g.s = none from e] at l2
    have n : ¬ 1 < nl := of_decide_eq_false l2.symm
    exact l3 (by omega)
  · unfold Tol.words at hz
    dsimp only at hz
    rw [List.mem_append, List.mem_append, List.mem_append] at hz
    rcases hz with ((k | k) | k) | k
    · exact sbu.subset k
    · exact sbl.subset k
    · exact h.hin z (sbr.subset k)
    · exact h.inn z k
  · show us.length + l.length + rs.length + 4 * g.acts.length ≤ 1000
    omega
section
variable {P : Program} {w : World} {K : PySem.W.Frag} {mg : Str → Option Value} {base : Heap}
theorem ok_sg {f : Addr} {fd : FuncData} (F : Fun K "_law_site" "_law_site" sSi f fd) (T : TxtB mg) (N : TxtP mg) (cDraw : C8.Cal P w K mg base 1 "_law_draw" spDraw []) (cNames : C8.Cal P w K mg base 3 "_law_names" spLNames []) (cDs : C8.Cal P w K mg base 3 "_law_deeds" (spDs K) []) :
    FnOk P w K mg base CX0 4 f fd ["_law_pen_here", "_law_loops", "_law_most"] spSg := by
  refine F.ok scSi (fun vs H Q E h => ?_) (fun cdv A outer s H vs Q E hr h => ?_)
  · obtain ⟨p, c, ns, a, r, nl, most, rfl, _⟩ := h
    rfl
  · obtain ⟨p, c, ns, at_, rest, nl, most, rfl, Pn, hat, n2, m8, k⟩ := h
    have hu := hu_of hr
    refine ⟨_, (pss_cons (ps_set (i := 3) scSi.nd rfl (Or.inl rfl) (C8.pe_c cNames hr (by decide) rfl (pa_cons (pv 0) (pa_cons (pe_op op_add pe_int (C8.pe_c cDraw hr (by decide) rfl (pa_cons (pv 0) (pa_cons pe_int pa_nil)))) pa_nil))))
      (pss_cons (ps_set (i := 4) scSi.nd rfl (Or.inr rfl) (pe_callTy (call_dictP rfl) (by rfl) N.bdict (by decide +kernel) (pa_cons
          (pe_lc (own := [("_law_word", 9)]) (g := gName 9) rfl scSi.nd (pi_list (pe_slice sl_list (pv 3) (po_some pe_int) po_none)) (blkOk_by (own := [("_law_word", 9)]) (N := NSi) (sc := defScope sSi) (by decide +kernel)) (fun _ _ _ _ _ => (pg_name (i := 9) scSi.nd rfl (Or.inl rfl))) (fun _ _ _ _ _ => (pts_one (pt_cmpR op_eq (C8.pe_c cDraw hr (by decide) rfl (pa_cons (pv 0) (pa_cons pe_int pa_nil))) pe_int (nomark _)))) (fun _ _ _ _ _ => (pe_tup (pa_cons (pv 9) (pa_cons (C8.pe_c cDraw hr (by decide) rfl (pa_cons (pv 0) (pa_cons pe_int pa_nil))) pa_nil))))) pa_nil)))
      (pss_cons (ps_set (i := 5) scSi.nd rfl (Or.inr rfl) (pe_lc (own := [("_law_word", 9)]) (g := gName 9) rfl scSi.nd (pi_list (pv 3)) (blkOk_by (own := [("_law_word", 9)]) (N := NSi) (sc := defScope sSi) (by decide +kernel)) (fun _ _ _ _ _ => (pg_name (i := 9) scSi.nd rfl (Or.inl rfl))) (fun _ _ _ _ _ => (pts_one (pt_cmpR op_gt (C8.pe_c cDraw hr (by decide) rfl (pa_cons (pv 0) (pa_cons pe_int pa_nil))) pe_int (nomark _)))) (fun _ _ _ _ _ => (pv 9))))
      (C8.pss_cut (ps_if (PW.pt (pw_and (pt_cmpR (op_eqD hr.units) (pv 5) (pe_lst pa_nil) (nomark _)) (pw_and1 (pt_cmpR op_eq (pe_callB call_lenD (by rfl) T.blen (by decide +kernel) (pa_cons (pv 4) pa_nil)) pe_int (nomark _))))) (pss_one (ps_set (i := 5) scSi.nd rfl (Or.inr rfl) (pe_slice sl_list (pv 3) po_none (po_some pe_int)))) pss_nil)
      (pss_cons (ps_setLc (i := 6) (own := [("_law_word", 9)]) (g := gName 9) rfl scSi.nd rfl rfl (sw_true rfl rfl rfl (by decide +kernel)) (pi_list (pv 3)) (blkOk_by (own := [("_law_word", 9)]) (N := NSi) (sc := defScope sSi) (by decide +kernel)) (fun _ _ _ _ _ => (pg_name (i := 9) scSi.nd rfl (Or.inl rfl))) (fun _ _ _ _ _ => (pts_one (pt_cmp (pc_dnotin hu (pv 9) (pv 4))))) (fun _ _ _ _ _ => (pv 9)))
      (pss_cons (ps_set (i := 7) scSi.nd rfl (Or.inl rfl) (pe_op op_cat (pv 5) (pe_lc (own := [("_law_word", 9)]) (g := gName 9) rfl scSi.nd (pi_list (pv 3)) (blkOk_by (own := [("_law_word", 9)]) (N := NSi) (sc := defScope sSi) (by decide +kernel)) (fun _ _ _ _ _ => (pg_name (i := 9) scSi.nd rfl (Or.inl rfl))) (fun _ _ _ _ _ => (pts_one (PW.pt (pw_and (pt_cmp (pc_din hu (pv 9) (pv 4))) (pw_and1 (show PT _ _ (tTest (tOp (rIn K true) (tVar 9) (tVar 5))) from pt_cmpR op_notIn_seq (pv 9) (pv 5) rfl)))))) (fun _ _ _ _ _ => (pv 9)))))
      (pss_cons (ps_set (i := 8) scSi.nd rfl (Or.inl rfl) (pe_disp (pps_cons pe_str (pv 5) (pps_cons pe_str (pv 4) (pps_cons pe_str pe_non (pps_cons pe_str (pe_lst pa_nil) (pps_cons pe_str pe_non pps_nil))))) rfl rfl (by intro h; cases h) (by decide)))
      (pss_cons (ps_dput hu (pv 8) pe_str (pe_lst pa_nil) rfl)
      (pss_cons (ps_asg (C8.pe_c cDs hr (by decide) rfl (pa_cons (pv 0) (pa_cons (pv 7) (pa_cons (pv 6) (pa_cons (pv 2) pa_nil))))) (pg_tup rfl (pgs_cons (pg_sub (pv 8) pe_str (set_dict hu)) (pgs_cons (pg_name (i := 7) scSi.nd rfl (Or.inl rfl)) pgs_nil))))
      (C8.pss_cut (ps_if (pt_cmpR op_gt (pv 1) pe_int (nomark _)) (pss_one (ps_dput hu (pv 8) pe_str (pe_ix ix_tup (C8.pe_c cDs hr (by decide) rfl (pa_cons (pv 0) (pa_cons (pv 7) (pa_cons (pv 6) (pa_cons (pv 2) pa_nil))))) pe_int (fun _ _ => rfl)) rfl)) pss_nil)
      (C8.pss_cut (ps_if (pt_cmpR op_gt (pv 1) pe_int (nomark _)) (pss_cons (ps_asg (C8.pe_c cDs hr (by decide) rfl (pa_cons (pv 0) (pa_cons (pv 7) (pa_cons (pv 6) (pa_cons (pv 2) pa_nil))))) (pg_tup rfl (pgs_cons (pg_sub (pv 8) pe_str (set_dict hu)) (pgs_cons (pg_name (i := 7) scSi.nd rfl (Or.inl rfl)) pgs_nil)))) (pss_one (ps_dput hu (pv 8) pe_str (pe_ix ix_tup (C8.pe_c cDs hr (by decide) rfl (pa_cons (pv 0) (pa_cons (pv 7) (pa_cons (pv 6) (pa_cons (pv 2) pa_nil))))) pe_int (fun _ _ => rfl)) rfl))) pss_nil)
      (C8.pss_cut (ps_if (pt_cmpR op_gt (pv 1) pe_int (nomark _)) (pss_one (ps_asg (C8.pe_c cDs hr (by decide) rfl (pa_cons (pv 0) (pa_cons (pv 7) (pa_cons (pv 6) (pa_cons (pv 2) pa_nil))))) (pg_tup rfl (pgs_cons (pg_sub (pv 8) pe_str (set_dict hu)) (pgs_cons (pg_name (i := 7) scSi.nd rfl (Or.inl rfl)) pgs_nil))))) pss_nil)
      (pss_cons (ps_dput hu (pv 8) pe_str (pe_lc (own := [("_law_word", 9)]) (g := gName 9) rfl scSi.nd (pi_list (pv 7)) (blkOk_by (own := [("_law_word", 9)]) (N := NSi) (sc := defScope sSi) (by decide +kernel)) (fun _ _ _ _ _ => (pg_name (i := 9) scSi.nd rfl (Or.inl rfl))) (fun _ _ _ _ _ => (pts_one (pt_cmpR op_eq (C8.pe_c cDraw hr (by decide) rfl (pa_cons (pv 0) (pa_cons pe_int pa_nil))) pe_int (nomark _)))) (fun _ _ _ _ _ => (pv 9))) rfl)
      (pss_one (ps_ret (pv 8)))))))))))))))), ?_⟩
    have z100 : (200 : Nat) ≤ sizeLine := by decide
    refine ⟨_, rfl, _, rfl, p, c, ns, at_, rest, 6, rfl, Pn, by omega, by decide, by decide, fun d H1 d0 d6 hd => ?_⟩
    obtain ⟨dn, rfl⟩ := Int.eq_ofNat_of_zero_le d0
    obtain ⟨a1, r1, P1, l1, B1⟩ := hd
    refine ⟨_, _, rfl, rfl, p, c, ns, a1, r1, 1 + dn, rfl, by omega, by omega, P1, by omega, fun lw ws H2 hlw gw uw lws hd => ?_⟩
    obtain ⟨a2, r2, P2, l2, B2⟩ := hd
    have B2 := B1.trans B2
    have w6 : ws.length ≤ 6 := by omega
    have w1 : 1 ≤ ws.length := by omega
    clear d0 d6 P1 B1 hlw
    refine gNm ?_
    dsimp only
    refine sqA (cb1 (lcOf ?_))
    refine ⟨_, rfl, 1, rfl, lw, _, rfl, SqL.of gw, fun q hq => ?_⟩
    rw [cut1 ws w1]
    have s3 := Same.new (o := .lst ((ws.drop 1).map V.str)) hq
    have gq : (upd H2 q (.lst ((ws.drop 1).map V.str))) q = some (.lst ((ws.drop 1).map V.str)) := upd_same
    have gw := s3 _ _ gw
    have P2 := P2.same s3
    have B2 := B2.trans (But.same s3)
    clear s3 hq
    generalize (upd H2 q (.lst ((ws.drop 1).map V.str))) = H2 at *
    refine ⟨q, rfl, ⟨_, SqL.of gq⟩, ?_⟩
    refine lcPr (xs := ws.drop 1) gq P2 (by rw [List.length_drop]; omega) (by rw [List.length_drop]; omega) fun D ps l H3 gD pr sb hq hd => ?_
    obtain ⟨a3, r3, P3, l3, B3⟩ := hd
    rw [List.length_drop] at l3
    have gw3 := B3 _ _ gw (pen_ne P2 gw)
    have B3 := B2.trans B3
    have sb : (l.map (·.1)).Sublist ws := sb.trans (List.drop_sublist 1 ws)
    have nk : (l.map (·.1)).Nodup := uw.1.sublist sb
    have ll : l.length ≤ 6 := by have := sb.length_le; rw [List.length_map] at this; omega
    refine ⟨D, ps, agK l, rfl, SqL.of gD, pr.paired, fun pd hpd => ?_⟩
    have em : mergeK [] (agK l) = agK l := merge_ag (l0 := []) nk
    rw [em]
    have s4 : Same H3 (upd H3 pd (.dK (agK l))) := Same.new hpd
    have gd4 : AgD (upd H3 pd (.dK (agK l))) pd l := upd_same
    have gw4 := s4 _ _ gw3
    have P4 := P3.same s4
    have B4 := B3.trans (But.same s4)
    clear s4 pr gD gw3 P3 B3 hpd P2 B2
    generalize (upd H3 pd (.dK (agK l))) = H4 at *
    refine gNm ?_
    refine sqA (lcOf ⟨_, rfl, lw, rfl, ⟨_, SqL.of gw4⟩, ?_⟩)
    refine lcD (xs := ws) gw4 P4 (by omega) (by omega) (fun z G a5 r5 R P5 l5 hR => ⟨_, rfl, p, c, ns, a5, r5, _, rfl, P5, by omega, by decide, by decide, fun e G2 _ _ hd => ⟨_, _, rfl, rfl, _, rfl, hR _ G2 hd⟩⟩) fun kn0 us0 H5 hk gk sbk hd => ?_
    obtain ⟨a5, r5, P5, l5, B5⟩ := hd
    have gw5 := B5 _ _ gw4 (pen_ne P4 gw4)
    have pdp : pd ≠ p := fun e => by unfold AgD at gd4; rw [e, P4.hp] at gd4; cases gd4
    have gd5 : AgD H5 pd l := B5 _ _ gd4 pdp
    have B5 := B4.trans B5
    refine ⟨fun σ H' => ∃ kn us, σ = [some (.ref p), some (.int (nl : Int)), some (.int (most : Int)), some (.ref lw), some (.ref pd), some (.ref kn), none, none, none, none] ∧ Pen H' p c ns a5 r5 ∧ But p H H' ∧ H' lw = some (.lst (ws.map V.str)) ∧ AgD H' pd l ∧ H' kn = some (.lst (us.map V.str)) ∧ us.Sublist ws ∧ (us = [] → l ≠ []), ?_, ?_⟩
    · refine ⟨_, rfl, by show 0 ≤ sizeLine; decide, fun e he => ?_⟩
      have s6 : Same H5 (upd H5 e (.lst [])) := Same.new he
      have ge : (upd H5 e (.lst [])) e = some (.lst []) := upd_same
      have gw6 := s6 _ _ gw5
      have gd6 : AgD (upd H5 e (.lst [])) pd l := s6 _ _ gd5
      have gk6 := s6 _ _ gk
      have P6 := P5.same s6
      have B6 := B5.trans (But.same s6)
      generalize (upd H5 e (.lst [])) = H6 at *
      refine ⟨_, _, .lst (SqL.of gk6) (dpTup us0), .lst (SqL.of ge) .nil, shapedTup (fun z hz => uw.2 z (sbk.subset hz)), by decide +kernel, _, rfl, ?_⟩
      cases us0 with
      | cons z zs => exact iteF (iteF ⟨kn0, z :: zs, rfl, P6, B6, gw6, gd6, gk6, sbk, nofun⟩)
      | nil =>
        refine iteT ⟨_, rfl, pd, _, rfl, gd6, rfl, _, rfl, ?_⟩
        cases l with
        | cons q r => exact iteF ⟨kn0, [], rfl, P6, B6, gw6, gd6, gk6, sbk, fun _ => nofun⟩
        | nil =>
          refine iteT ⟨_, rfl, 1, rfl, lw, _, rfl, SqL.of gw6, fun q hq => ?_⟩
          have s7 := Same.new (o := .lst (cutV (ws.map V.str) none (some 1))) hq
          refine ⟨q, ws.take 1, rfl, P6.same s7, B6.trans (But.same s7), s7 _ _ gw6, s7 _ _ gd6, by rw [upd_same, cutT ws w1], List.take_sublist 1 ws, fun e => ?_⟩
          have := congrArg List.length e
          rw [List.length_take] at this
          rw [List.length_nil] at this
          omega
    · clear gd5 gw5 gk B5 P5 sbk hk
      rintro σ H6 ⟨kn, us, rfl, P6, B6, gw6, gd6, gk6, sbu, hne⟩
      obtain ⟨ks, hks⟩ : ∃ ks, ks = l.map (·.1) := ⟨_, rfl⟩
      refine sqA (lcOf ⟨_, rfl, lw, rfl, ⟨_, SqL.of gw6⟩, ?_⟩)
      refine lcP (fun z => !decide (z ∈ ks)) gw6 (by omega) (fun z G R sG hR => ⟨_, rfl, _, rfl, pd, _, rfl, DGet.k (k := .inr z) (sG _ _ gd6), _, rfl, (by rw [agSome, ← hks]; exact hR)⟩) fun fr H7 hfr gfr s7 => ?_
      have P7 := P6.same s7
      have B7 := B6.trans (But.same s7)
      have gw7 := s7 _ _ gw6
      have gd7 : AgD H7 pd l := s7 _ _ gd6
      have gk7 := s7 _ _ gk6
      clear s7 P6 B6 gw6 gd6 gk6 hfr
      refine sqA (opv rfl (lcOf ⟨_, rfl, lw, rfl, ⟨_, SqL.of gw7⟩, ?_⟩))
      refine lcP (fun z => decide (z ∈ ks) && !decide (z ∈ us)) gw7 (by omega) (fun z G R sG hR => ⟨_, rfl, _, rfl, pd, _, rfl, DGet.k (k := .inr z) (sG _ _ gd7), _, rfl, ?_⟩) fun ex H13 hex gex s13 => ?_
      · rw [agSome, ← hks]
        by_cases hz : z ∈ ks
        · rw [decide_eq_true hz] at hR ⊢
          refine iteT ⟨_, rfl, _, rfl, kn, _, rfl, .inl (SqL.of (sG _ _ gk7)), rfl, flat_strs _, _, rfl, ?_⟩
          rw [if_pos rfl, inV_str]
          exact hR
        · rw [decide_eq_false hz] at hR ⊢
          exact iteF hR
      obtain ⟨xs, hxs⟩ : ∃ xs, xs = ws.filter (fun z => decide (z ∈ ks) && !decide (z ∈ us)) := ⟨_, rfl⟩
      rw [← hxs] at gex
      have lxs : xs.length ≤ 6 := by rw [hxs]; exact Nat.le_trans (List.length_filter_le _ _) w6
      have lus := sbu.length_le
      refine ⟨kn, ex, _, _, rfl, rfl, s13 _ _ gk7, gex, by rw [List.length_map, List.length_map]; omega, fun kn2 hkn2 => ?_⟩
      rw [← List.map_append]
      have s14 := s13.trans (Same.new (o := .lst ((us ++ xs).map V.str)) hkn2)
      have gn : (upd H13 kn2 (.lst ((us ++ xs).map V.str))) kn2 = some (.lst ((us ++ xs).map V.str)) := upd_same
      have gd7 : AgD _ pd l := s14 _ _ gd7
      have gk7 := s14 _ _ gk7
      have gfr := s14 _ _ gfr
      have gw7 := s14 _ _ gw7
      have P7 := P7.same s14
      have B7 := B7.trans (But.same s14)
      clear s14 s13 hkn2 gex hex
      generalize (upd H13 kn2 (.lst ((us ++ xs).map V.str))) = H7 at *
      intro S hS
      have nk := ne_of_none gk7 hS
      have nd := ne_of_none gd7 hS
      have nw := ne_of_none gw7 hS
      have nf := ne_of_none gfr hS
      have nn := ne_of_none gn hS
      have np := ne_of_none P7.hp hS
      have nc := ne_of_none P7.hc hS
      have hS0 := fresh0 B7 hS (Ne.symm np)
      have s8 : Same H7 (upd H7 S (.dK [])) := Same.new hS
      have gS : (upd H7 S (.dK [])) S = some (.dK []) := upd_same
      dsimp only [tPairs, tC]
      refine ⟨_, rfl, _, rfl, by show 0 ≤ sizeLine; decide, fun b hb => ?_⟩
      have nb : b ≠ S := fun e => by rw [e, gS] at hb; cases hb
      have s9 := s8.trans (Same.new (o := .lst []) hb)
      have gS := (upd_ne (o := .lst []) (Ne.symm nb)).trans gS
      have gb : (upd (upd H7 S (.dK [])) b (.lst [])) b = some (.lst []) := upd_same
      have P9 := P7.same s9
      have B9 := B7.trans (But.same s9)
      have gw9 := s9 _ _ gw7
      have gd9 : AgD _ pd l := s9 _ _ gd7
      have gk9 := s9 _ _ gk7
      have gn9 := s9 _ _ gn
      have gf9 := s9 _ _ gfr
      clear s9 s8 hb P7 B7 gw7 gd7 gk7 gfr hS
      generalize (upd (upd H7 S (.dK [])) b (.lst [])) = H9 at *
      refine ⟨gS, [(.inr "given", .ref kn), (.inr "again", .ref pd), (.inr "loop", .non), (.inr "between", .ref b), (.inr "second", .non)], rfl, by show 5 ≤ 15; decide, ?_⟩
      have e5 : mergeK [] [((.inr "given" : Key), V.ref kn), (.inr "again", .ref pd), (.inr "loop", .non), (.inr "between", .ref b), (.inr "second", .non)] = [((.inr "given" : Key), V.ref kn), (.inr "again", .ref pd), (.inr "loop", .non), (.inr "between", .ref b), (.inr "second", .non)] := rfl
      rw [e5]
      clear e5
      have gb := (upd_ne (o := .dK [((.inr "given" : Key), V.ref kn), (.inr "again", .ref pd), (.inr "loop", .non), (.inr "between", .ref b), (.inr "second", .non)]) nb).trans gb
      have gw10 := (upd_ne (o := .dK [((.inr "given" : Key), V.ref kn), (.inr "again", .ref pd), (.inr "loop", .non), (.inr "between", .ref b), (.inr "second", .non)]) nw).trans gw9
      have gd10 : AgD _ pd l := (upd_ne (o := .dK [((.inr "given" : Key), V.ref kn), (.inr "again", .ref pd), (.inr "loop", .non), (.inr "between", .ref b), (.inr "second", .non)]) nd).trans gd9
      have gk10 := (upd_ne (o := .dK [((.inr "given" : Key), V.ref kn), (.inr "again", .ref pd), (.inr "loop", .non), (.inr "between", .ref b), (.inr "second", .non)]) nk).trans gk9
      have gn10 := (upd_ne (o := .dK [((.inr "given" : Key), V.ref kn), (.inr "again", .ref pd), (.inr "loop", .non), (.inr "between", .ref b), (.inr "second", .non)]) nn).trans gn9
      have gf10 := (upd_ne (o := .dK [((.inr "given" : Key), V.ref kn), (.inr "again", .ref pd), (.inr "loop", .non), (.inr "between", .ref b), (.inr "second", .non)]) nf).trans gf9
      have P10 := P9.put (o := .dK [((.inr "given" : Key), V.ref kn), (.inr "again", .ref pd), (.inr "loop", .non), (.inr "between", .ref b), (.inr "second", .non)]) (Ne.symm np) (Ne.symm nc)
      have B10 := butPut (o := .dK [((.inr "given" : Key), V.ref kn), (.inr "again", .ref pd), (.inr "loop", .non), (.inr "between", .ref b), (.inr "second", .non)]) B9 hS0
      have gS : (upd H9 S (.dK [((.inr "given" : Key), V.ref kn), (.inr "again", .ref pd), (.inr "loop", .non), (.inr "between", .ref b), (.inr "second", .non)])) S = _ := upd_same
      clear P9 B9 gw9 gd9 gk9 gf9
      generalize (upd H9 S (.dK [((.inr "given" : Key), V.ref kn), (.inr "again", .ref pd), (.inr "loop", .non), (.inr "between", .ref b), (.inr "second", .non)])) = H10 at *
      refine ⟨by show 0 ≤ sizeLine; decide, fun h hh => ?_⟩
      have nh : h ≠ S := fun e => by rw [e, gS] at hh; cases hh
      have s11 := Same.new (o := .lst []) hh
      have gh : (upd H10 h (.lst [])) h = some (.lst []) := upd_same
      refine ⟨_, rfl, S, _, rfl, DPut.k (k := .inr "behind") (s11 _ _ gS) (by show 5 < sizeLine; decide), ?_⟩
      have e6 : putK [((.inr "given" : Key), V.ref kn), (.inr "again", .ref pd), (.inr "loop", .non), (.inr "between", .ref b), (.inr "second", .non)] (.inr "behind") (.ref h) = [((.inr "given" : Key), V.ref kn), (.inr "again", .ref pd), (.inr "loop", .non), (.inr "between", .ref b), (.inr "second", .non), (.inr "behind", .ref h)] := rfl
      rw [e6]
      clear e6
      obtain ⟨k6, hk6⟩ : ∃ k6, k6 = [((.inr "given" : Key), V.ref kn), (.inr "again", .ref pd), (.inr "loop", .non), (.inr "between", .ref b), (.inr "second", .non), (.inr "behind", .ref h)] := ⟨_, rfl⟩
      rw [← hk6]
      have gb := (upd_ne (o := .dK k6) nb).trans (s11 _ _ gb)
      have gh := (upd_ne (o := .dK k6) nh).trans gh
      have gw12 := (upd_ne (o := .dK k6) nw).trans (s11 _ _ gw10)
      have gd12 : AgD _ pd l := (upd_ne (o := .dK k6) nd).trans (s11 _ _ gd10)
      have gk12 := (upd_ne (o := .dK k6) nk).trans (s11 _ _ gk10)
      have gn12 := (upd_ne (o := .dK k6) nn).trans (s11 _ _ gn10)
      have gf12 := (upd_ne (o := .dK k6) nf).trans (s11 _ _ gf10)
      have P12 := (P10.same s11).put (o := .dK k6) (Ne.symm np) (Ne.symm nc)
      have B12 := butPut (o := .dK k6) (B10.trans (But.same s11)) hS0
      have gS : (upd (upd H10 h (.lst [])) S (.dK k6)) S = some (.dK k6) := upd_same
      clear P10 B10 gw10 gd10 gk10 gf10 s11 hh
      generalize (upd (upd H10 h (.lst [])) S (.dK k6)) = H14 at *
      have gd14 : AgD H14 pd l := gd12
      have gk14 := gk12
      have gf14 := gf12
      have P14 := P12
      have B14 := B12
      have gn := gn12
      clear gd12 gk12 gf12 P12 B12 gn12 gw12
      have mx : ∀ z, z ∈ xs ↔ z ∈ ws ∧ z ∈ ks ∧ z ∉ us := fun z => by rw [hxs, List.mem_filter, Bool.and_eq_true, decide_eq_true_eq, Bool.not_eq_true', decide_eq_false_iff_not]
      have hk2 : ∀ z, z ∈ us ++ xs ↔ z ∈ us ∨ z ∈ l.map (·.1) := fun z => by
        rw [List.mem_append, mx z, ← hks]
        exact ⟨fun h => h.imp id fun h => h.2.1, fun h => h.elim .inl fun h => (Classical.em (z ∈ us)).imp id fun n => ⟨sb.subset (by rw [← hks]; exact h), h, n⟩⟩
      have uk : Uni (us ++ xs) := ⟨List.nodup_append.mpr ⟨uw.1.sublist sbu, by rw [hxs]; exact uw.1.sublist List.filter_sublist, fun z hz y hy e => ((mx y).mp hy).2.2 (e ▸ hz)⟩, fun z hz => uw.2 z ((List.mem_append.mp hz).elim (fun h => sbu.subset h) fun h => ((mx z).mp h).1)⟩
      have mf : ∀ z ∈ ws.filter (fun z => !decide (z ∈ ks)), z ∈ ws ∧ z ∉ l.map (·.1) := fun z hz => by
        rw [List.mem_filter, Bool.not_eq_true', decide_eq_false_iff_not, hks] at hz
        exact hz
      have un0 : 0 < us.length + l.length := by
        cases us with
        | cons z r => exact Nat.succ_le_of_lt (Nat.lt_of_lt_of_le (Nat.succ_pos _) (Nat.le_add_right _ _))
        | nil =>
          cases l with
          | nil => exact absurd rfl (hne rfl)
          | cons q r => exact Nat.lt_of_lt_of_le (Nat.succ_pos _) (Nat.le_add_left _ _)
      have u0 : 0 < (us ++ xs).length := by
        cases us with
        | cons z r => exact Nat.succ_pos _
        | nil =>
          cases l with
          | nil => exact absurd rfl (hne rfl)
          | cons q r => exact List.length_pos_of_mem ((hk2 q.1).mpr (.inr (by simp)))
      refine ⟨_, rfl, _, rfl, _, rfl, _, rfl, p, c, ns, a5, r5, kn2, fr, us ++ xs, _, most, rfl, P14, by omega, gn, gf14, uk, u0, ⟨uw.1.sublist List.filter_sublist, fun z h => uw.2 z (mf z h).1⟩, ⟨ws, fun z hz => ((hk2 z).mp hz).elim (fun h => sbu.subset h) (fun h => sb.subset h), fun z h => (mf z h).1, w6⟩, m8, fun T' L Hn as hs H15 gT lots ghs las dr hd => ?_⟩
      obtain ⟨a15, r15, P15, l15, B15⟩ := hd
      have gb := B15 _ _ gb (pen_ne (zs := []) P14 gb)
      have gh := B15 _ _ gh (pen_ne (zs := []) P14 gh)
      have gd15 : AgD H15 pd l := B15 _ _ gd14 pdp
      have gk15 := B15 _ _ gk14 (pen_ne P14 gk14)
      have gf15 := B15 _ _ gf14 (pen_ne P14 gf14)
      have gS := B15 _ _ gS (Ne.symm np)
      have B15 := B14.trans B15
      have hs6 : hs.length ≤ 6 := Nat.le_trans (uniLen dr.here fun z hz => (dr.hin z hz).elim (fun h => ((hk2 z).mp h).elim (fun h => sbu.subset h) (fun h => sb.subset h)) fun h => (mf z h).1) w6
      refine ⟨T', _, rfl, SqT.of gT, rfl, _, _, rfl, _, rfl, S, _, rfl, DPut.k (k := .inr "ahead") gS (by rw [hk6]; show 6 < sizeLine; decide), _, _, rfl, rfl, ?_⟩
      have e7 : putK k6 (.inr "ahead") (.ref L) = [((.inr "given" : Key), V.ref kn), (.inr "again", .ref pd), (.inr "loop", .non), (.inr "between", .ref b), (.inr "second", .non), (.inr "behind", .ref h), (.inr "ahead", .ref L)] := by rw [hk6]; rfl
      obtain ⟨k7, hk7⟩ : ∃ k7, k7 = putK k6 (.inr "ahead") (.ref L) := ⟨_, rfl⟩
      rw [← hk7] at e7 ⊢
      have lots := lots.putD (o := .dK k7) gS
      have nHn : Hn ≠ S := fun e => by rw [e, gS] at ghs; cases ghs
      have ghs := (upd_ne (o := .dK k7) nHn).trans ghs
      have gb := (upd_ne (o := .dK k7) nb).trans gb
      have gh := (upd_ne (o := .dK k7) nh).trans gh
      have gd16 : AgD _ pd l := (upd_ne (o := .dK k7) nd).trans gd15
      have gk16 := (upd_ne (o := .dK k7) nk).trans gk15
      have gf16 := (upd_ne (o := .dK k7) nf).trans gf15
      have P16 := P15.put (o := .dK k7) (Ne.symm np) (Ne.symm nc)
      have B16 := butPut (o := .dK k7) B15 hS0
      have gS : (upd H15 S (.dK k7)) S = some (.dK k7) := upd_same
      clear P14 P15 B14 B15 gd14 gd15 gk14 gk15 gT gn gf14
      generalize (upd H15 S (.dK k7)) = H16 at *
      have uf : Uni (ws.filter (fun z => !decide (z ∈ ks))) := ⟨uw.1.sublist List.filter_sublist, fun z h => uw.2 z (mf z h).1⟩
      have I0 : SiS H H16 p c ns (at_ + 130) most kn pd .non (.ref b) .non (.ref h) (.ref L) S Hn fr us l ws (ws.filter (fun z => !decide (z ∈ ks))) hs ⟨as, none, [], none, []⟩ :=
        { pen := ⟨a15, r15, P16, by omega⟩, but := B16, s0 := hS0, site := by rw [gS, e7]; rfl, gv_ := gk16, ag_ := gd16, kn_ := ghs, fr_ := gf16, pa := ⟨L, rfl, lots, (show as.length ≤ 200 by omega), dr.lot⟩, pl := rfl, pb := ⟨b, rfl, lots0 gb, Nat.zero_le _, nofun⟩, px := rfl, ph := ⟨h, rfl, lots0 gh, Nat.zero_le _, nofun⟩
          uses := fun i i5 => by
            rcases five i5 with rfl | rfl | rfl | rfl | rfl
            · exact (dr.uses _ fun z hz => (mf z hz).2).congr fun z => (hk2 z).trans List.mem_append.symm
            · exact trivial
            · exact trivial
            · exact trivial
            · exact trivial
          eq := fun z => by
            rw [dr.eq z, last5, aft_nil, aft_nil]
            exact aft_congr (fun y => (hk2 y).trans List.mem_append.symm) z
          uni := dr.here
          pos := pos_of u0 fun z hz => (dr.eq z).mpr (by unfold aft; exact List.mem_append_left _ hz)
          hin := fun z hz => (dr.hin z hz).elim (fun h => ((hk2 z).mp h).elim (fun h => sbu.subset h) (fun h => sb.subset h)) fun h => (mf z h).1
          inn := fun z hz => by
            rw [acts5] at hz
            rcases hz with k | k | k | k | k
            · exact (dr.inn z k).elim (fun h => ((hk2 z).mp h).elim (fun h => sbu.subset h) (fun h => sb.subset h)) fun h => (mf z h).1
            · cases k
            · cases k
            · cases k
            · cases k
          len := fun i i5 => by
            rcases five i5 with rfl | rfl | rfl | rfl | rfl
            · exact las
            · exact Nat.zero_le _
            · exact Nat.zero_le _
            · exact Nat.zero_le _
            · exact Nat.zero_le _ }
      clear P16 B16 gb gh gd16 gk16 gf16 ghs lots gS dr hs6
      obtain ⟨fs, hfs⟩ : ∃ fs, fs = ws.filter (fun z => !decide (z ∈ ks)) := ⟨_, rfl⟩
      rw [← hfs] at I0 uf mf
      have sz : ∀ v1 v2 v3 v4 v5 v6 v7, (sk7 v1 v2 v3 v4 v5 v6 v7).length < sizeLine := fun _ _ _ _ _ _ _ => by show 7 < sizeLine; decide
      refine ⟨fun σ H' => ∃ vl kk hs g, σ = [some (.ref p), some (.int (nl : Int)), some (.int (most : Int)), some (.ref lw), some (.ref pd), some (.ref kn), some (.ref fr), some (.ref kk), some (.ref S), none] ∧ SiS H H' p c ns (at_ + 230) most kn pd vl (.ref b) .non (.ref h) (.ref L) S kk fr us l ws fs hs g ∧ g.b = [] ∧ g.s = none ∧ g.h = [] ∧ g.l.isSome = decide (0 < nl), ?_, ?_⟩
      · refine ⟨_, rfl, _, _, rfl, rfl, _, rfl, ite2 (fun hc => ?_) (fun hc => ?_)⟩
        · have hc := of_decide_eq_true hc
          obtain ⟨a6, r6, P6, l6⟩ := I0.pen
          refine ⟨_, rfl, _, rfl, _, rfl, _, rfl, p, c, ns, a6, r6, Hn, fr, hs, fs, most, rfl, P6, by omega, I0.kn_, I0.fr_, I0.uni, I0.pos, uf, ⟨ws, I0.hin, fun z hz => (mf z hz).1, w6⟩, m8, fun T2 L2 N2 as2 hs2 H7 gT2 lots2 gN2 la2 dr2 hd => ?_⟩
          obtain ⟨a7, r7, P7, l7, B7⟩ := hd
          have I1 := I0.step (m' := at_ + 230) ⟨a7, r7, P7, by omega⟩ B7
          exact ⟨T2, _, ((0 : Nat) : Int), .ref L2, rfl, rfl, SqT.of gT2, atI_nat rfl, _, rfl, S, _, rfl, DPut.k (k := .inr "loop") I1.site (sz _ _ _ _ _ _ _), .ref L2, Hn, hs, _, rfl, I1.loop nd rfl rfl lots2 dr2 mf la2 m8, rfl, rfl, rfl, (decide_eq_true (by omega)).symm⟩
        · have hc : ¬ (0 : Int) < (nl : Int) := fun h => hc (decide_eq_true h)
          obtain ⟨a6, r6, P6, l6⟩ := I0.pen
          exact ⟨.non, Hn, hs, _, rfl, I0.step ⟨a6, r6, P6, by omega⟩ But.refl, rfl, rfl, rfl, (decide_eq_false (by omega)).symm⟩
      · rintro σ H17 ⟨vl, kk, hs1, g1, rfl, I1, gb1, gs1, gh1, gl1⟩
        refine ⟨fun σ H' => ∃ vb vx kk hs g, σ = [some (.ref p), some (.int (nl : Int)), some (.int (most : Int)), some (.ref lw), some (.ref pd), some (.ref kn), some (.ref fr), some (.ref kk), some (.ref S), none] ∧ SiS H H' p c ns (at_ + 430) most kn pd vl vb vx (.ref h) (.ref L) S kk fr us l ws fs hs g ∧ g.h = [] ∧ g.l.isSome = decide (0 < nl) ∧ g.s.isSome = decide (1 < nl) ∧ (nl ≤ 1 → g.b = []), ?_, ?_⟩
        · refine ⟨_, rfl, _, _, rfl, rfl, _, rfl, ite2 (fun hc => ?_) (fun hc => ?_)⟩
          · have hc := of_decide_eq_true hc
            obtain ⟨a6, r6, P6, l6⟩ := I1.pen
            refine ⟨_, rfl, _, rfl, _, rfl, _, rfl, p, c, ns, a6, r6, kk, fr, hs1, fs, most, rfl, P6, by omega, I1.kn_, I1.fr_, I1.uni, I1.pos, uf, ⟨ws, I1.hin, fun z hz => (mf z hz).1, w6⟩, m8, fun T2 L2 N2 as2 hs2 H7 gT2 lots2 gN2 la2 dr2 hd => ?_⟩
            obtain ⟨a7, r7, P7, l7, B7⟩ := hd
            have I2 := I1.step (m' := at_ + 330) ⟨a7, r7, P7, by omega⟩ B7
            refine ⟨T2, _, rfl, SqT.of gT2, rfl, _, _, rfl, _, rfl, S, _, rfl, DPut.k (k := .inr "between") I2.site (sz _ _ _ _ _ _ _), _, _, rfl, rfl, ?_⟩
            have I3 := I2.between nd gb1 gs1 gh1 lots2 gN2 dr2 mf la2 m8
            have e : putK (sk7 (.ref kn) (.ref pd) vl (.ref b) .non (.ref h) (.ref L)) (.inr "between") (.ref L2) = sk7 (.ref kn) (.ref pd) vl (.ref L2) .non (.ref h) (.ref L) := rfl
            rw [e]
            generalize (upd H7 S (.dK (sk7 (.ref kn) (.ref pd) vl (.ref L2) .non (.ref h) (.ref L)))) = H8 at *
            obtain ⟨a8, r8, P8, l8⟩ := I3.pen
            refine ⟨_, rfl, _, rfl, _, rfl, _, rfl, p, c, ns, a8, r8, N2, fr, hs2, fs, most, rfl, P8, by omega, I3.kn_, I3.fr_, I3.uni, I3.pos, uf, ⟨ws, I3.hin, fun z hz => (mf z hz).1, w6⟩, m8, fun T3 L3 N3 as3 hs3 H9 gT3 lots3 gN3 la3 dr3 hd => ?_⟩
            obtain ⟨a9, r9, P9, l9, B9⟩ := hd
            have I4 := I3.step (m' := at_ + 430) ⟨a9, r9, P9, by omega⟩ B9
            exact ⟨T3, _, ((0 : Nat) : Int), .ref L3, rfl, rfl, SqT.of gT3, atI_nat rfl, _, rfl, S, _, rfl, DPut.k (k := .inr "second") I4.site (sz _ _ _ _ _ _ _), .ref L2, .ref L3, N2, hs2, _, rfl, I4.second nd gh1 lots3 dr3 mf la3 m8, gh1, gl1, (decide_eq_true (by omega)).symm, fun q => absurd q (by omega)⟩
          · have hc : ¬ (1 : Int) < (nl : Int) := fun h => hc (decide_eq_true h)
            obtain ⟨a6, r6, P6, l6⟩ := I1.pen
            exact ⟨.ref b, .non, kk, hs1, g1, rfl, I1.step ⟨a6, r6, P6, by omega⟩ But.refl, gh1, gl1, (by rw [gs1]; exact (decide_eq_false (by omega)).symm), fun _ => gb1⟩
        · rintro σ H18 ⟨vb, vx, kk, hs1, g1, rfl, I1, gh1, gl1, gs1, gb1⟩
          refine ⟨fun σ H' => ∃ vh kk hs g, σ = [some (.ref p), some (.int (nl : Int)), some (.int (most : Int)), some (.ref lw), some (.ref pd), some (.ref kn), some (.ref fr), some (.ref kk), some (.ref S), none] ∧ SiS H H' p c ns (at_ + 530) most kn pd vl vb vx vh (.ref L) S kk fr us l ws fs hs g ∧ Loops nl g, ?_, ?_⟩
          · refine ⟨_, rfl, _, _, rfl, rfl, _, rfl, ite2 (fun hc => ?_) (fun hc => ?_)⟩
            · have hc := of_decide_eq_true hc
              obtain ⟨a6, r6, P6, l6⟩ := I1.pen
              refine ⟨_, rfl, _, rfl, _, rfl, _, rfl, p, c, ns, a6, r6, kk, fr, hs1, fs, most, rfl, P6, by omega, I1.kn_, I1.fr_, I1.uni, I1.pos, uf, ⟨ws, I1.hin, fun z hz => (mf z hz).1, w6⟩, m8, fun T2 L2 N2 as2 hs2 H7 gT2 lots2 gN2 la2 dr2 hd => ?_⟩
              obtain ⟨a7, r7, P7, l7, B7⟩ := hd
              have I2 := I1.step (m' := at_ + 530) ⟨a7, r7, P7, by omega⟩ B7
              exact ⟨T2, _, rfl, SqT.of gT2, rfl, _, _, rfl, _, rfl, S, _, rfl, DPut.k (k := .inr "behind") I2.site (sz _ _ _ _ _ _ _), _, _, rfl, rfl, .ref L2, N2, hs2, _, rfl, I2.behind nd gh1 lots2 gN2 dr2 mf la2 m8, gl1, gs1, gb1, fun q => absurd q (by omega)⟩
            · have hc : ¬ (0 : Int) < (nl : Int) := fun h => hc (decide_eq_true h)
              obtain ⟨a6, r6, P6, l6⟩ := I1.pen
              exact ⟨.ref h, kk, hs1, g1, rfl, I1.step ⟨a6, r6, P6, by omega⟩ But.refl, gl1, gs1, gb1, fun _ => gh1⟩
          · rintro σ H19 ⟨vh, kk, hs1, g1, rfl, I1, lp⟩
            obtain ⟨a6, r6, P6, l6⟩ := I1.pen
            have hs6 : hs1.length ≤ 6 := Nat.le_trans (uniLen I1.uni I1.hin) w6
            refine sdp (lcOf ?_)
            refine ⟨_, rfl, kk, rfl, ⟨_, SqL.of I1.kn_⟩, ?_⟩
            refine lcD I1.kn_ P6 (by omega) (by omega) (fun z G a7 r7 R P7 l7 hR => ⟨_, rfl, p, c, ns, a7, r7, _, rfl, P7, by omega, by decide, by decide, fun e G2 _ _ hd => ⟨rfl, _, rfl, hR _ G2 hd⟩⟩) fun rl rs H20 hr0 gr sbr hd => ?_
            obtain ⟨a20, r20, P20, l20, B20⟩ := hd
            have nr : rl ≠ S := fun e => by rw [e, I1.site] at hr0; cases hr0
            have I2 := I1.step (m' := at_ + 540) ⟨a20, r20, P20, by omega⟩ B20
            refine ⟨_, rfl, S, _, rfl, DPut.k (k := .inr "results") I2.site (sz _ _ _ _ _ _ _), ?_⟩
            have e8 : putK (sk7 (.ref kn) (.ref pd) vl vb vx vh (.ref L)) (.inr "results") (.ref rl) = sk8 (.ref kn) (.ref pd) vl vb vx vh (.ref L) (.ref rl) := rfl
            rw [e8]
            refine ⟨_, rfl, k S ⟨g1, us, l, rs⟩ _ ⟨kn, pd, rl, vl, vb, vx, vh, .ref L, upd_same, (upd_ne (lst_ne I2.gv_ I2.site)).trans I2.gv_, (upd_ne nd).trans I2.ag_, (upd_ne nr).trans gr, I2.pa.putD I2.site, I2.pl.putD I2.site, I2.pb.putD I2.site, I2.px.putD I2.site, I2.ph.putD I2.site⟩ (tolOkG I1 lp uw w6 sbu sb hq m8 sbr) un0 lp I1.len ⟨a20, r20, P20.put (Ne.symm np) (Ne.symm nc), by omega, butPut I2.but hS0⟩⟩
end
end K07

set_option Elab.async false
set_option linter.all false
set_option maxRecDepth 100000
set_option maxHeartbeats 4000000
/-! What the law wants of programs with loops. -/
namespace K07
open PySem L2 NX NU
open PyProof.Rows (sortedS)
theorem PtI.same {H H' : Hp} {v : V} (s : Same H H') : ∀ {o : Option (List Act)}, PtI H v o → PtI H' v o
  | none, h => h
  | some _, ⟨L, e, l, a, b⟩ => ⟨L, e, l.same s, a, b⟩
theorem SiteG.same {H H' : Hp} {S : Addr} {t : Tol} (s : Same H H') (h : SiteG H S t) : SiteG H' S t := by
  obtain ⟨gv, ag, r, vl, vb, vx, vh, vL, e, e1, e2, e6, p1, p2, p3, p4, p5⟩ := h.ex
  exact ⟨gv, ag, r, vl, vb, vx, vh, vL, s _ _ e, s _ _ e1, s _ _ e2, s _ _ e6, p1.same s, p2.same s, p3.same s, p4.same s, p5.same s⟩
theorem SiteG.part {H : Hp} {S : Addr} {t : Tol} (h : SiteG H S t) (ok : t.Ok) {j : Nat} {z : Str} (hz : partN[j]? = some z) : ∃ v, DGet H S (.str z) (some v) ∧ PtI H v (t.g.at j) := by
  obtain ⟨gv, ag, r, vl, vb, vx, vh, vL, e, e1, e2, e6, p1, p2, p3, p4, p5⟩ := h.ex
  match j, hz with
  | 0, hz => cases hz; exact ⟨vL, DGet.k (k := .inr "ahead") e, p1⟩
  | 1, hz => cases hz; exact ⟨vl, DGet.k (k := .inr "loop") e, p2⟩
  | 2, hz => cases hz; exact ⟨vb, DGet.k (k := .inr "between") e, p3⟩
  | 3, hz => cases hz; exact ⟨vx, DGet.k (k := .inr "second") e, p4⟩
  | 4, hz => cases hz; exact ⟨vh, DGet.k (k := .inr "behind") e, p5⟩
  | n + 5, hz => cases hz
def spRlG (K : PySem.W.Frag) (d : D3) (C : Addr) : Sp := fun vs H Q _ => ∃ (S : Addr) (t : Tol), vs = [.ref S] ∧ SiteG H S t ∧ t.Ok ∧ ∀ x H', Same H H' → IsP K d H' x C t → Q (.ref x) H'
section
variable {P : Program} {w : World} {K : PySem.W.Frag} {mg : Str → Option Value} {base : Heap}
theorem ok_rlG {d : D3} {C fP : Addr} {fdP : FuncData} {t0 t1 t2 t3 t4 : Addr} {f : Addr} {fd : FuncData} (F : Fun K "_law_real" "_law_real" sRl f fd) (M : PM P w K mg base d C fP fdP t0 t1 t2 t3 t4) (cOr : C8.Cal P w K mg base 1 "_law_order" spOr []) (cRp : C8.Cal P w K mg base 8 "_law_real_part" (spRp K d) []) : FnOk P w K mg base CX0 9 f fd ["_law_site_here"] (spRlG K d C) := by
  refine F.ok scRl (fun vs H Q E h => ?_) (fun cdv A outer s H vs Q E hr h => ?_)
  · obtain ⟨S, t, rfl, _⟩ := h
    rfl
  · obtain ⟨S, t, rfl, hS, ok, k⟩ := h
    have hu := hu_of hr
    refine ⟨_, (pss_cons (ps_setLc (i := 1) (own := [("_law_part", 3)]) (g := gName 3) rfl scRl.nd rfl rfl (sw_true rfl rfl rfl (by decide +kernel)) (pi_list (pe_c0 cOr hr (by decide) rfl)) (blkOk_by (own := [("_law_part", 3)]) (N := NRl) (sc := defScope sRl) (by decide +kernel)) (fun _ _ _ _ _ => (pg_name (i := 3) scRl.nd rfl (Or.inl rfl))) (fun _ _ _ _ _ => pts_nil) (fun _ _ _ _ _ => (C8.pe_c cRp hr (by decide) rfl (pa_cons (pe_dget hu (pv 0) (pv 3) (fun _ _ => rfl)) pa_nil))))
      (pss_cons (ps_set (i := 2) scRl.nd rfl (Or.inl rfl) (pe_lst (pa_cons (pe_dget hu (pv 0) pe_str (fun _ _ => rfl)) (pa_cons (pe_dget hu (pv 0) pe_str (fun _ _ => rfl)) (pa_cons (pe_dget hu (pv 0) pe_str (fun _ _ => rfl)) pa_nil)))))
      (pss_one (ps_ret (pe_makeK (E := C8.E0) (ks := ["given", "again", "results"]) M.mak M.fn (hr.mono (by decide)) rfl M.g (kb6 M.fd_) pass0 (pa_cons (pe_ix ix_list (pv 1) pe_int (fun _ _ => rfl)) (pa_cons (pe_ix ix_list (pv 1) pe_int (fun _ _ => rfl)) (pa_cons (pe_ix ix_list (pv 1) pe_int (fun _ _ => rfl)) (pa_cons (pe_ix ix_list (pv 1) pe_int (fun _ _ => rfl)) (pa_cons (pe_ix ix_list (pv 1) pe_int (fun _ _ => rfl)) pa_nil))))) (pk_cons (pe_ix ix_list (pv 2) pe_int (fun _ _ => rfl)) (pk_cons (pe_ix ix_list (pv 2) pe_int (fun _ _ => rfl)) (pk_cons (pe_ix ix_list (pv 2) pe_int (fun _ _ => rfl)) pk_nil)))))))), ?_⟩
    refine ⟨rfl, fun o H1 s1 ho go => ?_⟩
    refine ⟨o, rfl, ⟨_, SqL.of go⟩, fun D hD => ?_⟩
    have hS1 := hS.same s1
    have n1 : o ≠ D := ne_of_none go hD
    refine lc_list (xs := partN.map V.str) (fun j H' => Same H1 H' ∧ ∃ vs : List V, H' D = some (.lst vs) ∧ vs.length = j ∧ ∀ i v, vs[i]? = some v → PL d H' D v (t.g.at i)) ⟨Same.new hD, [], upd_same, rfl, nofun⟩ (fun j H' _ z => SqL.of (z.1 _ _ go)) ?_ ?_
    · rintro j y H2 hy ⟨s2, vs, gD, lv, hv⟩
      rw [List.getElem?_map] at hy
      obtain ⟨z, hz, rfl⟩ := Option.map_eq_some_iff.mp hy
      have j5 := (partF hz).1
      obtain ⟨v, dg, pi⟩ := (hS1.same s2).part ok hz
      refine ⟨rfl, ?_⟩
      unfold tYes
      dsimp only
      rw [if_pos rfl]
      refine ⟨_, rfl, _, rfl, S, v, rfl, dg, v, _, rfl, pi, fun v' H3 s3 pr => ?_⟩
      have gD3 := s3 _ _ gD
      have B : But D H3 (upd H3 D (.lst (vs ++ [v']))) := fun b u e n => (upd_ne n).trans e
      refine ⟨_, gD3, by rw [lv]; exact Nat.lt_trans j5 (by decide), sameUpd (s2.trans s3) hD, vs ++ [v'], upd_same, by rw [List.length_append, lv]; rfl, fun i x e => ?_⟩
      by_cases hi : i < vs.length
      · rw [List.getElem?_append_left hi] at e
        exact ((hv i x e).but gD (But.same s3)).but gD3 B
      · obtain ⟨q, rfl⟩ : ∃ q, i = vs.length + q := ⟨i - vs.length, by omega⟩
        rw [List.getElem?_append_right (by omega), Nat.add_sub_cancel_left] at e
        cases q with
        | zero =>
          cases e
          rw [Nat.add_zero, lv]
          exact (pr.pl gD).but gD3 B
        | succ q => cases e
    · rintro H2 ⟨s2, vs, gD, lv, hv⟩
      have lv : vs.length = 5 := lv
      obtain ⟨v0, v1, v2, v3, v4, rfl⟩ : ∃ v0 v1 v2 v3 v4, vs = [v0, v1, v2, v3, v4] := by
        match vs, lv with
        | [v0, v1, v2, v3, v4], _ => exact ⟨v0, v1, v2, v3, v4, rfl⟩
      have hS2 := hS1.same s2
      have s2 := s1.trans s2
      obtain ⟨gv, ag, r, vl, vb, vx, vh, vL, e, e1, e2, e6, _⟩ := hS2.ex
      refine ⟨_, rfl, S, _, rfl, DGet.k (k := .inr "given") e, _, rfl, S, _, rfl, DGet.k (k := .inr "again") e, _, rfl, S, _, rfl, DGet.k (k := .inr "results") e, by show 3 ≤ sizeLine; decide, fun w hw => ?_⟩
      have s3 := Same.new (o := .lst [.ref gv, .ref ag, .ref r]) hw
      have gw : (upd H2 w (.lst [.ref gv, .ref ag, .ref r])) w = some (.lst [.ref gv, .ref ag, .ref r]) := upd_same
      have hv : ∀ i v, ([v0, v1, v2, v3, v4] : List V)[i]? = some v → InO K d _ v (t.g.at i) := fun i v e => ((hv i v e).but gD (But.same s3)).inO (K := K)
      have gD := s3 _ _ gD
      have e1 := s3 _ _ e1
      have e2 : AgD _ ag t.ag := s3 _ _ e2
      have e6 := s3 _ _ e6
      have s2 := s2.trans s3
      have P0 : InA K d _ v0 t.g.a := hv 0 v0 rfl
      have P1 : InO K d _ v1 t.g.l := hv 1 v1 rfl
      have P2 : InA K d _ v2 t.g.b := hv 2 v2 rfl
      have P3 : InO K d _ v3 t.g.s := hv 3 v3 rfl
      have P4 : InA K d _ v4 t.g.h := hv 4 v4 rfl
      clear hv
      generalize (upd H2 w (.lst [.ref gv, .ref ag, .ref r])) = H3 at *
      refine ⟨_, rfl, D, _, ((0 : Nat) : Int), _, rfl, rfl, SqL.of gD, atI_nat rfl, _, rfl, D, _, ((1 : Nat) : Int), _, rfl, rfl, SqL.of gD, atI_nat rfl, _, rfl, D, _, ((2 : Nat) : Int), _, rfl, rfl, SqL.of gD, atI_nat rfl, _, rfl, D, _, ((3 : Nat) : Int), _, rfl, rfl, SqL.of gD, atI_nat rfl, _, rfl, D, _, ((4 : Nat) : Int), _, rfl, rfl, SqL.of gD, atI_nat rfl, ?_⟩
      refine ⟨_, rfl, w, _, ((0 : Nat) : Int), _, rfl, rfl, SqL.of gw, atI_nat rfl, _, rfl, w, _, ((1 : Nat) : Int), _, rfl, rfl, SqL.of gw, atI_nat rfl, _, rfl, w, _, ((2 : Nat) : Int), _, rfl, rfl, SqL.of gw, atI_nat rfl, ?_⟩
      refine ⟨rfl, rfl, fun x dx h1 h2 h3 => ?_⟩
      have sm := made2 (C := C) h1 h2 h3
      exact ⟨x, C, dx, v0, v1, v2, v3, v4, .ref gv, .ref ag, .ref r, t, rfl, upd_same, M.cls, ⟨P0.same sm, P1.same sm, P2.same sm, P3.same sm, P4.same sm, ⟨gv, rfl, .inl (SqL.of (sm _ _ e1))⟩, .inr ⟨ag, rfl, sm _ _ e2⟩, ⟨r, rfl, .inl (SqL.of (sm _ _ e6))⟩⟩, ok, fun H' bt ip => ⟨rfl, k x H' (s2.trans fun b o e => bt b o (fun z => by rw [z, h1] at e; cases e) (sm _ _ e)) ip⟩⟩
end
end K07

set_option Elab.async false
set_option linter.all false
set_option maxRecDepth 100000
set_option maxHeartbeats 4000000
/-! Rules of my own: two dicts whose values are compared by own equalities; x ** n by an own method. -/
namespace NZ
open PySem PySem.W PyProof.Rows PySem.Spec
section
variable {prog : Program} {w : World} {T : Type} [DecidableEq T] {knd : KeyKind prog w T} {A : Around} {E : Value → Shared → Prop} {s : Shared}
/-- the pairs of two dicts, whatever the == of two values makes on the way -/
theorem pairs_grow {nm : String} {a b : Addr} {ks ls : List (T × Value)} {Q : Bool → Shared → Prop} (J : Nat → Shared → Prop) (na : (a == sysModules) = false) (nb : (b == sysModules) = false)
    (Da : s.heap.DictOf knd a ks) (Db : s.heap.DictOf knd b ls) (len : ks.length = ls.length) (stay : ∀ i s', J i s' → s'.heap.get? a = s.heap.get? a ∧ s'.heap.get? b = s.heap.get? b)
    (turn : ∀ (i : Nat) (s' : Shared) (k : T) (v : Value), J i s' → ks[i]? = some (k, v) → ∃ y, valueAt ls k = some y ∧ wpAny (model prog w) A (eqBool v y) (fun r s2 => r = true ∧ J (i + 1) s2) E s')
    (start : J 0 s) (fin : ∀ s', J ks.length s' → Q true s') : wpAny (model prog w) A (Builtin.Dict.samePairs nm a b) Q E s := by
  obtain ⟨oa, ea, pa, ga, _, ta, ca, qa, _⟩ := Da
  obtain ⟨ob, eb, pb, gb, _, tb, cb, qb, _⟩ := Db
  have za : ks.length = ea.size := by
    have z := qa.length
    rw [Array.length_toList] at z
    exact z.symm
  have zb : ls.length = eb.size := by
    have z := qb.length
    rw [Array.length_toList] at z
    exact z.symm
  have same : ea.size = eb.size := by omega
  have look : ∀ k, findBy knd.is eb k = valueAt ls k := fun k => by
    rw [← qb.find k]
    clear zb same qb cb tb gb
    obtain ⟨l⟩ := eb
    simp [findBy]
  have at_a : ∀ {i s'}, J i s' → s'.heap.get? a = some oa := fun h => (stay _ _ h).1.trans ga
  have at_b : ∀ {i s'}, J i s' → s'.heap.get? b = some ob := fun h => (stay _ _ h).2.trans gb
  unfold Builtin.Dict.samePairs Builtin.Dict.showsAll
  rw [if_neg (by rw [na]; exact Bool.false_ne_true), if_neg (by rw [nb]; exact Bool.false_ne_true)]
  refine wpAny_bind (wpAny_pure (wpAny_bind (wpAny_pure (wpAny_bind (wpAny_dictEntries ga ta ?_)))))
  dsimp only
  refine wpAny_bind (wpAny_dictEntries gb tb ?_)
  rw [if_neg (by rw [same]; simp)]
  refine wpAny_bind (wpAny_dictEpoch ga ta (wpAny_bind ?_))
  rw [Std.Legacy.Range.forIn_eq_forIn_range']
  simp only [Std.Legacy.Range.size, Nat.sub_zero, Nat.add_sub_cancel, Nat.div_one]
  refine wpAny_forIn_list _ (fun rest q s' => q = (none, ()) ∧ ∃ i, rest = List.range' i (ea.size - i) ∧ i ≤ ea.size ∧ J i s') _ ?_ ?_ _ _ ⟨rfl, 0, by simp, Nat.zero_le _, start⟩
  · rintro x rest q s' ⟨rfl, i, er, hi, hJ⟩
    have lt : i < ea.size := by
      by_cases c : i < ea.size
      · exact c
      · rw [show ea.size - i = 0 by omega] at er
        simp at er
    have two : x = i ∧ rest = List.range' (i + 1) (ea.size - (i + 1)) := by
      rw [show ea.size - i = (ea.size - (i + 1)) + 1 by omega, List.range'_succ] at er
      exact ⟨(List.cons.inj er).1, (List.cons.inj er).2⟩
    obtain ⟨rfl, er2⟩ := two
    refine wpAny_bind (wpAny_dictEntries (at_a hJ) ta ?_)
    rw [Array.getElem?_eq_getElem lt]
    have lt2 : x < ks.length := by rw [za]; exact lt
    obtain ⟨k, v, kv⟩ : ∃ k v, ks[x] = (k, v) := ⟨_, _, rfl⟩
    have gk : ks[x]? = some (k, v) := by rw [List.getElem?_eq_getElem lt2, kv]
    obtain ⟨h1, h2⟩ := qa.get? (i := x) (e := ea[x]) (k := k) (v := v) (by rw [Array.getElem?_toList]; exact Array.getElem?_eq_getElem lt) gk
    obtain ⟨k', h3, h4⟩ := ca ea[x] (Array.getElem_mem lt)
    rw [knd.inj _ _ _ h3 h1] at h4
    obtain ⟨y, gy, wy⟩ := turn x s' k v hJ gk
    show wpAny _ _ (holding [ea[x].key, ea[x].val] _ >>= _) _ _ _
    rw [h4]
    refine wpAny_bind (wpAny_holding (wpAny_bind (wpAny_dictFind_of h1 (at_b hJ) tb cb ?_)))
    cases ej : eb.findIdx? fun e => knd.is k e.key with
    | none =>
      exfalso
      have z : valueAt ls k = none := by rw [← look k, findBy_of_findIdx?, ej]
      rw [gy] at z
      cases z
    | some j =>
      obtain ⟨lj, _, _⟩ := Array.findIdx?_eq_some_iff_getElem.mp ej
      have ey : eb[j].val = y := by
        have z : valueAt ls k = some eb[j].val := by
          rw [← look k, findBy_of_findIdx?, ej]
          simp [Array.getElem?_eq_getElem lj]
        rw [gy] at z
        exact (Option.some.inj z).symm
      refine wpAny_bind (wpAny_dictEntries (at_b hJ) tb ?_)
      rw [Array.getElem?_eq_getElem lj]
      rw [← ey, ← h2] at wy
      refine wpAny_holding (wpAny_mono wy (fun r s2 hr => ?_) fun _ _ z => z)
      obtain ⟨rfl, hJ2⟩ := hr
      show wpAny _ _ (if (!true) = true then _ else _) _ _ _
      rw [if_neg (by decide)]
      refine wpAny_bind (wpAny_dictEpoch (at_a hJ2) ta ?_)
      rw [if_neg (by simp)]
      exact wpAny_pure ⟨rfl, x + 1, er2, lt, hJ2⟩
  · rintro q s' ⟨rfl, i, er, hi, hJ⟩
    have e : i = ks.length := by
      by_cases c : i < ea.size
      · rw [show ea.size - i = (ea.size - (i + 1)) + 1 by omega, List.range'_succ] at er
        cases er
      · omega
    refine wpAny_pure ?_
    rw [e] at hJ
    exact fin s' hJ
/-- a == b of two dicts -/
theorem dicts_grow {a b : Addr} {ks ls : List (T × Value)} {Q : Value → Shared → Prop} (J : Nat → Shared → Prop) (na : (a == sysModules) = false) (nb : (b == sysModules) = false)
    (Da : s.heap.DictOf knd a ks) (Db : s.heap.DictOf knd b ls) (len : ks.length = ls.length) (hu : A.units < cLine) (stay : ∀ i s', J i s' → s'.heap.get? a = s.heap.get? a ∧ s'.heap.get? b = s.heap.get? b)
    (turn : ∀ (i : Nat) (s' : Shared) (k : T) (v : Value), J i s' → ks[i]? = some (k, v) → ∃ y, valueAt ls k = some y ∧ wpAny (model prog w) A.in1 (eqBool v y) (fun r s2 => r = true ∧ J (i + 1) s2) E s')
    (start : J 0 s) (fin : ∀ s', J ks.length s' → Q (.bool true) s') : wpAny (model prog w) A (richCompare .Eq (.ref a) (.ref b)) Q E s := by
  have ra := Da.typeIs
  have rb := Db.typeIs
  refine wpAny_richCompare_same_room (op := .Eq) ra rb PySem.F.slot_dict_eq (wpAny_call_entry PySem.F.slot_dict_eq ra PySem.F.entry_dict_eq ?_ (PySem.F.args_dict_eq_2 _ _)) hu
  show wpAny _ _ (Builtin.Dict.dictSlotArgs "__eq__" ⟨[.ref a, .ref b], []⟩ >>= _) _ _ s
  unfold Builtin.Dict.dictSlotArgs
  refine wpAny_bind (wpAny_bind (wpAny_notOrdered_dict ra (wpAny_pure ?_)))
  refine wpAny_bind (wpAny_isInstance (T := "dict") rb PySem.F.sub_dict_dict ?_)
  rw [if_neg (show ¬ (!true) = true by decide)]
  refine wpAny_bind (wpAny_pure (wpAny_bind (wpAny_pure (wpAny_bind ?_))))
  refine pairs_grow J na nb Da Db len stay turn start fun s' h => wpAny_pure ⟨_, rfl, nofun, ?_⟩
  exact fin s' h
end
end NZ
namespace NZ
open PySem PySem.Spec PyProof.Rows L2
/-- all but dicts stays as it was -/
def KDn (H H' : Hp) : Prop := ∀ b o, H b = some o → (∀ ys, o ≠ .dK ys) → H' b = some o
/-- D asks nothing of dicts -/
def MonK (D : Eqv) : Prop := ∀ x y H H', KDn H H' → D x y H → D x y H'
theorem MonK.mon {D : Eqv} (h : MonK D) : Mon D := fun x y H H' e d => h x y H H' (fun b o q _ => e b o q) d
def DDict (D : Eqv) : Eqv := fun x y H => ∃ a b ks ls, x = .ref a ∧ y = .ref b ∧ H a = some (.dK ks) ∧ H b = some (.dK ls) ∧ ks.length = ls.length ∧ ∀ (i : Nat) k u, ks[i]? = some (k, u) → ∃ v, valV ls k = some v ∧ D u v H
theorem kv_at {κ : Type} {ks : List (κ × V)} {vs : List (κ × Value)} (r : KV ks vs) : ∀ {i : Nat} {k : κ} {v : Value}, vs[i]? = some (k, v) → ∃ u, ks[i]? = some (k, u) ∧ RelV u v := by
  unfold KV at r
  induction r with
  | nil => intro i k v e; cases e
  | @cons p q ps qs h t ih =>
    intro i k v e
    cases i with
    | zero =>
      cases e
      exact ⟨p.2, by rw [← (show p.1 = k from h.1)]; rfl, h.2⟩
    | succ i => exact ih e
section
variable {X : Cx} {n : Nat} {D : Eqv}
/-- both dicts are held while their values are compared -/
theorem hold_two {pins : List (Addr × Obj)} {s : Shared} {σ : L2.St} {H : Hp} {a b : Addr} {ks ls : List (Key × V)} (I : Inv X pins σ H s) (ea : H a = some (.dK ks)) (eb : H b = some (.dK ls)) :
    ∃ (H1 : Hp) (oa ob : Obj), Inv X pins σ H1 s ∧ H1 a = some (.frz oa (.dK ks)) ∧ H1 b = some (.frz ob (.dK ls)) ∧ KDn H H1 ∧ ∀ H2 s2, Inv X pins σ H2 s2 → Ext H1 H2 → ∃ H3, Inv X pins σ H3 s2 ∧ Ext H H3 := by
  obtain ⟨oa, I1⟩ := I.lock ea trivial
  have fa := I.nofrz ea trivial
  have k1 : KDn H (upd H a (.frz oa (.dK ks))) := fun c o e nk => (upd_ne (fun z => by rw [z, ea] at e; exact nk _ (Option.some.inj e).symm)).trans e
  by_cases ab : b = a
  · subst ab
    rw [ea] at eb
    cases eb
    refine ⟨_, oa, oa, I1, upd_same, upd_same, k1, fun H2 s2 I2 e2 => ?_⟩
    have g := e2 b _ upd_same
    refine ⟨_, I2.unlock g fa, fun c o e => ?_⟩
    by_cases hc : c = b
    · rw [hc, upd_same]
      rw [hc, ea] at e
      exact e
    · rw [upd_ne hc]
      exact e2 c o ((upd_ne hc).trans e)
  · have eb1 : (upd H a (.frz oa (.dK ks))) b = some (.dK ls) := (upd_ne ab).trans eb
    obtain ⟨ob, I3⟩ := I1.lock eb1 trivial
    have fb := I1.nofrz eb1 trivial
    refine ⟨_, oa, ob, I3, (upd_ne (Ne.symm ab)).trans upd_same, upd_same, fun c o e nk => (upd_ne (fun z => by rw [z, eb] at e; exact nk _ (Option.some.inj e).symm)).trans (k1 c o e nk), fun H2 s2 I2 e2 => ?_⟩
    have ga := e2 a _ ((upd_ne (Ne.symm ab)).trans upd_same)
    have gb := e2 b _ upd_same
    have I4 := I2.unlock gb fb
    refine ⟨_, I4.unlock ((upd_ne (Ne.symm ab)).trans ga) fa, fun c o e => ?_⟩
    by_cases hc : c = a
    · rw [hc, upd_same]
      rw [hc, ea] at e
      exact e
    · rw [upd_ne hc]
      by_cases hd : c = b
      · rw [hd, upd_same]
        rw [hd, eb] at e
        exact e
      · rw [upd_ne hd]
        exact e2 c o ((upd_ne hd).trans ((upd_ne hc).trans e))
theorem rcG_dict (hD : MonK D) (h : EqG X n D) : RcG X (n + 1) (DDict D) := by
  intro A pins s σ H x y u v sb I rx ry d
  obtain ⟨a, b, ks, ls, rfl, rfl, ea, eb, len, each⟩ := d
  cases rx
  cases ry
  obtain ⟨_, na, va, ra, da⟩ := (show ObjOk X.prog X.w H s.heap a (.dK ks) from I.hok a _ ea)
  obtain ⟨_, nb, vb, rb, db⟩ := (show ObjOk X.prog X.w H s.heap b (.dK ls) from I.hok b _ eb)
  have lv : va.length = vb.length := by rw [← Paired.length ra, ← Paired.length rb]; exact len
  obtain ⟨H1, oa, ob, I1, fa, fb, kd, back⟩ := hold_two I ea eb
  have at1 : ∀ {H' : Hp} {s' : Shared}, Inv X pins σ H' s' → Ext H1 H' → s'.heap.get? a = some oa ∧ s'.heap.get? b = some ob := fun I' e => ⟨(I'.frzK (e _ _ fa)).2.1, (I'.frzK (e _ _ fb)).2.1⟩
  have at0 := at1 I1 Ext.rfl'
  refine dicts_grow (fun _ s' => ∃ H', Inv X pins σ H' s' ∧ Ext H1 H') na nb da db lv sb.room.units0 (fun i s' hJ => ?_) (fun i s' k v hJ gv => ?_) ⟨H1, I1, Ext.rfl'⟩ (fun s' hJ => ?_)
  · obtain ⟨H', I', e⟩ := hJ
    have z := at1 I' e
    exact ⟨z.1.trans at0.1.symm, z.2.trans at0.2.symm⟩
  · obtain ⟨H', I', e⟩ := hJ
    obtain ⟨u, gu, ru⟩ := kv_at ra gv
    obtain ⟨u2, gu2, dd⟩ := each i k u gu
    have rr : RelO (some u2) (valueAt vb k) := by rw [← gu2]; exact rb.val k
    obtain ⟨y, gy, ry⟩ := rr.some_of
    refine ⟨y, gy, wpAny_mono (h A.in1 pins s' σ H' u u2 v y sb.in1 I' ru ry (hD _ _ _ _ (fun c o q nk => e c o (kd c o q nk)) dd)) (fun r s2 hr => ?_) fun _ _ z => z⟩
    obtain ⟨r1, H2, I2, e2⟩ := hr
    exact ⟨r1, H2, I2, e.trans e2⟩
  · obtain ⟨H', I', e⟩ := hJ
    obtain ⟨H3, I3, e3⟩ := back H' s' I' e
    exact ⟨rfl, H3, I3, e3⟩
theorem eqG_dict (hD : MonK D) (h : EqG X n D) : EqG X (n + 1) (DDict D) := (rcG_dict hD h).eqG fun _ _ _ d => let ⟨a, b, _, _, hx, hy, _⟩ := d; ⟨a, b, hx, hy⟩
end
/-! x ** n -/
section
variable {X : Cx} {n : Nat} {f : Addr} {fd : FuncData} {ps : List Str} {sp : Sp} {CX : CXT} {E : XK}
/-- the class at C has an own ** -/
structure PowC (K : PySem.W.Frag) (C f : Addr) : Prop where
  fst : PySem.W.selfFirst K C = true
  p : PySem.W.findIn K (.ref C) "__pow__" = some (some (.ref f))
  fn : PySem.W.isFn K (.ref f) = true
  r : PySem.W.findIn K (.ref C) "__rpow__" = some none
  i1 : ∃ o, PySem.W.findIn K (.type "int") "__pow__" = some o
  i2 : ∃ o, PySem.W.findIn K (.type "int") "__rpow__" = some o
  sub : PySem.W.subIn K (.type "int") (.ref C) = some false
def rPow (K : PySem.W.Frag) (f : Addr) (sp : Sp) (E : XK) : R2 := fun x y H Q => ∃ (a C dx : Addr) (fs : List (Str × V)) (k : Int), x = .ref a ∧ y = .int k ∧ H a = some (.ins C dx fs) ∧ PowC K C f ∧ sp [x, y] H (fun v H' => ∃ q, v = .ref q ∧ Q v H') E
theorem op_pow (F : FnOk X.prog X.w X.K X.mg X.base CX n f fd ps sp) (hb : Binds X.K fd ps []) (hx : Passes CX X E) (hr : Room n X.A) : OpR X (binaryOp .Pow) (rPow X.K f sp E) := by
  intro pins s σ H x y u v Q I rx ry h
  obtain ⟨a, C, dx, fs, k, rfl, rfl, ha, T, q⟩ := h
  obtain rfl : u = Value.ref a := rx
  obtain ⟨t, ev⟩ := ry
  obtain ⟨mA, O, _⟩ := ins_get I.hok ha
  obtain ⟨od, J, _⟩ := O.look
  obtain ⟨m, fr⟩ := I.fr
  obtain ⟨o1, h1⟩ := T.i1
  obtain ⟨o2, h2⟩ := T.i2
  have ty : typeOf v = pure (.type "int") := by rw [ev]; rfl
  refine PySem.W.ksp_binT (op := .Pow) fr I.ok.mod.kin J ty T.fst T.p T.fn T.r (.inl rfl) h1 h2 T.sub ?_
  refine wpAny_mono (NX.run_own (x := .ref a) (y := .int k) F hb hx ⟨hr, rfl⟩ I rfl ⟨t, ev⟩ q) (fun r s' hq => ?_) fun _ _ z => z
  obtain ⟨w, H', I', rw', b, rfl, q'⟩ := hq
  obtain rfl : r = Value.ref b := rw'
  exact ⟨.ref b, H', I', rfl, q'⟩
end
end NZ

set_option Elab.async false
set_option linter.all false
set_option maxRecDepth 100000
set_option maxHeartbeats 4000000
/-! Rules of my own: a tuple times none, or once. -/
namespace NZ
open PySem PySem.Spec PyProof.Rows L2
open AutoSeq1 (wpAny_loadPart')
theorem times_one (l : Addr) (items : Array Value) (n : Nat) (dd : Option Addr) (sl : Array (Option Value)) (u : Tok) :
    Meets (Builtin.«tuple.__mul__» ⟨[.ref l, .int 1 u], []⟩) (fun _ R s => s.heap.get? l = some { cls := .type "tuple", dict := dd, data := .seq items n, slots := sl } ∧ R (.ok (.ret (Value.ref l))) s) :=
  .of_wp fun prog w A R s h => by
    obtain ⟨hp, g, d, tk, os⟩ := s
    obtain ⟨at_, fin⟩ := h
    have f1 := AutoSeq1.idx_int
    wp_walk using wpAny_loadPart' at_
    repeat (first
      | (refine wpAny_ite_true (by simp) ?_; wp_walk using wpAny_loadPart' at_)
      | (refine wpAny_ite_false (by decide) ?_; wp_walk using wpAny_loadPart' at_))
    exact ⟨_, rfl, fin⟩
theorem times_none (l : Addr) (items : Array Value) (n : Nat) (dd : Option Addr) (sl : Array (Option Value)) (u : Tok) (ne : items.isEmpty = false) :
    Meets (Builtin.«tuple.__mul__» ⟨[.ref l, .int 0 u], []⟩) (fun _ R s => s.heap.get? l = some { cls := .type "tuple", dict := dd, data := .seq items n, slots := sl } ∧
      R (.ok (.ret (Value.ref s.heap.objs.size))) { s with heap := s.heap.push { cls := Value.type "tuple", data := Data.seq #[] }, toks := s.toks }) :=
  .of_wp fun prog w A R s h => by
    obtain ⟨hp, g, d, tk, os⟩ := s
    obtain ⟨at_, fin⟩ := h
    have f1 := AutoSeq1.idx_int
    have no : (items.isEmpty || (0 : Int) == 1) = false := by rw [ne]; rfl
    wp_walk using wpAny_loadPart' at_
    repeat (first
      | (refine wpAny_ite_false (decide_eq_false (by rw [no]; exact Bool.false_ne_true)) ?_; wp_walk using wpAny_loadPart' at_)
      | (refine wpAny_ite_true (by simp) ?_; wp_walk using wpAny_loadPart' at_)
      | (refine wpAny_ite_false (by decide) ?_; wp_walk using wpAny_loadPart' at_))
    exact ⟨_, rfl, fin⟩
/-- a tuple that is not empty, times any number that is not negative -/
def rRepA (K : PySem.W.Frag) : R2 := fun x y H Q => ∃ l k xs, x = .ref l ∧ y = .int k ∧ SqT K H l xs ∧ xs ≠ [] ∧ 0 ≤ k ∧ k ≤ 1000 ∧ xs.length ≤ 1000 ∧ (k = 1 → Q (.ref l) H) ∧ (k ≠ 1 → ∀ p, H p = none → Q (.ref p) (upd H p (.tup (List.replicate k.toNat xs).flatten)))
section
variable {X : Cx}
theorem op_repA : OpR X (binaryOp .Mult) (rRepA X.K) := by
  intro pins s σ H x y v u Q I rx ry h
  obtain ⟨l, k, xs, rfl, rfl, hT, ne, k0, k1, few, q1, q2⟩ := h
  by_cases big : 2 ≤ k
  · exact op_repT pins s σ H (.ref l) (.int k) v u Q I rx ry ⟨l, k, xs, rfl, rfl, hT, ne, big, k1, few, q2 (by omega)⟩
  · cases rx
    obtain ⟨t, rfl⟩ := ry
    obtain ⟨its, r, ⟨⟨cls, dd, data, sl⟩, ho, hc, n, hd⟩, hs⟩ := I.tuple hT
    simp only at hc hd
    subst hc hd
    have full : its ≠ [] := fun e => ne (List.eq_nil_of_length_eq_zero (by rw [r.length, e]; rfl))
    have some_ : its.toArray.isEmpty = false := by
      cases its with
      | nil => exact absurd rfl full
      | cons a b => rfl
    rcases (show k = 0 ∨ k = 1 by omega) with rfl | rfl
    · refine wpAny_binaryOp_repeat_ref (T := "tuple") (U := "int") (by decide) ⟨_, ho, rfl⟩ (fun s' => typeIs_int s' 0 t) noFill_tuple_mul F.fills_int_mul F.slot_int_rmul repeat_tuple F.slot_int_index.lookup
        (call_meets F.slot_int_rmul (typeIs_int s 0 t) F.entry_int_rmul (F.args_int_rmul_2 _ _) (int_rmul_tuple 0 t l its.toArray n dd sl)
          ⟨ho, rfl, ⟨_, ho, rfl⟩, call_meets F.slot_tuple_mul ⟨_, ho, rfl⟩ F.entry_tuple_mul (F.args_tuple_mul_2 _ _) (times_none l its.toArray n dd sl t some_) ⟨ho, ?_⟩⟩)
      refine ⟨.ref s.heap.objs.size, _, I.laid (t' := s.toks) (o := .tup (List.replicate (0 : Int).toNat xs).flatten) (fun b ob q => Heap.get?_push_of_some _ q) (Nat.le_refl _) ?_, rfl, q2 (by decide) _ (I.hok.fresh (Nat.le_refl _))⟩
      exact ⟨by show 0 ≤ sizeLine; exact Nat.zero_le _, [], .nil, IsTup.new _ _⟩
    · refine wpAny_binaryOp_repeat_ref (T := "tuple") (U := "int") (by decide) ⟨_, ho, rfl⟩ (fun s' => typeIs_int s' 1 t) noFill_tuple_mul F.fills_int_mul F.slot_int_rmul repeat_tuple F.slot_int_index.lookup
        (call_meets F.slot_int_rmul (typeIs_int s 1 t) F.entry_int_rmul (F.args_int_rmul_2 _ _) (int_rmul_tuple 1 t l its.toArray n dd sl)
          ⟨ho, rfl, ⟨_, ho, rfl⟩, call_meets F.slot_tuple_mul ⟨_, ho, rfl⟩ F.entry_tuple_mul (F.args_tuple_mul_2 _ _) (times_one l its.toArray n dd sl t) ⟨ho, ?_⟩⟩)
      exact ⟨.ref l, H, I, rfl, q1 rfl⟩
end
end NZ

set_option Elab.async false
set_option linter.all false
set_option maxRecDepth 100000
set_option maxHeartbeats 4000000
/-! A program's properties. -/
namespace K07
open PySem L2 NX NU
open PyProof.Rows (sortedS)
abbrev sPt (i : Nat) : Stmt := inClass (top 66) (i + 1)
theorem scP0 : FnScope ["self"] ["self"] (defScope (sPt 0)) := ⟨rfl, rfl, rfl, by decide +kernel, rfl, by decide +kernel, by decide +kernel⟩
theorem scP1 : FnScope ["self"] ["self"] (defScope (sPt 1)) := ⟨rfl, rfl, rfl, by decide +kernel, rfl, by decide +kernel, by decide +kernel⟩
theorem scP2 : FnScope ["self"] ["self"] (defScope (sPt 2)) := ⟨rfl, rfl, rfl, by decide +kernel, rfl, by decide +kernel, by decide +kernel⟩
theorem scP3 : FnScope ["self"] ["self"] (defScope (sPt 3)) := ⟨rfl, rfl, rfl, by decide +kernel, rfl, by decide +kernel, by decide +kernel⟩
theorem scP4 : FnScope ["self"] ["self"] (defScope (sPt 4)) := ⟨rfl, rfl, rfl, by decide +kernel, rfl, by decide +kernel, by decide +kernel⟩
theorem scP5 : FnScope ["self"] ["self"] (defScope (sPt 5)) := ⟨rfl, rfl, rfl, by decide +kernel, rfl, by decide +kernel, by decide +kernel⟩
theorem scP6 : FnScope ["self"] ["self"] (defScope (sPt 6)) := ⟨rfl, rfl, rfl, by decide +kernel, rfl, by decide +kernel, by decide +kernel⟩
theorem scP7 : FnScope ["self"] ["self"] (defScope (sPt 7)) := ⟨rfl, rfl, rfl, by decide +kernel, rfl, by decide +kernel, by decide +kernel⟩
theorem scP8 : FnScope ["self"] ["self"] (defScope (sPt 8)) := ⟨rfl, rfl, rfl, by decide +kernel, rfl, by decide +kernel, by decide +kernel⟩
theorem scP9 : FnScope ["self", "part"] ["self"] (defScope (sPt 9)) := ⟨rfl, rfl, rfl, by decide +kernel, rfl, by decide +kernel, by decide +kernel⟩
/-- a property of the class at C -/
structure Gt (P : Program) (w : World) (K : PySem.W.Frag) (mg : Str → Option Value) (base : Heap) (C : Addr) (f : Str) (sp : Sp) : Prop where
  ex : ∃ (p g : Addr) (fd : FuncData), PropOf K C f p g ∧ FnOk P w K mg base CX0 1 g fd ["self"] sp ∧ Binds K fd ["self"] []
def spPt (K : PySem.W.Frag) (d : D3) (C : Addr) (i : Nat) : Sp := fun vs H Q _ => ∃ (x : Addr) (t : Tol), vs = [.ref x] ∧ IsP K d H x C t ∧ ∀ v, PartA K d H v (t.g.at i) → Q v H
def spTg (K : PySem.W.Frag) (d : D3) (C : Addr) (sel : Tol → List Str) : Sp := fun vs H Q _ => ∃ (x : Addr) (t : Tol), vs = [.ref x] ∧ IsP K d H x C t ∧ ∀ q ns, H q = some (.tup (ns.map V.str)) → Asc ns (sel t) → Q (.ref q) H
def spAgn (K : PySem.W.Frag) (d : D3) (C : Addr) : Sp := fun vs H Q _ => ∃ (x : Addr) (t : Tol), vs = [.ref x] ∧ IsP K d H x C t ∧ ∀ a, H a = none → Q (.ref a) (upd H a (.dK (agK t.ag)))
def Tol.loops (t : Tol) : Nat := (if t.g.l.isSome then 1 else 0) + if t.g.s.isSome then 1 else 0
def spLps (K : PySem.W.Frag) (d : D3) (C : Addr) : Sp := fun vs H Q _ => ∃ (x : Addr) (t : Tol), vs = [.ref x] ∧ IsP K d H x C t ∧ ∀ H', Same H H' → Q (.int (t.loops : Nat)) H'
section
variable {P : Program} {w : World} {K : PySem.W.Frag} {mg : Str → Option Value} {base : Heap}
theorem retA {te : TE} {D : L2.Ends} {σ : L2.St} {H : Hp} (h : te σ H D.rt) : tRet te D σ H := h
/-- the loops that are there, the first i words asked -/
def Tol.upl (t : Tol) : Nat → Nat
  | 0 => 0
  | 1 => if t.g.l.isSome then 1 else 0
  | _ => t.loops
theorem ok_p0 {d : D3} {C : Addr} {f : Addr} {fd : FuncData} (F : Fun K "ahead" "Program.ahead" (sPt 0) f fd) (pc : PCls K C) : FnOk P w K mg base CX0 1 f fd ["self"] (spPt K d C 0) := by
  refine F.ok scP0 (fun vs H Q E h => ?_) (fun cdv A outer s H vs Q E hr h => ?_)
  · obtain ⟨x, t, rfl, _⟩ := h
    rfl
  · obtain ⟨x, t, rfl, ip, k⟩ := h
    obtain ⟨dx, nt, Pd, gt, ag, rt, ns, gs, rs, a, b, c, _⟩ := ip.ex
    obtain ⟨v, g, pa⟩ := c.get 0 (z := "ahead") rfl
    exact ⟨_, pss_one (ps_ret (pe_dget (hu_of hr) (pe_fld (pv 0) rfl) pe_str (fun _ _ => rfl))), _, rfl, x, C, dx, _, _, rfl, a, pc.cl, pc.n2, rfl, Pd, v, rfl, g, k v pa⟩
theorem ok_p1 {d : D3} {C : Addr} {f : Addr} {fd : FuncData} (F : Fun K "loop" "Program.loop" (sPt 1) f fd) (pc : PCls K C) : FnOk P w K mg base CX0 1 f fd ["self"] (spPt K d C 1) := by
  refine F.ok scP1 (fun vs H Q E h => ?_) (fun cdv A outer s H vs Q E hr h => ?_)
  · obtain ⟨x, t, rfl, _⟩ := h
    rfl
  · obtain ⟨x, t, rfl, ip, k⟩ := h
    obtain ⟨dx, nt, Pd, gt, ag, rt, ns, gs, rs, a, b, c, _⟩ := ip.ex
    obtain ⟨v, g, pa⟩ := c.get 1 (z := "loop") rfl
    exact ⟨_, pss_one (ps_ret (pe_dget (hu_of hr) (pe_fld (pv 0) rfl) pe_str (fun _ _ => rfl))), _, rfl, x, C, dx, _, _, rfl, a, pc.cl, pc.n2, rfl, Pd, v, rfl, g, k v pa⟩
theorem ok_p2 {d : D3} {C : Addr} {f : Addr} {fd : FuncData} (F : Fun K "between" "Program.between" (sPt 2) f fd) (pc : PCls K C) : FnOk P w K mg base CX0 1 f fd ["self"] (spPt K d C 2) := by
  refine F.ok scP2 (fun vs H Q E h => ?_) (fun cdv A outer s H vs Q E hr h => ?_)
  · obtain ⟨x, t, rfl, _⟩ := h
    rfl
  · obtain ⟨x, t, rfl, ip, k⟩ := h
    obtain ⟨dx, nt, Pd, gt, ag, rt, ns, gs, rs, a, b, c, _⟩ := ip.ex
    obtain ⟨v, g, pa⟩ := c.get 2 (z := "between") rfl
    exact ⟨_, pss_one (ps_ret (pe_dget (hu_of hr) (pe_fld (pv 0) rfl) pe_str (fun _ _ => rfl))), _, rfl, x, C, dx, _, _, rfl, a, pc.cl, pc.n2, rfl, Pd, v, rfl, g, k v pa⟩
theorem ok_p3 {d : D3} {C : Addr} {f : Addr} {fd : FuncData} (F : Fun K "second" "Program.second" (sPt 3) f fd) (pc : PCls K C) : FnOk P w K mg base CX0 1 f fd ["self"] (spPt K d C 3) := by
  refine F.ok scP3 (fun vs H Q E h => ?_) (fun cdv A outer s H vs Q E hr h => ?_)
  · obtain ⟨x, t, rfl, _⟩ := h
    rfl
  · obtain ⟨x, t, rfl, ip, k⟩ := h
    obtain ⟨dx, nt, Pd, gt, ag, rt, ns, gs, rs, a, b, c, _⟩ := ip.ex
    obtain ⟨v, g, pa⟩ := c.get 3 (z := "second") rfl
    exact ⟨_, pss_one (ps_ret (pe_dget (hu_of hr) (pe_fld (pv 0) rfl) pe_str (fun _ _ => rfl))), _, rfl, x, C, dx, _, _, rfl, a, pc.cl, pc.n2, rfl, Pd, v, rfl, g, k v pa⟩
theorem ok_p4 {d : D3} {C : Addr} {f : Addr} {fd : FuncData} (F : Fun K "behind" "Program.behind" (sPt 4) f fd) (pc : PCls K C) : FnOk P w K mg base CX0 1 f fd ["self"] (spPt K d C 4) := by
  refine F.ok scP4 (fun vs H Q E h => ?_) (fun cdv A outer s H vs Q E hr h => ?_)
  · obtain ⟨x, t, rfl, _⟩ := h
    rfl
  · obtain ⟨x, t, rfl, ip, k⟩ := h
    obtain ⟨dx, nt, Pd, gt, ag, rt, ns, gs, rs, a, b, c, _⟩ := ip.ex
    obtain ⟨v, g, pa⟩ := c.get 4 (z := "behind") rfl
    exact ⟨_, pss_one (ps_ret (pe_dget (hu_of hr) (pe_fld (pv 0) rfl) pe_str (fun _ _ => rfl))), _, rfl, x, C, dx, _, _, rfl, a, pc.cl, pc.n2, rfl, Pd, v, rfl, g, k v pa⟩
theorem ok_p5 {d : D3} {C : Addr} {f : Addr} {fd : FuncData} (F : Fun K "given" "Program.given" (sPt 5) f fd) (pc : PCls K C) : FnOk P w K mg base CX0 1 f fd ["self"] (spTg K d C (fun t => t.us)) := by
  refine F.ok scP5 (fun vs H Q E h => ?_) (fun cdv A outer s H vs Q E hr h => ?_)
  · obtain ⟨x, t, rfl, _⟩ := h
    rfl
  · obtain ⟨x, t, rfl, ip, k⟩ := h
    obtain ⟨dx, nt, Pd, gt, ag, rt, ns, gs, rs, a, b, c, e, f, g, h1, h2, h3⟩ := ip.ex
    exact ⟨_, pss_one (ps_ret (pe_fld (pv 0) rfl)), _, rfl, x, C, dx, _, _, rfl, a, pc.cl, pc.n3, rfl, k gt gs e h2⟩
theorem ok_p7 {d : D3} {C : Addr} {f : Addr} {fd : FuncData} (F : Fun K "results" "Program.results" (sPt 7) f fd) (pc : PCls K C) : FnOk P w K mg base CX0 1 f fd ["self"] (spTg K d C (fun t => t.rs)) := by
  refine F.ok scP7 (fun vs H Q E h => ?_) (fun cdv A outer s H vs Q E hr h => ?_)
  · obtain ⟨x, t, rfl, _⟩ := h
    rfl
  · obtain ⟨x, t, rfl, ip, k⟩ := h
    obtain ⟨dx, nt, Pd, gt, ag, rt, ns, gs, rs, a, b, c, e, f, g, h1, h2, h3⟩ := ip.ex
    exact ⟨_, pss_one (ps_ret (pe_fld (pv 0) rfl)), _, rfl, x, C, dx, _, _, rfl, a, pc.cl, pc.n5, rfl, k rt rs g h3⟩
theorem ok_p8 {d : D3} {C : Addr} {f : Addr} {fd : FuncData} (F : Fun K "names" "Program.names" (sPt 8) f fd) (pc : PCls K C) : FnOk P w K mg base CX0 1 f fd ["self"] (spTg K d C (Tol.words)) := by
  refine F.ok scP8 (fun vs H Q E h => ?_) (fun cdv A outer s H vs Q E hr h => ?_)
  · obtain ⟨x, t, rfl, _⟩ := h
    rfl
  · obtain ⟨x, t, rfl, ip, k⟩ := h
    obtain ⟨dx, nt, Pd, gt, ag, rt, ns, gs, rs, a, b, c, e, f, g, h1, h2, h3⟩ := ip.ex
    exact ⟨_, pss_one (ps_ret (pe_fld (pv 0) rfl)), _, rfl, x, C, dx, _, _, rfl, a, pc.cl, pc.n1, rfl, k nt ns b h1⟩
theorem ok_p6 {d : D3} {C : Addr} {f : Addr} {fd : FuncData} (F : Fun K "again" "Program.again" (sPt 6) f fd) (pc : PCls K C) (N : TxtP mg) : FnOk P w K mg base CX0 1 f fd ["self"] (spAgn K d C) := by
  refine F.ok scP6 (fun vs H Q E h => ?_) (fun cdv A outer s H vs Q E hr h => ?_)
  · obtain ⟨x, t, rfl, _⟩ := h
    rfl
  · obtain ⟨x, t, rfl, ip, k⟩ := h
    obtain ⟨dx, nt, Pd, gt, ag, rt, ns, gs, rs, a, b, c, e, f, g, h1, h2, h3⟩ := ip.ex
    exact ⟨_, pss_one (ps_ret (pe_callTy call_dictD (by rfl) N.bdict (by decide +kernel) (pa_cons (pe_fld (pv 0) rfl) pa_nil))), _, rfl, x, C, dx, _, _, rfl, a, pc.cl, pc.n4, rfl, ag, _, rfl, .inl f, k⟩
theorem ok_p9 {d : D3} {C : Addr} {f : Addr} {fd : FuncData} (F : Fun K "loops" "Program.loops" (sPt 9) f fd) (pc : PCls K C) (T : TxtB mg) : FnOk P w K mg base CX0 1 f fd ["self"] (spLps K d C) := by
  refine F.ok scP9 (fun vs H Q E h => ?_) (fun cdv A outer s H vs Q E hr h => ?_)
  · obtain ⟨x, t, rfl, _⟩ := h
    rfl
  · obtain ⟨x, t, rfl, ip, k⟩ := h
    have hu := hu_of hr
    refine ⟨_, pss_one (ps_ret (pe_callB call_len_seq (by rfl) T.blen (by decide +kernel) (pa_cons (pe_lc (own := [("part", 1)]) (g := gName 1) rfl scP9.nd (pi_tup (pe_tup (pa_cons pe_str (pa_cons pe_str pa_nil)))) (blkOk_by (own := [("part", 1)]) (N := ["self", "part"]) (sc := defScope (sPt 9)) (by decide +kernel)) (fun _ _ _ _ _ => (pg_name (i := 1) scP9.nd rfl (Or.inl rfl))) (fun _ _ _ _ _ => (pts_one (show PT _ _ (tTest (tOp (fun x y H Q => y = V.non ∧ Q (.bl (!decide (x = V.non))) H) (tDGet (tFld K (tVar 0) (Str.ofString "_parts")) (tVar 1)) (tC V.non))) from pt_cmpR op_notN (pe_dget hu (pe_fld (pv 0) rfl) (pv 1) (fun _ _ => rfl)) pe_non (nomark _)))) (fun _ _ _ _ _ => (pv 1))) pa_nil))), ?_⟩
    obtain ⟨dx, nt, Pd, gt, ag, rt, ns, gs, rs, a, b, c, e, f, g, h1, h2, h3⟩ := ip.ex
    refine retA (cb1 (lcOf ?_))
    refine ⟨by show 2 ≤ sizeLine; decide, fun tp htp => ?_⟩
    have s1 : Same H (upd H tp (.tup [.str (Str.ofString "loop"), .str (Str.ofString "second")])) := Same.new htp
    have gt : (upd H tp (.tup [.str (Str.ofString "loop"), .str (Str.ofString "second")])) tp = some (.tup [.str (Str.ofString "loop"), .str (Str.ofString "second")]) := upd_same
    generalize (upd H tp (.tup [.str (Str.ofString "loop"), .str (Str.ofString "second")])) = H1 at *
    refine ⟨tp, rfl, ⟨_, SqT.of gt⟩, fun D hD => ?_⟩
    have a1 := s1 _ _ a
    have c1 := c.same s1
    have low : (2 : Nat) < sizeLine := by decide
    refine lc_tup (xs := [V.str (Str.ofString "loop"), V.str (Str.ofString "second")]) (fun j H' => Same H1 H' ∧ ∃ zs : List V, H' D = some (.lst zs) ∧ zs.length = t.upl j ∧ zs.length ≤ j) ⟨Same.new hD, [], upd_same, rfl, Nat.le_refl _⟩ (fun j H' _ z => SqT.of (z.1 _ _ gt)) ?_ ?_
    · rintro j y H2 hy ⟨s2, zs, gD, l1, l2⟩
      have a2 := s2 _ _ a1
      refine ⟨rfl, ?_⟩
      match j, hy with
      | 0, hy =>
        cases hy
        obtain ⟨v, g, q⟩ := (c1.same s2).get 1 (z := "loop") rfl
        have iN := q.isNon
        refine ⟨_, rfl, x, C, dx, _, _, rfl, a2, pc.cl, pc.n2, rfl, _, rfl, Pd, v, rfl, g, rfl, _, rfl, ?_⟩
        have iN : (!decide (v = V.non)) = t.g.l.isSome := by
          rw [iN]
          show (!(t.g.l.isNone)) = _
          cases t.g.l <;> rfl
        rw [iN]
        cases hl : t.g.l.isSome with
        | false => exact iteF ⟨s2, zs, gD, by rw [l1]; show 0 = if t.g.l.isSome then 1 else 0; rw [hl]; rfl, by omega⟩
        | true => exact iteT ⟨_, rfl, zs, gD, by omega, sameUpd s2 hD, zs ++ [.str (Str.ofString "loop")], upd_same, by rw [List.length_append, l1]; show 0 + 1 = if t.g.l.isSome then 1 else 0; rw [hl]; rfl, by rw [List.length_append]; show zs.length + 1 ≤ 0 + 1; omega⟩
      | 1, hy =>
        cases hy
        obtain ⟨v, g, q⟩ := (c1.same s2).get 3 (z := "second") rfl
        have iN := q.isNon
        refine ⟨_, rfl, x, C, dx, _, _, rfl, a2, pc.cl, pc.n2, rfl, _, rfl, Pd, v, rfl, g, rfl, _, rfl, ?_⟩
        have iN : (!decide (v = V.non)) = t.g.s.isSome := by
          rw [iN]
          show (!(t.g.s.isNone)) = _
          cases t.g.s <;> rfl
        rw [iN]
        have l1 : zs.length = if t.g.l.isSome then 1 else 0 := l1
        cases hl : t.g.s.isSome with
        | false => exact iteF ⟨s2, zs, gD, by rw [l1]; show _ = (if t.g.l.isSome then 1 else 0) + (if t.g.s.isSome then 1 else 0); rw [hl]; rfl, by omega⟩
        | true => exact iteT ⟨_, rfl, zs, gD, by omega, sameUpd s2 hD, zs ++ [.str (Str.ofString "second")], upd_same, by rw [List.length_append, l1]; show _ = (if t.g.l.isSome then 1 else 0) + (if t.g.s.isSome then 1 else 0); rw [hl]; rfl, by rw [List.length_append]; show zs.length + 1 ≤ 1 + 1; omega⟩
      | n + 2, hy => cases hy
    · rintro H2 ⟨s2, zs, gD, l1, l2⟩
      have l1 : zs.length = t.loops := l1
      refine ⟨D, zs, rfl, .inl (SqL.of gD), ?_⟩
      rw [l1]
      exact k H2 (s1.trans s2)
end
end K07

set_option Elab.async false
set_option linter.all false
set_option maxRecDepth 100000
set_option maxHeartbeats 4000000
/-! Errors of ours as values: C(e, ..), C(), isinstance and fields of such. -/
namespace NX
open PySem L2 PySem.Spec PyProof.Rows
/-- C(e, ..) as a value, C's own __init__ keeping sp -/
def tMkV (C : Addr) (sp : Sp) (dvs : List V) (ta : TA) : TE := fun σ H Q => ta σ H fun vs H1 => vs.length ≤ 1000 ∧ ∀ a, H1 a = none → sp (.ref a :: (vs ++ dvs)) (upd H1 a (exo a C none)) (fun v H2 => v = .non ∧ Q (.ref a) H2) (fun _ _ _ => False)
def tMkV0 (C : Addr) : TE := fun σ H Q => ∀ a, H a = none → Q (.ref a) (upd H a (ExO (.ref C) a))
/-- an error of the class D at a -/
def IsEr (H : Hp) (a D : Addr) : Prop := (∃ d fs, H a = some (exo a D (some d)) ∧ H d = some (exd d fs)) ∨ H a = some (ExO (.ref D) a)
def rIsEr (K : PySem.W.Frag) : List V → Hp → VK → Prop := fun xs H Q => ∃ (a D : Addr) (c : V) (u : Value) (b : Bool), xs = [.ref a, c] ∧ ClsV c u ∧ IsEr H a D ∧ ExcC K D ∧ PySem.W.kitOne K (.ref D) u = some b ∧ Q (.bl b) H
def rIsErT (K : PySem.W.Frag) : List V → Hp → VK → Prop := fun xs H Q => ∃ (a D tp : Addr) (cs : List V) (us : List Value) (b : Bool), xs = [.ref a, .ref tp] ∧ H tp = some (.tup cs) ∧ Paired ClsV cs us ∧ IsEr H a D ∧ ExcC K D ∧ PySem.W.kitAny K (.ref D) us = some b ∧ Q (.bl b) H
def tErF (K : PySem.W.Frag) (n : Str) (te : TE) : TE := fun σ H Q => te σ H fun x H1 => ∃ (a D d : Addr) (fs : List (Str × V)) (v : V), x = .ref a ∧ H1 a = some (exo a D (some d)) ∧ H1 d = some (exd d fs) ∧ XfC K D ∧ PySem.W.findIn K (.ref D) n = some none ∧ fs.lookup n = some v ∧ Q v H1
section
variable {X : Cx} {pins : List (Addr × Obj)} {σ : L2.St} {H : Hp} {s : Shared}
theorem inst_exo {a D d : Addr} {fs : List (Str × V)} (I : Inv X pins σ H s) (ha : H a = some (exo a D (some d))) (hd : H d = some (exd d fs)) :
    ∃ o od, PySem.W.InstAt s.heap a o D (some od) ∧ s.heap.get? d = some od ∧ ∃ mA, s.heap.Ns1 d mA ∧ (∀ f, RelO (fs.lookup f) (mA f)) := by
  obtain ⟨t1, e1⟩ := exo_at I.hok ha
  obtain ⟨mA, hns, hr⟩ := exd_at I.hok hd
  obtain ⟨od, ho, _⟩ := lookIn_ns hns
  exact ⟨_, od, ⟨e1, rfl, rfl, ho⟩, ho, mA, hns, hr⟩
theorem inst_er {a D : Addr} (I : Inv X pins σ H s) (h : IsEr H a D) : ∃ o od, PySem.W.InstAt s.heap a o D od := by
  rcases h with ⟨d, fs, ha, hd⟩ | ha
  · obtain ⟨o, od, J, _⟩ := inst_exo I ha hd
    exact ⟨o, _, J⟩
  · have x : ObjOk X.prog X.w H s.heap a (.ext fun h => ∃ (oe : Obj) (vs : Array Value), h.get? a = some oe ∧ Zc (.ref D) none oe ∧ oe.data = .fields vs ∧ vs[1]? = some .none ∧ vs[2]? = some .none ∧ 4 < vs.size) := I.hok a _ ha
    obtain ⟨⟨oe, vs, e1, z, e4, _⟩, _, _⟩ := x
    exact ⟨oe, none, ⟨e1, z.1, by unfold PySem.W.notCls; rw [e4] <;> rfl, by rw [z.2] <;> trivial⟩⟩
end
section
variable {X : Cx} {e : Expr} {es : List Expr} {te : TE} {ta : TA} {pos p : Pos} {n : Str}
theorem clsSome {K : PySem.W.Frag} {D : Addr} (z : PySem.W.hasDictIn K D = true) : (PySem.W.clsIn K D).isSome = true := by
  unfold PySem.W.hasDictIn at z
  cases q : PySem.W.clsIn K D with
  | some cd => rfl
  | none => rw [q] at z; cases z
theorem call_isEr : CallR X (.builtin "isinstance") (rIsEr X.K) := by
  intro pins s σ H xs us Q I r h
  obtain ⟨a, D, c, u, b, rfl, hc, hE, E, k, q⟩ := h
  obtain ⟨u1, u2, rfl, r1, r2⟩ := vals2 r
  have e2 := hc.eq r2
  subst e2
  obtain rfl : u1 = Value.ref a := r1
  obtain ⟨o, od, J⟩ := inst_er I hE
  exact PySem.W.kia_one (PySem.W.kitx_exc (clsSome E.hd) E.hg E.hk E.hs E.ha E.hn E.ht E.hm) I.kIn J k (fun z => nomatch z) fun tk => ⟨.bl b, H, I.tok tk, rfl, q⟩
theorem call_isErT : CallR X (.builtin "isinstance") (rIsErT X.K) := by
  intro pins s σ H xs us Q I r h
  obtain ⟨a, D, tp, cs, ws, b, rfl, hT, k, hE, E, e, q⟩ := h
  obtain ⟨u1, u2, rfl, r1, r2⟩ := vals2 r
  cases (show u2 = Value.ref tp from r2)
  obtain rfl : u1 = Value.ref a := r1
  obtain ⟨o, od, J⟩ := inst_er I hE
  obtain ⟨_, its, rv, o, h1, h2, n, h3⟩ := (show ObjOk X.prog X.w H s.heap tp (.tup cs) from I.hok tp _ hT)
  have e3 := ClsV.all k rv
  subst e3
  obtain ⟨oc, od, dt, sl⟩ := o
  simp only at h2 h3
  subst h2 h3
  exact PySem.W.kia_tup (PySem.W.kitx_exc (clsSome E.hd) E.hg E.hk E.hs E.ha E.hn E.ht E.hm) I.kIn J h1 e (fun z => nomatch z) fun tk => ⟨.bl b, H, I.tok tk, rfl, q⟩
theorem pe_erF (he : PE X e te) (hb : attributeBase e n X.env (eval e X.env) = eval e X.env := by rfl) : PE X (.Attribute e n pos) (tErF X.K n te) := by
  refine ⟨fun pins s σ H Q I h => attr_of hb (thn (he.run pins s σ H _ I h) fun u s1 ⟨x, H1, I1, rx, a, D, d, fs, v, ex, ha, hd, T, hno, l, q⟩ => ?_)⟩
  subst ex
  obtain rfl : u = Value.ref a := rx
  obtain ⟨o, od, J, ho, mA, hns, hr⟩ := inst_exo I1 ha hd
  obtain ⟨od', ho', hl⟩ := lookIn_ns hns
  rw [ho] at ho'
  cases ho'
  obtain ⟨y, hy, ry⟩ := RelO.some_of (v := v) (o := mA n) (by rw [← l]; exact hr n)
  exact HandSPX.exc_get I1.kIn J T.ga T.gg T.exC (PySem.W.findObj_own T.hdC hno rfl (by rw [hl, hy])) (handed_of ry) ⟨v, H1, I1.tok _, ry, q⟩
theorem pe_oexV {CX : CXT} {x : Str} {C fI : Addr} {k : Nat} {fd : FuncData} {ps : List Str} {sp : Sp} {ds : List Value} {dvs : List V} (T : OexC X.K C) (iC : PySem.W.findIn X.K (.ref C) "__init__" = some (some (.ref fI))) (tI : PySem.W.typeIn X.K (.ref fI) = some (.type "function"))
    (F1 : FnOk X.prog X.w X.K X.mg X.base CX k fI fd ps sp) (hr : Room (k + 1) X.A) (hb : Binds X.K fd ps ds) (hd : Vals dvs ds) (hx : Passes CX X (fun _ _ _ => False)) (hg : Gl X x) (hm : X.mg x = some (.ref C)) (ha : PA X (e :: es) ta)
    (hdb : (x == ("__debug__" : Str)) = false := by decide) (he : starEach (e :: es) X.env = (false, eval e X.env) :: starEach es X.env := by rfl) (hpl : (backTo pos (starEach es X.env)).any (·.1) = false := by rfl) :
    PE X (.Call (.Name x p) (e :: es) [] pos) (tMkV C sp dvs ta) := by
  refine ⟨fun pins s σ H Q I h => ?_⟩
  obtain ⟨nm, q, N, bs, bm, sn, sub, ab, col, dd, k0, k1, k2, k3, k5, hC, hbm⟩ := T.cls
  refine wpAny_Call_Name_kw (ld_glob I hg hm ?_ hdb)
  refine PySem.W.callWith_K (h₀ := X.base) I.ok.mod.kin T.kC (thn (ha.run pos pins s σ H _ I h) fun us s1 ⟨vs, H1, I1, r1, hz, q1⟩ => ⟨I1.kIn, ?_⟩) he hpl
  show wpAny _ _ (call (.ref C) us) _ _ _
  obtain ⟨hp, g, dr, tk, os⟩ := s1
  have hsz : hp.objs.size ≤ hp.objs.size + 1 := Nat.le_succ _
  have hn : H1 (hp.objs.size + 1) = none := I1.hok.fresh hsz
  have hq := q1 (hp.objs.size + 1) hn
  have kk : ∀ b o, hp.get? b = some o → ((hp.push (PySem.W.kdv_tup us)).push (PySem.HandSPX.excO C hp.objs.size)).get? b = some o := fun b o e => Heap.get?_push_of_some _ (Heap.get?_push_of_some _ e)
  have hget : ((hp.push (PySem.W.kdv_tup us)).push (PySem.HandSPX.excO C hp.objs.size)).get? (hp.objs.size + 1) = some (PySem.HandSPX.excO C hp.objs.size) := by heap_get
  have I2 : Inv X pins σ (upd H1 (hp.objs.size + 1) (exo (hp.objs.size + 1) C none)) ⟨(hp.push (PySem.W.kdv_tup us)).push (PySem.HandSPX.excO C hp.objs.size), g, dr, tk, os⟩ :=
    I1.laid (t' := tk) (a := hp.objs.size + 1) (o := exo (hp.objs.size + 1) C none) (h' := (hp.push (PySem.W.kdv_tup us)).push (PySem.HandSPX.excO C hp.objs.size)) kk hsz (exo_ok hget)
  have r2 : Vals (V.ref (hp.objs.size + 1) :: (vs ++ dvs)) (Value.ref (hp.objs.size + 1) :: (us ++ ds)) := .cons rfl (r1.append hd)
  have hl : (Value.ref (hp.objs.size + 1) :: us ++ ds).length = ps.length := by
    have e := r2.length
    rw [F1.len _ _ _ _ hq] at e
    exact e.symm
  have hus : us.length ≤ sizeLine := by
    rw [← Paired.length r1, sizeLine_eq]
    omega
  refine wpAny_call (PySem.HandSPX.call_own F.excBase_ValueError (fun Y => PySem.HandSPX.refsVE_contains Y bm hbm) (I1.kIn _ _ hC) (PySem.W.looks_findIn I1.kIn iC) (fun self => PySem.W.bind_fn I1.kIn self tI) hus
    (codeAny_mono (F1.run _ X.stack _ _ ⟨Value.ref (hp.objs.size + 1) :: us, []⟩ (Value.ref (hp.objs.size + 1) :: (us ++ ds)) _ _ (fun _ _ _ => False) (hr.make C us []) (I2.env0.make C us []) (hb _ (Value.ref (hp.objs.size + 1) :: us) I2.kIn hl) r2 hq) fun r s' hq' => ?_))
  cases r with
  | error er => exact hx pins σ _ _ er s' I2 hq'
  | ok fl =>
    cases fl with
    | ret u =>
      obtain ⟨v, H2, os2, bare2, un2, hok2, rv, ev, q2⟩ := hq'
      subst ev
      exact ⟨rv, ⟨.ref (hp.objs.size + 1), H2, I2.call' (ch := []) os2 un2 hok2 bare2 (fun b z => absurd z (by simp)), rfl, q2⟩⟩
    | next => exact False.elim hq'
    | brk => exact False.elim hq'
    | cont => exact False.elim hq'
theorem pe_oexV0 {C : Addr} {bmB : List Value} {B newId initId : String} {x : Str} (F : ExcBaseFacts B newId initId bmB) (q : PySem.W.excIn X.K C bmB newId = true) (gC : X.mg x = some (.ref C)) (kC : PySem.W.keepIn X.K (.ref C) = true) (hg : Gl X x) (hdb : (x == ("__debug__" : Str)) = false := by decide) :
    PE X (.Call (.Name x p) [] [] pos) (tMkV0 C) := by
  refine ⟨fun pins s σ H Q I h => ?_⟩
  refine wpAny_Call_Name_kw (ld_glob I hg gC ?_ hdb)
  refine PySem.W.callWith_K0 I.kIn kC ?_
  show wpAny _ _ (call (.ref C) []) _ _ _
  obtain ⟨bm, N, nm, qn, bs, hdct, sn, sub, ab, col, dd, k0, k1, k2, k3, k5, mN, hC, hN, hni, T⟩ := exc_obj I.kIn q
  refine wpAny_call_exc_subT F T hC hN hni (fun h' a hm => ?_) (by show 0 ≤ sizeLine; rw [sizeLine_eq]; omega)
  have hn : H a = none := I.hok.gone hm.new
  obtain ⟨t, ht, _, _⟩ := hm.there
  exact ⟨.ref a, upd H a (ExO (.ref C) a), I.laidN hm.keeps hm.new hn (exO_ok ht ⟨rfl, rfl⟩ rfl rfl rfl (show 4 < 6 by decide)), rfl, h a hn⟩
end
end NX

set_option Elab.async false
set_option linter.all false
set_option maxRecDepth 100000
set_option maxHeartbeats 4000000
/-! Too many deeds. -/
namespace K07
open PySem L2 NX NU
open PyProof.Rows (sortedS)
/-- what a program's parts are refused with: the greatest number that is let -/
def Prg.many (g : Prg) : Option Nat :=
  if g.a.length ≤ 200 then if (g.l.getD []).length ≤ 24 then if g.b.length ≤ 24 then if (g.s.getD []).length ≤ 24 then if g.h.length ≤ 24 then if g.a.length + g.b.length + g.h.length ≤ 200 then none else some 200 else some 24 else some 24 else some 24 else some 24 else some 200
def Prg.okAt (g : Prg) (i : Nat) : Prop := ((g.at i).getD []).length ≤ if i = 0 then 200 else 24
theorem many_sizes {g : Prg} (h : g.many = none) : g.Sizes := by
  unfold Prg.many at h
  by_cases c0 : g.a.length ≤ 200
  · rw [if_pos c0] at h
    by_cases c1 : (g.l.getD []).length ≤ 24
    · rw [if_pos c1] at h
      by_cases c2 : g.b.length ≤ 24
      · rw [if_pos c2] at h
        by_cases c3 : (g.s.getD []).length ≤ 24
        · rw [if_pos c3] at h
          by_cases c4 : g.h.length ≤ 24
          · rw [if_pos c4] at h
            by_cases c5 : g.a.length + g.b.length + g.h.length ≤ 200
            · exact ⟨c0, c1, c2, c3, c4, c5⟩
            · rw [if_neg c5] at h; cases h
          · rw [if_neg c4] at h; cases h
        · rw [if_neg c3] at h; cases h
      · rw [if_neg c2] at h; cases h
    · rw [if_neg c1] at h; cases h
  · rw [if_neg c0] at h; cases h
theorem sizes_many {g : Prg} (z : g.Sizes) : g.many = none := by
  unfold Prg.many
  rw [if_pos z.a, if_pos z.l, if_pos z.b, if_pos z.s, if_pos z.h, if_pos z.all]
theorem many_at {g : Prg} {i : Nat} (h : ∀ j, j < i → g.okAt j) (i5 : i < 5) (n : ¬ g.okAt i) : g.many = some (if i = 0 then 200 else 24) := by
  have k : ∀ {m : Nat}, m < i → ((g.at m).getD []).length ≤ if m = 0 then 200 else 24 := fun lt => h _ lt
  have n : ¬ ((g.at i).getD []).length ≤ if i = 0 then 200 else 24 := n
  unfold Prg.many
  rcases five i5 with rfl | rfl | rfl | rfl | rfl
  · rw [if_neg (show ¬ g.a.length ≤ 200 from n)]; rfl
  · rw [if_pos (show g.a.length ≤ 200 from k (m := 0) (by decide)), if_neg (show ¬ (g.l.getD []).length ≤ 24 from n)]; rfl
  · rw [if_pos (show g.a.length ≤ 200 from k (m := 0) (by decide)), if_pos (show (g.l.getD []).length ≤ 24 from k (m := 1) (by decide)), if_neg (show ¬ g.b.length ≤ 24 from n)]; rfl
  · rw [if_pos (show g.a.length ≤ 200 from k (m := 0) (by decide)), if_pos (show (g.l.getD []).length ≤ 24 from k (m := 1) (by decide)), if_pos (show g.b.length ≤ 24 from k (m := 2) (by decide)), if_neg (show ¬ (g.s.getD []).length ≤ 24 from n)]; rfl
  · rw [if_pos (show g.a.length ≤ 200 from k (m := 0) (by decide)), if_pos (show (g.l.getD []).length ≤ 24 from k (m := 1) (by decide)), if_pos (show g.b.length ≤ 24 from k (m := 2) (by decide)), if_pos (show (g.s.getD []).length ≤ 24 from k (m := 3) (by decide)), if_neg (show ¬ g.h.length ≤ 24 from n)]; rfl
theorem many_end {g : Prg} (h : ∀ j, j < 5 → g.okAt j) : g.many = if g.a.length + g.b.length + g.h.length ≤ 200 then none else some 200 := by
  have k : ∀ {m : Nat}, m < 5 → ((g.at m).getD []).length ≤ if m = 0 then 200 else 24 := fun lt => h _ lt
  unfold Prg.many
  rw [if_pos (show g.a.length ≤ 200 from k (m := 0) (by decide)), if_pos (show (g.l.getD []).length ≤ 24 from k (m := 1) (by decide)), if_pos (show g.b.length ≤ 24 from k (m := 2) (by decide)), if_pos (show (g.s.getD []).length ≤ 24 from k (m := 3) (by decide)), if_pos (show g.h.length ≤ 24 from k (m := 4) (by decide))]
/-- it goes on, or too many are refused -/
def Or (cM : Addr) (H : Hp) (E : XK) (r : Option Nat) (ok : Prop) : Prop := match r with
  | none => ok
  | some m => ∀ d H', Told H d "most" (.int (m : Nat)) H' → E (.ref cM) (some d) H'
theorem Or.none {cM : Addr} {H : Hp} {E : XK} {ok : Prop} {r : Option Nat} (e : r = Option.none) (h : Or cM H E r ok) : ok := by subst e; exact h
theorem Or.some {cM : Addr} {H : Hp} {E : XK} {ok : Prop} {r : Option Nat} {m : Nat} (e : r = Option.some m) (h : Or cM H E r ok) : ∀ d H', Told H d "most" (.int (m : Nat)) H' → E (.ref cM) (Option.some d) H' := by subst e; exact h
def spCzE (K : PySem.W.Frag) (d : D3) (cM : Addr) : Sp := fun vs H Q E => ∃ (P : Addr) (g : Prg), vs = [.ref P] ∧ PartsD K d H P g ∧ Or cM H E g.many (∀ H', Same H H' → Q .non H')
section
variable {P : Program} {w : World} {K : PySem.W.Frag} {mg : Str → Option Value} {base : Heap}
theorem ok_czE {d : D3} {cM iM : Addr} {f : Addr} {fd : FuncData} (F : Fun K "check_sizes" "check_sizes" sCz f fd) (T : TxtB mg) (TQ : TxtQ mg K) (BM : ErrC P w K mg base "TooMany" "most" cM iM) : FnOk P w K mg base (L2N.CX P w) 3 f fd ["parts"] (spCzE K d cM) := by
  obtain ⟨fdm, Fm, hbm⟩ := BM.ok
  refine NN.okN F scCz (fun vs H Q E h => ?_) (fun cdv A outer s H vs Q E hr h => ?_)
  · obtain ⟨p, g, rfl, _⟩ := h
    rfl
  · obtain ⟨p, g, rfl, hP, q⟩ := h
    have hu := hu_of hr
    obtain ⟨aP, gP, sP⟩ := TQ.parts
    obtain ⟨aL, gL, sL⟩ := TQ.loops
    obtain ⟨t1, e1⟩ := TQ.ma
    obtain ⟨t2, e2⟩ := TQ.mi
    refine ⟨_, (pss_cons (ps_set (i := 1) scCz.nd rfl (Or.inl rfl) pe_int)
      (pss_cons (ps_for (passes_of rfl) rfl (pi_tup (C8.pe_gc (v := .ref aP) rfl ⟨_, gP, rfl⟩)) (pg_name (i := 2) scCz.nd rfl (Or.inl rfl))
        (pss_cons (ps_set (i := 3) scCz.nd rfl (Or.inl rfl) (pe_callB call_len_seq (by rfl) T.blen (by decide +kernel) (pa_cons (pe_orT (pe_dget hu (pv 0) (pv 2) (fun _ _ => rfl)) (pe_one (pe_tup pa_nil))) pa_nil)))
        (pss_cons (ps_set (i := 4) scCz.nd rfl (Or.inl rfl) (pe_ifExp (pt_cmpR op_eq (pv 2) pe_str (nomark _)) (pe_glob (v := .int 200) rfl e1 ⟨_, rfl⟩) (pe_glob (v := .int 24) rfl e2 ⟨_, rfl⟩)))
        (pss_cons (ps_if (pt_cmpR op_gt (pv 3) (pv 4) (nomark _)) (pss_one (L2N.ps_raise rfl (L2N.takes_of rfl rfl rfl rfl) (NN.pmkN BM.O BM.i BM.t Fm (hr.mono (by decide)) hbm pass0 rfl BM.g (pa_cons (pv 4) pa_nil)))) pss_nil)
        (pss_one (ps_if (pt_cmpR op_notIn_seq (pv 2) (C8.pe_gc (v := .ref aL) rfl ⟨_, gL, rfl⟩) rfl) (pss_one (ps_set (i := 1) scCz.nd rfl (Or.inl rfl) (pe_op op_add (pv 1) (pv 3)))) pss_nil))))))
      (pss_one (ps_if (pt_cmpR op_gt (pv 1) (pe_glob (v := .int 200) rfl e1 ⟨_, rfl⟩) (nomark _)) (pss_one (L2N.ps_raise rfl (L2N.takes_of rfl rfl rfl rfl) (NN.pmkN BM.O BM.i BM.t Fm (hr.mono (by decide)) hbm pass0 rfl BM.g (pa_cons (pe_glob (v := .int 200) rfl e1 ⟨_, rfl⟩) pa_nil)))) pss_nil)))), ?_⟩
    refine ⟨aP, rfl, ⟨_, sP _⟩, for_tup (xs := partN.map V.str) (fun i σ H' => Same H H' ∧ (∀ j, j < i → g.okAt j) ∧ ∃ x2 x3 x4, σ = [some (.ref p), some (.int (g.outs i : Nat)), x2, x3, x4]) ⟨Same.refl H, nofun, _, _, _, rfl⟩ (fun i σ H' _ _ => sP H') (fun i x σ H' hx ⟨s1, oks, x2, x3, x4, eσ⟩ => ?_) (fun σ H' ⟨s1, oks, x2, x3, x4, eσ⟩ => ?_)⟩
    · subst eσ
      rw [List.getElem?_map] at hx
      obtain ⟨z, hz, rfl⟩ := Option.map_eq_some_iff.mp hx
      obtain ⟨v, hg, ha⟩ := (hP.same s1).get i hz
      obtain ⟨i5, ez⟩ := partF hz
      refine ⟨_, rfl, _, rfl, p, v, rfl, hg, ha.or fun p2 H2 s2 hd => ?_⟩
      obtain ⟨xs, hx2, hal⟩ := hd
      refine ⟨p2, _, rfl, .inr hx2, ?_⟩
      have lz := hal.1
      have inl : inV (V.str z) (([ "loop", "second" ] : List Str).map V.str) = decide (i = 1 ∨ i = 3) := by
        rcases five i5 with rfl | rfl | rfl | rfl | rfl <;> cases hz <;> decide +kernel
      have ou : (g.outs (i + 1) : Int) = g.outs i + if i = 1 ∨ i = 3 then 0 else (((g.at i).getD []).length : Int) := by
        rcases five i5 with rfl | rfl | rfl | rfl | rfl <;> simp [Prg.outs, Prg.at]
      have up : g.okAt i → ∀ j, j < i + 1 → g.okAt j := fun k j lt => by
        by_cases c : j = i
        · rw [c]; exact k
        · exact oks j (by omega)
      refine ⟨_, rfl, rfl, _, rfl, ?_⟩
      rw [ez]
      refine ite2 (fun h0 => ?_) (fun h0 => ?_)
      · have h0 := of_decide_eq_true h0
        refine ⟨_, rfl, _, rfl, _, _, rfl, rfl, _, rfl, ite2 (fun h => ?_) (fun h => ?_)⟩
        · have h := of_decide_eq_true h
          rw [List.length_map] at h
          have n : ¬ g.okAt i := fun k => by
            unfold Prg.okAt at k
            rw [if_pos h0] at k
            omega
          have m := many_at oks i5 n
          rw [if_pos h0] at m
          exact ⟨_, rfl, mkO_of BM.O BM.v fun dd H3 t => q.some m dd H3 (t.old (s1.trans s2))⟩
        · have h : ¬ ((xs.map V.ref).length : Int) > 200 := fun k => h (decide_eq_true k)
          rw [List.length_map] at h
          have n : g.okAt i := by
            unfold Prg.okAt
            rw [if_pos h0]
            omega
          refine ⟨_, rfl, aL, _, rfl, .inr (sL _), rfl, by decide +kernel, _, rfl, ?_⟩
          rw [if_pos rfl, inl]
          by_cases hL : i = 1 ∨ i = 3
          · rw [decide_eq_true hL]
            rw [if_pos hL, Int.add_zero] at ou
            exact iteF ⟨s1.trans s2, up n, _, _, _, by rw [ou]; rfl⟩
          · rw [decide_eq_false hL]
            rw [if_neg hL] at ou
            rw [← lz, ← List.length_map (f := V.ref)] at ou
            exact iteT ⟨_, rfl, _, rfl, _, _, rfl, rfl, s1.trans s2, up n, _, _, _, by rw [ou]; rfl⟩
      · have h0 : ¬ i = 0 := fun e => h0 (decide_eq_true e)
        refine ⟨_, rfl, _, rfl, _, _, rfl, rfl, _, rfl, ite2 (fun h => ?_) (fun h => ?_)⟩
        · have h := of_decide_eq_true h
          rw [List.length_map] at h
          have n : ¬ g.okAt i := fun k => by
            unfold Prg.okAt at k
            rw [if_neg h0] at k
            omega
          have m := many_at oks i5 n
          rw [if_neg h0] at m
          exact ⟨_, rfl, mkO_of BM.O BM.v fun dd H3 t => q.some m dd H3 (t.old (s1.trans s2))⟩
        · have h : ¬ ((xs.map V.ref).length : Int) > 24 := fun k => h (decide_eq_true k)
          rw [List.length_map] at h
          have n : g.okAt i := by
            unfold Prg.okAt
            rw [if_neg h0]
            omega
          refine ⟨_, rfl, aL, _, rfl, .inr (sL _), rfl, by decide +kernel, _, rfl, ?_⟩
          rw [if_pos rfl, inl]
          by_cases hL : i = 1 ∨ i = 3
          · rw [decide_eq_true hL]
            rw [if_pos hL, Int.add_zero] at ou
            exact iteF ⟨s1.trans s2, up n, _, _, _, by rw [ou]; rfl⟩
          · rw [decide_eq_false hL]
            rw [if_neg hL] at ou
            rw [← lz, ← List.length_map (f := V.ref)] at ou
            exact iteT ⟨_, rfl, _, rfl, _, _, rfl, rfl, s1.trans s2, up n, _, _, _, by rw [ou]; rfl⟩
    · subst eσ
      have oks : ∀ j, j < 5 → g.okAt j := oks
      have me := many_end oks
      have e : g.outs (partN.map V.str).length = g.a.length + g.b.length + g.h.length := rfl
      refine ⟨_, rfl, _, 200, rfl, rfl, _, rfl, ite2 (fun h => ?_) (fun h => ?_)⟩
      · have h := of_decide_eq_true h
        rw [e] at h
        rw [if_neg (by omega)] at me
        exact mkO_of BM.O BM.v fun dd H3 t => q.some me dd H3 (t.old s1)
      · have h : ¬ (g.outs (partN.map V.str).length : Int) > 200 := fun k => h (decide_eq_true k)
        rw [e] at h
        rw [if_pos (by omega)] at me
        exact q.none me _ s1
end
end K07

set_option Elab.async false
set_option linter.all false
set_option maxRecDepth 100000
set_option maxHeartbeats 4000000
/-! Program.__init__, where there may be too many deeds. -/
namespace K07
open PySem L2 NX NU
open PyProof.Rows (sortedS)
/-- all that is asked of what a program is made of, but how much there is in its parts -/
structure Tol.OkS (t : Tol) : Prop where
  shape : t.g.Shape
  us : Tld t.us
  ag : AgOk t.ag
  rs : Tld t.rs
  six : ∃ pool : List Str, (∀ z ∈ t.words, z ∈ pool) ∧ pool.length ≤ 6
  size : t.g.many = none → t.us.length + t.ag.length + t.rs.length + 4 * t.g.acts.length ≤ 1000
  v : t.g.VOk (t.us ++ t.ag.map (·.1)) (t.ag.map (·.1)) t.rs
theorem Tol.Ok.s {t : Tol} (h : t.Ok) : t.OkS := ⟨h.shape, h.us, h.ag, h.rs, h.six, fun _ => h.size, h.v⟩
theorem Tol.OkS.ok {t : Tol} (h : t.OkS) (m : t.g.many = none) : t.Ok := ⟨h.shape, many_sizes m, h.us, h.ag, h.rs, h.six, h.size m, h.v⟩
def spPiE (K : PySem.W.Frag) (d : D3) (cM : Addr) : Sp := fun vs H Q E => ∃ (x C dx : Addr) (v1 v2 v3 v4 v5 vg va vr : V) (t : Tol), vs = [.ref x, v1, v2, v3, v4, v5, vg, va, vr] ∧ H x = some (.ins C dx []) ∧ PCls K C ∧ PArg K d H v1 v2 v3 v4 v5 vg va vr t ∧ t.OkS ∧
  Or cM H E t.g.many (∀ H', (∀ b o, b ≠ x → H b = some o → H' b = some o) → IsP K d H' x C t → Q .non H')
section
variable {P : Program} {w : World} {K : PySem.W.Frag} {mg : Str → Option Value} {base : Heap}
theorem ok_piE {d : D3} {cM : Addr} {dvs : List V} {kws : List (Str × V)} {f : Addr} {fd : FuncData} (F : L2.FunD K "__init__" "Program.__init__" (defArgs sPi) (defBody sPi) (defScope sPi) dvs kws f fd) (T : TxtB mg) (N : TxtP mg) (TA : TxtA mg) (cCp : C8.Cal P w K mg base 1 "check_parts" (spCp K d) []) (cCz : CalL P w K mg base 3 "check_sizes" (spCzE K d cM))
    (cCt : C8.Cal P w K mg base 4 "check_told_names" (spCt K) []) (cAn : C8.Cal P w K mg base 3 "all_names" (spAn K d) []) (cCv : C8.Cal P w K mg base 2 "check_values" (spCv K d) []) : FnOk P w K mg base (L2N.CX P w) 5 f fd pPi (spPiE K d cM) := by
  refine F.ok scPi (fun vs H Q E h => ?_) (fun cdv A outer s H vs Q E hr h => ?_)
  · obtain ⟨x, C, dx, v1, v2, v3, v4, v5, vg, va, vr, t, rfl, _⟩ := h
    rfl
  · obtain ⟨x, C, dx, v1, v2, v3, v4, v5, vg, va, vr, t, rfl, hx, pc, ar, ok, q0⟩ := h
    have hu := hu_of hr
    refine ⟨_, (pss_cons (ps_set (i := 9) scPi.nd rfl (Or.inl rfl) (pe_disp (pps_cons pe_str (pe_callTy call_tuple_of (by rfl) T.btuple (by decide +kernel) (pa_cons (pv 1) pa_nil))
        (pps_cons pe_str (pe_ifExp (pt_cmpR op_isN (pv 2) pe_non (nomark _)) pe_non (pe_callTy call_tuple_of (by rfl) T.btuple (by decide +kernel) (pa_cons (pv 2) pa_nil)))
        (pps_cons pe_str (pe_callTy call_tuple_of (by rfl) T.btuple (by decide +kernel) (pa_cons (pv 3) pa_nil))
        (pps_cons pe_str (pe_ifExp (pt_cmpR op_isN (pv 4) pe_non (nomark _)) pe_non (pe_callTy call_tuple_of (by rfl) T.btuple (by decide +kernel) (pa_cons (pv 4) pa_nil)))
        (pps_cons pe_str (pe_callTy call_tuple_of (by rfl) T.btuple (by decide +kernel) (pa_cons (pv 5) pa_nil)) pps_nil))))) rfl rfl (by intro h; cases h) (by decide)))
      (pss_cons (ps_set (i := 10) scPi.nd rfl (Or.inl rfl) (pe_ifExp (pt_cmpR op_isN (pv 7) pe_non (nomark _)) pe_dnewK (pe_callTy call_dictD (by rfl) N.bdict (by decide +kernel) (pa_cons (pv 7) pa_nil))))
      (pss_cons (ps_expr (C8.pe_c cCp hr (by decide) rfl (pa_cons (pv 9) pa_nil)))
      (pss_cons (ps_expr (pe_cL cCz hr (by decide) rfl (NN.passN (L2N.takes_of rfl rfl rfl rfl)) (pa_cons (pv 9) pa_nil)))
      (pss_cons (ps_expr (C8.pe_c cCt hr (by decide) rfl (pa_cons (pv 6) (pa_cons (pv 10) (pa_cons (pv 8) pa_nil)))))
      (pss_cons (ps_fld (pv 0) (C8.pe_c cAn hr (by decide) rfl (pa_cons (pv 9) (pa_cons (pv 6) (pa_cons (pv 10) (pa_cons (pv 8) pa_nil))))) rfl)
      (pss_cons (ps_expr (C8.pe_c cCv hr (by decide) rfl (pa_cons (pv 9) (pa_cons (pv 6) (pa_cons (pv 10) (pa_cons (pv 8) pa_nil))))))
      (pss_cons (ps_fld (pv 0) (pv 9) rfl)
      (pss_cons (ps_fld (pv 0) (pe_callTy call_tuple_of (by rfl) T.btuple (by decide +kernel) (pa_cons (pe_callBK (NSK.cr_sortedKS rfl) (by rfl) TA.bsorted (by decide +kernel) (pa_cons (pv 6) pa_nil) (pk_cons (pe_bltn (v := .ty "str") (by rfl) T.bstr (by decide +kernel) rfl) pk_nil)) pa_nil)) rfl)
      (pss_cons (ps_fld (pv 0) (pv 10) rfl)
      (pss_one (ps_fld (pv 0) (pe_callTy call_tuple_of (by rfl) T.btuple (by decide +kernel) (pa_cons (pe_callBK (NSK.cr_sortedKS rfl) (by rfl) TA.bsorted (by decide +kernel) (pa_cons (pv 8) pa_nil) (pk_cons (pe_bltn (v := .ty "str") (by rfl) T.bstr (by decide +kernel) rfl) pk_nil)) pa_nil)) rfl)))))))))))), ?_⟩
    intro Pd hPd
    have s0 : Same H (upd H Pd (.dK [])) := Same.new hPd
    dsimp only [tPairs, tC]
    refine tupR (i := 1) rfl (ar.a.same s0) fun p1 H1 s1 a1 => ?_
    have g1 := s1
    have s1 := s0.trans s1
    refine optR (i := 2) rfl (ar.l.same s1) fun w2 H2 s2 a2 => ?_
    have t2 := s1.trans s2
    refine tupR (i := 3) rfl (ar.b.same t2) fun p3 H3 s3 a3 => ?_
    have t3 := t2.trans s3
    refine optR (i := 4) rfl (ar.s.same t3) fun w4 H4 s4 a4 => ?_
    have t4 := t3.trans s4
    refine tupR (i := 5) rfl (ar.h.same t4) fun p5 H5 s5 a5 => ?_
    have t5 := t4.trans s5
    have a4 := a4.same s5
    have a3 := (a3.same s4).same s5
    have a2 := ((a2.same s3).same s4).same s5
    have a1 := (((a1.same s2).same s3).same s4).same s5
    have gP5 : H5 Pd = some (.dK []) := s5 _ _ (s4 _ _ (s3 _ _ (s2 _ _ (g1 _ _ upd_same))))
    refine ⟨gP5, kvsP (.ref p1) w2 (.ref p3) w4 (.ref p5), rfl, by show 5 ≤ 15; decide, ?_⟩
    have hm : mergeK [] (kvsP (.ref p1) w2 (.ref p3) w4 (.ref p5)) = kvsP (.ref p1) w2 (.ref p3) w4 (.ref p5) := rfl
    rw [hm]
    have kd : KD H5 (upd H5 Pd (.dK (kvsP (.ref p1) w2 (.ref p3) w4 (.ref p5)))) := fun b o e n => by
      have ne : b ≠ Pd := fun z => by
        rw [z, gP5] at e
        exact n _ (Option.some.inj e).symm
      rw [upd_ne ne]
      exact e
    have par : PartsD K d (upd H5 Pd (.dK (kvsP (.ref p1) w2 (.ref p3) w4 (.ref p5)))) Pd t.g :=
      ⟨_, _, _, _, _, upd_same, ⟨p1, rfl, a1.kd kd⟩, a2.kd kd, ⟨p3, rfl, a3.kd kd⟩, a4.kd kd, ⟨p5, rfl, a5.kd kd⟩⟩
    have t6 : Same H (upd H5 Pd (.dK (kvsP (.ref p1) w2 (.ref p3) w4 (.ref p5)))) := sameUpd t5 hPd
    clear kd gP5 a1 a2 a3 a4 a5 t5 t4 t3 t2 s1 g1 s0 hm s2 s3 s4 s5 hPd
    generalize (upd H5 Pd (.dK (kvsP (.ref p1) w2 (.ref p3) w4 (.ref p5)))) = H6 at *
    obtain ⟨gv, rfl, hgv⟩ := ar.gv
    obtain ⟨rs, rfl, hrs⟩ := ar.rs
    refine agR (i := 7) (l := t.ag) rfl (ar.ag.imp id fun ⟨p, e, h⟩ => ⟨p, e, t6 _ _ h⟩) fun a ha => ?_
    have t7 := t6.trans (Same.new (o := .dK (agK t.ag)) ha)
    have B7 : PSt K d t x C dx Pd a gv rs H (upd H6 a (.dK (agK t.ag))) [] := ⟨t7 _ _ hx, par.same (Same.new ha), upd_same, hgv.same t7, hrs.same t7, fun b o _ e => t7 _ _ e⟩
    clear par t6 ha
    generalize (upd H6 a (.dK (agK t.ag))) = H7 at *
    refine ⟨_, rfl, Pd, t.g, rfl, B7.par, ok.shape, ?_⟩
    refine ⟨_, rfl, Pd, t.g, rfl, B7.par, ?_⟩
    cases hm : t.g.many with
    | some m => exact fun dd H' tl => q0.some hm dd H' (tl.old t7)
    | none =>
    have q := q0.none hm
    clear q0
    refine fun H8 s8 => ?_
    have B8 := B7.same s8
    refine ⟨_, rfl, _, rfl, _, rfl, gv, a, rs, t.us, t.rs, t.ag, rfl, B8.gv, B8.ag, B8.rs, ok.us, ok.ag, ok.rs, fun H9 s9 => ?_⟩
    have B9 := B8.same s9
    have ok := ok.ok hm
    obtain ⟨pool, hp1, hp2⟩ := ok.six
    refine ⟨_, rfl, _, rfl, _, rfl, _, rfl, Pd, gv, a, rs, t.g, t.us, t.rs, pool, t.ag, rfl, B9.par, B9.gv, B9.ag, B9.rs, hp1, hp2, ok.size, fun ns nt H10 nasc s10 hnt gnt => ?_⟩
    have B10 := B9.same s10
    refine ⟨_, rfl, x, C, dx, _, rfl, B10.hx, pc.cl, pc.n1, by decide, ?_⟩
    have B11 := B10.put (fs2 := [("_names", .ref nt)]) (fun v r e => by cases e)
    have gnt := tupUpd (o := .ins C dx [("_names", .ref nt)]) gnt B10.hx
    clear B7 B8 B9 s8 s9 s10 hnt
    rw [show putF (Str.ofString "_names") (V.ref nt) ([] : List (Str × V)) = ([("_names", .ref nt)] : List (Str × V)) from rfl]
    generalize (upd H10 x (.ins C dx [("_names", .ref nt)])) = H11 at *
    clear B10
    refine ⟨_, rfl, _, rfl, _, rfl, _, rfl, Pd, gv, a, rs, t.g, t.us, t.rs, t.ag, rfl, B11.par, B11.gv, B11.ag, B11.rs, ok.rs.few, by have := ok.size; omega, ok.v, fun H12 s12 => ?_⟩
    have B12 := B11.same s12
    have gnt := s12 _ _ gnt
    refine ⟨_, rfl, _, rfl, x, C, dx, _, rfl, B12.hx, pc.cl, pc.n2, by show 1 < 1000; decide, ?_⟩
    have B13 := B12.put (fs2 := [("_names", .ref nt), ("_parts", .ref Pd)]) (noUses (by decide +kernel))
    have gnt := tupUpd (o := .ins C dx [("_names", .ref nt), ("_parts", .ref Pd)]) gnt B12.hx
    rw [show putF (Str.ofString "_parts") (V.ref Pd) ([("_names", .ref nt)] : List (Str × V)) = ([("_names", .ref nt), ("_parts", .ref Pd)] : List (Str × V)) from rfl]
    generalize (upd H12 x (.ins C dx [("_names", .ref nt), ("_parts", .ref Pd)])) = H13 at *
    clear B12 B11 s12
    refine ⟨_, rfl, gv, t.us, rfl, rfl, B13.gv.imp id .inl, by have := ok.us.few; omega, fun gs p pm srt hp => ?_⟩
    have s14 : Same H13 (upd H13 p (.lst (gs.map V.str))) := Same.new hp
    refine ⟨p, _, rfl, .inl ⟨SqL.of upd_same, fun gt hgt => ?_⟩⟩
    have s15 := s14.trans (Same.new (o := .tup (gs.map V.str)) hgt)
    have B15 := B13.same s15
    have gnt := s15 _ _ gnt
    have ggt : (upd (upd H13 p (.lst (gs.map V.str))) gt (.tup (gs.map V.str))) gt = some (.tup (gs.map V.str)) := upd_same
    clear s14 s15 hgt hp
    generalize (upd (upd H13 p (.lst (gs.map V.str))) gt (.tup (gs.map V.str))) = H15 at *
    refine ⟨_, rfl, x, C, dx, _, rfl, B15.hx, pc.cl, pc.n3, by show 2 < 1000; decide, ?_⟩
    have B16 := B15.put (fs2 := [("_names", .ref nt), ("_parts", .ref Pd), ("_given", .ref gt)]) (noUses (by decide +kernel))
    have gnt := tupUpd (o := .ins C dx [("_names", .ref nt), ("_parts", .ref Pd), ("_given", .ref gt)]) gnt B15.hx
    have ggt := tupUpd (o := .ins C dx [("_names", .ref nt), ("_parts", .ref Pd), ("_given", .ref gt)]) ggt B15.hx
    rw [show putF (Str.ofString "_given") (V.ref gt) ([("_names", .ref nt), ("_parts", .ref Pd)] : List (Str × V)) = ([("_names", .ref nt), ("_parts", .ref Pd), ("_given", .ref gt)] : List (Str × V)) from rfl]
    generalize (upd H15 x (.ins C dx [("_names", .ref nt), ("_parts", .ref Pd), ("_given", .ref gt)])) = H16 at *
    refine ⟨_, rfl, _, rfl, x, C, dx, _, rfl, B16.hx, pc.cl, pc.n4, by show 3 < 1000; decide, ?_⟩
    have B17 := B16.put (fs2 := [("_names", .ref nt), ("_parts", .ref Pd), ("_given", .ref gt), ("_again", .ref a)]) (noUses (by decide +kernel))
    have gnt := tupUpd (o := .ins C dx [("_names", .ref nt), ("_parts", .ref Pd), ("_given", .ref gt), ("_again", .ref a)]) gnt B16.hx
    have ggt := tupUpd (o := .ins C dx [("_names", .ref nt), ("_parts", .ref Pd), ("_given", .ref gt), ("_again", .ref a)]) ggt B16.hx
    rw [show putF (Str.ofString "_again") (V.ref a) ([("_names", .ref nt), ("_parts", .ref Pd), ("_given", .ref gt)] : List (Str × V)) = ([("_names", .ref nt), ("_parts", .ref Pd), ("_given", .ref gt), ("_again", .ref a)] : List (Str × V)) from rfl]
    generalize (upd H16 x (.ins C dx [("_names", .ref nt), ("_parts", .ref Pd), ("_given", .ref gt), ("_again", .ref a)])) = H17 at *
    clear B13 B15 B16
    refine ⟨_, rfl, rs, t.rs, rfl, rfl, B17.rs.imp id .inl, by have := ok.rs.few; omega, fun ws p2 pm2 srt2 hp2 => ?_⟩
    have s18 : Same H17 (upd H17 p2 (.lst (ws.map V.str))) := Same.new hp2
    refine ⟨p2, _, rfl, .inl ⟨SqL.of upd_same, fun rt hrt => ?_⟩⟩
    have s19 := s18.trans (Same.new (o := .tup (ws.map V.str)) hrt)
    have B19 := B17.same s19
    have gnt := s19 _ _ gnt
    have ggt := s19 _ _ ggt
    have grt : (upd (upd H17 p2 (.lst (ws.map V.str))) rt (.tup (ws.map V.str))) rt = some (.tup (ws.map V.str)) := upd_same
    clear s18 s19 hrt hp2
    generalize (upd (upd H17 p2 (.lst (ws.map V.str))) rt (.tup (ws.map V.str))) = H19 at *
    refine ⟨_, rfl, x, C, dx, _, rfl, B19.hx, pc.cl, pc.n5, by show 4 < 1000; decide, ?_⟩
    have B20 := B19.put (fs2 := [("_names", .ref nt), ("_parts", .ref Pd), ("_given", .ref gt), ("_again", .ref a), ("_results", .ref rt)]) (noUses (by decide +kernel))
    have gnt := tupUpd (o := .ins C dx [("_names", .ref nt), ("_parts", .ref Pd), ("_given", .ref gt), ("_again", .ref a), ("_results", .ref rt)]) gnt B19.hx
    have ggt := tupUpd (o := .ins C dx [("_names", .ref nt), ("_parts", .ref Pd), ("_given", .ref gt), ("_again", .ref a), ("_results", .ref rt)]) ggt B19.hx
    have grt := tupUpd (o := .ins C dx [("_names", .ref nt), ("_parts", .ref Pd), ("_given", .ref gt), ("_again", .ref a), ("_results", .ref rt)]) grt B19.hx
    exact q _ B20.bt ⟨dx, nt, Pd, gt, a, rt, ns, gs, ws, B20.hx, gnt, B20.par, ggt, B20.ag, grt, nasc, asc_of pm srt ok.us.nr, asc_of pm2 srt2 ok.rs.nr⟩
end
end K07

set_option Elab.async false
set_option linter.all false
set_option maxRecDepth 100000
set_option maxHeartbeats 4000000
/-! Programs made out of a program: what is asked of them. -/
namespace K07
open PySem L2 NX NU
open PyProof.Rows (sortedS)
def rep (n : Nat) (as : List Act) : List Act := (List.replicate n as).flatten
theorem rep_succ (n : Nat) (as : List Act) : rep (n + 1) as = as ++ rep n as := by
  unfold rep
  rw [List.replicate_succ, List.flatten_cons]
theorem rep_zero (as : List Act) : rep 0 as = [] := rfl
theorem rep_nil : ∀ n : Nat, rep n [] = []
  | 0 => rfl
  | n + 1 => by rw [rep_succ, rep_nil n]; rfl
theorem rep_len (n : Nat) (as : List Act) : (rep n as).length = n * as.length := by
  induction n with
  | zero => rw [rep_zero, Nat.zero_mul]; rfl
  | succ n ih => rw [rep_succ, List.length_append, ih, Nat.succ_mul]; omega
theorem rep_mem {n : Nat} {as : List Act} {a : Act} (h : a ∈ rep n as) : a ∈ as := by
  induction n with
  | zero => cases h
  | succ n ih =>
    rw [rep_succ, List.mem_append] at h
    exact h.elim id ih
theorem rep_add (n m : Nat) (as : List Act) : rep (n + m) as = rep n as ++ rep m as := by
  induction n with
  | zero => rw [Nat.zero_add, rep_zero, List.nil_append]
  | succ n ih => rw [Nat.succ_add, rep_succ, rep_succ, ih, List.append_assoc]
theorem rep_mul (n m : Nat) (as : List Act) : rep n (rep m as) = rep (m * n) as := by
  induction n with
  | zero => rw [Nat.mul_zero]; rfl
  | succ n ih => rw [rep_succ, ih, Nat.mul_succ, Nat.add_comm, rep_add]
/-- a loop begun within: the same deeds -/
theorem rep_turn (x y : List Act) (n : Nat) : x ++ rep n (y ++ x) ++ y = rep (n + 1) (x ++ y) := by
  induction n with
  | zero => rw [rep_zero, List.append_nil, Nat.zero_add, rep_succ, rep_zero, List.append_nil]
  | succ n ih => rw [rep_succ (n + 1) (x ++ y), ← ih, rep_succ]; simp only [List.append_assoc]
theorem aft_app (kn : List Str) (as bs : List Act) : aft kn (as ++ bs) = aft (aft kn as) bs := by
  unfold aft
  rw [List.map_append, List.flatten_append, List.append_assoc]
theorem aft_sub {kn : List Str} {as : List Act} : ∀ z, z ∈ kn → z ∈ aft kn as := fun z h => by
  unfold aft
  exact List.mem_append_left _ h
theorem aft_mono {A B : List Str} (as : List Act) (h : ∀ z, z ∈ A → z ∈ B) : ∀ z, z ∈ aft A as → z ∈ aft B as := fun z hz => by
  unfold aft at hz ⊢
  rw [List.mem_append] at hz ⊢
  exact hz.imp (h z) id
theorem uses_mono {ag : List Str} : ∀ {as : List Act} {kn kn2 : List Str}, (∀ z, z ∈ kn → z ∈ kn2) → UsesOk ag kn as → UsesOk ag kn2 as
  | [], _, _, _, _ => trivial
  | a :: r, kn, kn2, e, h => ⟨fun z hz => e z (h.1 z hz), h.2.1, uses_mono (fun z hz => (List.mem_append.mp hz).elim (fun k => List.mem_append_left _ (e z k)) fun k => List.mem_append_right _ k) h.2.2⟩
theorem uses_app {ag : List Str} : ∀ {as bs : List Act} {kn : List Str}, UsesOk ag kn as → UsesOk ag (aft kn as) bs → UsesOk ag kn (as ++ bs)
  | [], bs, kn, _, h => by rw [aft_nil] at h; exact h
  | a :: r, bs, kn, h1, h2 => ⟨h1.1, h1.2.1, uses_app h1.2.2 (by rw [aft_cons] at h2; exact h2)⟩
theorem uses_left {ag : List Str} : ∀ {as bs : List Act} {kn : List Str}, UsesOk ag kn (as ++ bs) → UsesOk ag kn as ∧ UsesOk ag (aft kn as) bs
  | [], bs, kn, h => ⟨trivial, by rw [aft_nil]; exact h⟩
  | a :: r, bs, kn, h => by
    obtain ⟨h1, h2⟩ := uses_left h.2.2
    exact ⟨⟨h.1, h.2.1, h1⟩, by rw [aft_cons]; exact h2⟩
theorem uses_rep {ag : List Str} (n : Nat) {as : List Act} : ∀ {kn : List Str}, UsesOk ag kn as → UsesOk ag kn (rep n as) := by
  induction n with
  | zero => exact fun _ => trivial
  | succ n ih => exact fun {kn} h => by rw [rep_succ]; exact uses_app h (ih (uses_mono aft_sub h))
theorem last_mono {g : Prg} {A B : List Str} (h : ∀ z, z ∈ A → z ∈ B) : ∀ i z, z ∈ g.lastAt A i → z ∈ g.lastAt B i
  | 0, z, hz => h z hz
  | n + 1, z, hz => by
    have ih := last_mono (g := g) h n
    unfold Prg.lastAt at hz ⊢
    by_cases c : n = 1 ∨ n = 3
    · rw [if_pos c] at hz ⊢
      exact ih z hz
    · rw [if_neg c] at hz ⊢
      exact aft_mono _ ih z hz
theorem vok_mono {g : Prg} {A B ag rs rs2 : List Str} (h : ∀ z, z ∈ A → z ∈ B) (hr : ∀ z, z ∈ rs2 → z ∈ rs) (v : g.VOk A ag rs) : g.VOk B ag rs2 :=
  ⟨fun i i5 => uses_mono (last_mono h i) (v.uses i i5), fun z hz => last_mono h 5 z (v.res z (hr z hz))⟩
theorem actsN_mem {as bs : List Act} (h : ∀ a ∈ as, a ∈ bs) : ∀ z ∈ actsN as, z ∈ actsN bs := fun z hz => by
  unfold actsN at hz ⊢
  rw [List.mem_flatten] at hz ⊢
  obtain ⟨l, hl, hz⟩ := hz
  obtain ⟨a, ha, rfl⟩ := List.mem_map.mp hl
  exact ⟨_, List.mem_map_of_mem (h a ha), hz⟩
theorem acts_eq (g : Prg) : g.acts = g.a ++ g.l.getD [] ++ g.b ++ g.s.getD [] ++ g.h := by
  show (((((([] ++ g.a) ++ g.l.getD []) ++ g.b) ++ g.s.getD []) ++ g.h)) = _
  rw [List.nil_append]
theorem acts_mem {g : Prg} {a : Act} : a ∈ g.acts ↔ a ∈ g.a ∨ a ∈ g.l.getD [] ∨ a ∈ g.b ∨ a ∈ g.s.getD [] ∨ a ∈ g.h := by
  rw [acts_eq]
  simp only [List.mem_append, or_assoc]
theorem acts_len (g : Prg) : g.acts.length = g.a.length + (g.l.getD []).length + g.b.length + (g.s.getD []).length + g.h.length := by
  rw [acts_eq]
  simp only [List.length_append]
theorem nodupLen {ws pool : List Str} (h : ws.Nodup) (k : ∀ z ∈ ws, z ∈ pool) : ws.length ≤ pool.length := by
  rw [← many_of ws h]
  exact many_in ws pool k
/-- another program of the same deeds and names -/
theorem derive {t : Tol} {g' : Prg} {gs rs : List Str} (ok : t.Ok) (ag : Asc gs t.us) (ar : Asc rs t.rs) (sh : g'.Shape) (sub : ∀ a ∈ g'.acts, a ∈ t.g.acts) (len : g'.many = none → g'.acts.length ≤ 224) (v : g'.VOk (t.us ++ t.ag.map (·.1)) (t.ag.map (·.1)) t.rs) : Tol.OkS ⟨g', gs, t.ag, rs⟩ := by
  obtain ⟨pool, hp, h6⟩ := ok.six
  have pu : ∀ z ∈ t.us, z ∈ pool := fun z hz => hp z (by unfold Tol.words; simp [hz])
  have pr : ∀ z ∈ t.rs, z ∈ pool := fun z hz => hp z (by unfold Tol.words; simp [hz])
  have lg : gs.length ≤ 6 := Nat.le_trans (nodupLen ag.2.1 fun z hz => pu z ((ag.2.2 z).mp hz)) h6
  have lr : rs.length ≤ 6 := Nat.le_trans (nodupLen ar.2.1 fun z hz => pr z ((ar.2.2 z).mp hz)) h6
  have la := ok.ag.few
  refine ⟨sh, ⟨fun z hz => ok.us.nm_ z ((ag.2.2 z).mp hz), ag.2.1, by show gs.length < 60; omega⟩, ok.ag, ⟨fun z hz => ok.rs.nm_ z ((ar.2.2 z).mp hz), ar.2.1, by show rs.length < 60; omega⟩, ⟨pool, fun z hz => ?_, h6⟩, fun m => ?_, vok_mono (fun z hz => ?_) (fun z hz => (ar.2.2 z).mp hz) v⟩
  · unfold Tol.words at hz
    dsimp only at hz
    rw [List.mem_append, List.mem_append, List.mem_append] at hz
    refine hp z ?_
    unfold Tol.words
    rw [List.mem_append, List.mem_append, List.mem_append]
    rcases hz with ((k | k) | k) | k
    · exact .inl (.inl (.inl ((ag.2.2 z).mp k)))
    · exact .inl (.inl (.inr k))
    · exact .inl (.inr ((ar.2.2 z).mp k))
    · exact .inr (actsN_mem sub z k)
  · have := len m
    show gs.length + t.ag.length + rs.length + 4 * g'.acts.length ≤ 1000
    omega
  · exact (List.mem_append.mp hz).elim (fun k => List.mem_append_left _ ((ag.2.2 z).mpr k)) fun k => List.mem_append_right _ k
theorem asc_conv {ys a b : List Str} (h : Asc ys a) (e : ∀ z, z ∈ a ↔ z ∈ b) : Asc ys b := ⟨h.1, h.2.1, fun y => (h.2.2 y).trans (e y)⟩
theorem IsP.conv {K : PySem.W.Frag} {d : D3} {H : Hp} {x C : Addr} {t t' : Tol} (h : IsP K d H x C t) (eg : t.g = t'.g) (ea : t.ag = t'.ag) (eu : ∀ z, z ∈ t.us ↔ z ∈ t'.us) (er : ∀ z, z ∈ t.rs ↔ z ∈ t'.rs) : IsP K d H x C t' := by
  obtain ⟨dx, nt, P, gt, ag, rt, ns, gs, rs, a, b, c, e, f, g, h1, h2, h3⟩ := h.ex
  rw [eg] at c
  rw [ea] at f
  refine ⟨dx, nt, P, gt, ag, rt, ns, gs, rs, a, b, c, e, f, g, asc_conv h1 fun z => ?_, asc_conv h2 eu, asc_conv h3 er⟩
  unfold Tol.words
  rw [List.mem_append, List.mem_append, List.mem_append, List.mem_append, List.mem_append, List.mem_append, eu z, er z, eg, ea]
/-! the four -/
def Prg.lp (g : Prg) : List Act := g.l.getD []
def Prg.flat (g : Prg) (n m : Nat) : Prg := ⟨g.a ++ rep n (g.l.getD []) ++ g.b ++ rep m (g.s.getD []) ++ g.h, none, [], none, []⟩
def Prg.pow (g : Prg) (j : Nat) : Prg := ⟨g.a, some (rep j (g.l.getD [])), [], none, g.h⟩
def Prg.unr (g : Prg) (j : Nat) : Prg := ⟨g.a ++ rep j (g.l.getD []), some (g.l.getD []), [], none, g.h⟩
def Prg.tur (g : Prg) (j : Nat) : Prg := ⟨g.a ++ (g.l.getD []).take j, some ((g.l.getD []).drop j ++ (g.l.getD []).take j), [], none, (g.l.getD []).drop j ++ g.h⟩
section
variable {g : Prg} {bs ag rs : List Str}
theorem v0 (v : g.VOk bs ag rs) : UsesOk ag bs g.a := v.uses 0 (by decide)
theorem v1 (v : g.VOk bs ag rs) : UsesOk ag (aft bs g.a) (g.l.getD []) := v.uses 1 (by decide)
theorem v2 (v : g.VOk bs ag rs) : UsesOk ag (aft bs g.a) g.b := v.uses 2 (by decide)
theorem v3 (v : g.VOk bs ag rs) : UsesOk ag (aft (aft bs g.a) g.b) (g.s.getD []) := v.uses 3 (by decide)
theorem v4 (v : g.VOk bs ag rs) : UsesOk ag (aft (aft bs g.a) g.b) g.h := v.uses 4 (by decide)
theorem v5 (v : g.VOk bs ag rs) : ∀ z ∈ rs, z ∈ aft (aft (aft bs g.a) g.b) g.h := v.res
theorem vok_of {g' : Prg} (h0 : UsesOk ag bs g'.a) (h1 : UsesOk ag (aft bs g'.a) (g'.l.getD [])) (eb : g'.b = []) (es : g'.s = none) (h4 : UsesOk ag (aft bs g'.a) g'.h) (h5 : ∀ z ∈ rs, z ∈ aft (aft bs g'.a) g'.h) : g'.VOk bs ag rs := by
  refine ⟨fun i i5 => ?_, fun z hz => ?_⟩
  · rcases five i5 with rfl | rfl | rfl | rfl | rfl
    · exact h0
    · exact h1
    · show UsesOk _ _ g'.b
      rw [eb]; exact trivial
    · show UsesOk _ _ (g'.s.getD [])
      rw [es]; exact trivial
    · show UsesOk _ (aft (aft bs g'.a) g'.b) g'.h
      rw [eb, aft_nil]; exact h4
  · show z ∈ aft (aft (aft bs g'.a) g'.b) g'.h
    rw [eb, aft_nil]; exact h5 z hz
theorem flat_v (v : g.VOk bs ag rs) (n m : Nat) : (g.flat n m).VOk bs ag rs := by
  refine vok_of (g' := g.flat n m) ?_ trivial rfl rfl trivial (fun z hz => ?_)
  · refine uses_app (uses_app (uses_app (uses_app (v0 v) (uses_rep n (v1 v))) ?_) (uses_rep m ?_)) ?_
    · rw [aft_app]; exact uses_mono aft_sub (v2 v)
    · rw [aft_app, aft_app]; exact uses_mono (aft_mono _ aft_sub) (v3 v)
    · rw [aft_app, aft_app, aft_app]; exact uses_mono (fun z hz => aft_sub z (aft_mono _ aft_sub z hz)) (v4 v)
  · show z ∈ aft (aft bs (g.a ++ rep n (g.l.getD []) ++ g.b ++ rep m (g.s.getD []) ++ g.h)) []
    rw [aft_nil, aft_app, aft_app, aft_app, aft_app]
    exact aft_mono _ (fun z hz => aft_sub z (aft_mono _ aft_sub z hz)) z (v5 v z hz)
theorem pow_v (v : g.VOk bs ag rs) (eb : g.b = []) (j : Nat) : (g.pow j).VOk bs ag rs := by
  have h4 := v4 v
  have h5 := v5 v
  rw [eb, aft_nil] at h4 h5
  exact vok_of (g' := g.pow j) (show UsesOk ag bs g.a from v0 v) (show UsesOk ag (aft bs g.a) (rep j (g.l.getD [])) from uses_rep j (v1 v)) rfl rfl h4 h5
theorem unr_v (v : g.VOk bs ag rs) (eb : g.b = []) (j : Nat) : (g.unr j).VOk bs ag rs := by
  have h4 := v4 v
  have h5 := v5 v
  rw [eb, aft_nil] at h4 h5
  refine vok_of (g' := g.unr j) (uses_app (v0 v) (uses_rep j (v1 v))) ?_ rfl rfl ?_ (fun z hz => ?_)
  · show UsesOk ag (aft bs (g.a ++ rep j (g.l.getD []))) (g.l.getD [])
    rw [aft_app]; exact uses_mono aft_sub (v1 v)
  · show UsesOk ag (aft bs (g.a ++ rep j (g.l.getD []))) g.h
    rw [aft_app]; exact uses_mono aft_sub h4
  · show z ∈ aft (aft bs (g.a ++ rep j (g.l.getD []))) g.h
    rw [aft_app]; exact aft_mono _ aft_sub z (h5 z hz)
theorem tur_v (v : g.VOk bs ag rs) (eb : g.b = []) (j : Nat) : (g.tur j).VOk bs ag rs := by
  have h4 := v4 v
  have h5 := v5 v
  rw [eb, aft_nil] at h4 h5
  have h1 := v1 v
  have cut : (g.l.getD []).take j ++ (g.l.getD []).drop j = g.l.getD [] := List.take_append_drop _ _
  have h12 : UsesOk ag (aft bs g.a) ((g.l.getD []).take j ++ (g.l.getD []).drop j) := by rw [cut]; exact h1
  obtain ⟨ht, hd⟩ := uses_left h12
  refine vok_of (g' := g.tur j) (uses_app (v0 v) ht) ?_ rfl rfl ?_ (fun z hz => ?_)
  · show UsesOk ag (aft bs (g.a ++ _)) ((g.l.getD []).drop j ++ (g.l.getD []).take j)
    rw [aft_app]
    exact uses_app hd (uses_mono (fun z hz => aft_sub z (aft_sub z hz)) ht)
  · show UsesOk ag (aft bs (g.a ++ _)) ((g.l.getD []).drop j ++ g.h)
    rw [aft_app]
    exact uses_app hd (uses_mono (fun z hz => aft_sub z (aft_sub z hz)) h4)
  · show z ∈ aft (aft bs (g.a ++ _)) ((g.l.getD []).drop j ++ g.h)
    rw [aft_app, aft_app]
    exact aft_mono _ (fun z hz => aft_sub z (aft_sub z hz)) z (h5 z hz)
theorem flat_in {n m : Nat} : ∀ a ∈ (g.flat n m).acts, a ∈ g.acts := fun a h => by
  rw [acts_mem] at h ⊢
  have h : a ∈ g.a ++ rep n (g.l.getD []) ++ g.b ++ rep m (g.s.getD []) ++ g.h ∨ a ∈ ([] : List Act) ∨ a ∈ ([] : List Act) ∨ a ∈ ([] : List Act) ∨ a ∈ ([] : List Act) := h
  rcases h with h | h | h | h | h
  · rw [List.mem_append, List.mem_append, List.mem_append, List.mem_append] at h
    rcases h with (((h | h) | h) | h) | h
    · exact .inl h
    · exact .inr (.inl (rep_mem h))
    · exact .inr (.inr (.inl h))
    · exact .inr (.inr (.inr (.inl (rep_mem h))))
    · exact .inr (.inr (.inr (.inr h)))
  all_goals cases h
theorem pow_in {j : Nat} : ∀ a ∈ (g.pow j).acts, a ∈ g.acts := fun a h => by
  rw [acts_mem] at h ⊢
  have h : a ∈ g.a ∨ a ∈ rep j (g.l.getD []) ∨ a ∈ ([] : List Act) ∨ a ∈ ([] : List Act) ∨ a ∈ g.h := h
  rcases h with h | h | h | h | h
  · exact .inl h
  · exact .inr (.inl (rep_mem h))
  · cases h
  · cases h
  · exact .inr (.inr (.inr (.inr h)))
theorem unr_in {j : Nat} : ∀ a ∈ (g.unr j).acts, a ∈ g.acts := fun a h => by
  rw [acts_mem] at h ⊢
  have h : a ∈ g.a ++ rep j (g.l.getD []) ∨ a ∈ g.l.getD [] ∨ a ∈ ([] : List Act) ∨ a ∈ ([] : List Act) ∨ a ∈ g.h := h
  rcases h with h | h | h | h | h
  · rw [List.mem_append] at h
    exact h.elim .inl fun h => .inr (.inl (rep_mem h))
  · exact .inr (.inl h)
  · cases h
  · cases h
  · exact .inr (.inr (.inr (.inr h)))
theorem tur_in {j : Nat} : ∀ a ∈ (g.tur j).acts, a ∈ g.acts := fun a h => by
  rw [acts_mem] at h ⊢
  have h : a ∈ g.a ++ (g.l.getD []).take j ∨ a ∈ (g.l.getD []).drop j ++ (g.l.getD []).take j ∨ a ∈ ([] : List Act) ∨ a ∈ ([] : List Act) ∨ a ∈ (g.l.getD []).drop j ++ g.h := h
  rcases h with h | h | h | h | h
  · rw [List.mem_append] at h
    exact h.elim .inl fun h => .inr (.inl (List.mem_of_mem_take h))
  · rw [List.mem_append] at h
    exact .inr (.inl (h.elim List.mem_of_mem_drop List.mem_of_mem_take))
  · cases h
  · cases h
  · rw [List.mem_append] at h
    exact h.elim (fun h => .inr (.inl (List.mem_of_mem_drop h))) fun h => .inr (.inr (.inr (.inr h)))
/-- none too many: 224 deeds at most -/
theorem few_of {g' : Prg} (eb : g'.b = []) (es : g'.s = none) (m : g'.many = none) : g'.acts.length ≤ 224 := by
  have z := many_sizes m
  have a := z.all
  have l := z.l
  rw [acts_len, es, eb]
  rw [eb] at a
  show _ + _ + 0 + 0 + _ ≤ 224
  have a : g'.a.length + 0 + g'.h.length ≤ 200 := a
  omega
end
end K07

set_option Elab.async false
set_option linter.all false
set_option maxRecDepth 100000
set_option maxHeartbeats 4000000
/-! is_count of any value; check_one_loop, repeated. -/
namespace K07
open PySem L2 NX NU
open PyProof.Rows (sortedS)
abbrev sCol : Stmt := top 67
abbrev sRep : Stmt := top 68
theorem scCol : FnScope ["program"] ["program"] (defScope sCol) := ⟨rfl, rfl, rfl, by decide +kernel, rfl, by decide +kernel, by decide +kernel⟩
theorem scRep : FnScope ["deeds", "rounds", "most"] ["deeds", "rounds", "most"] (defScope sRep) := ⟨rfl, rfl, rfl, by decide +kernel, rfl, by decide +kernel, by decide +kernel⟩
/-- the error classes -/
structure C6 where
  b : Addr
  m : Addr
  n : Addr
  t : Addr
/-- what is refused: a value that is no number, too many deeds, no loop, two loops -/
inductive F6
  | num (v : V)
  | many (m : Nat)
  | none
  | two
def Ends6 (c : C6) (H : Hp) (E : XK) (ok : Prop) : Option F6 → Prop
  | .none => ok
  | .some (.num v) => ∀ d H', Told H d "value" v H' → E (.ref c.b) (some d) H'
  | .some (.many m) => ∀ d H', Told H d "most" (.int (m : Nat)) H' → E (.ref c.m) (some d) H'
  | .some .none => ∀ H', Same H H' → E (.ref c.n) Option.none H'
  | .some .two => ∀ H', Same H H' → E (.ref c.t) Option.none H'
theorem Ends6.ok {c : C6} {H : Hp} {E : XK} {ok : Prop} {r : Option F6} (e : r = .none) (h : Ends6 c H E ok r) : ok := by subst e; exact h
theorem Ends6.num {c : C6} {H : Hp} {E : XK} {ok : Prop} {r : Option F6} {v : V} (e : r = .some (.num v)) (h : Ends6 c H E ok r) : ∀ d H', Told H d "value" v H' → E (.ref c.b) (some d) H' := by subst e; exact h
theorem Ends6.many {c : C6} {H : Hp} {E : XK} {ok : Prop} {r : Option F6} {m : Nat} (e : r = .some (.many m)) (h : Ends6 c H E ok r) : ∀ d H', Told H d "most" (.int (m : Nat)) H' → E (.ref c.m) (some d) H' := by subst e; exact h
theorem Ends6.no {c : C6} {H : Hp} {E : XK} {ok : Prop} {r : Option F6} (e : r = .some .none) (h : Ends6 c H E ok r) : ∀ H', Same H H' → E (.ref c.n) Option.none H' := by subst e; exact h
theorem Ends6.two {c : C6} {H : Hp} {E : XK} {ok : Prop} {r : Option F6} (e : r = .some .two) (h : Ends6 c H E ok r) : ∀ H', Same H H' → E (.ref c.t) Option.none H' := by subst e; exact h
/-- an error class without an __init__ -/
structure ErrC0 (K : PySem.W.Frag) (mg : Str → Option Value) (x : Str) (C : Addr) : Prop where
  g : mg x = some (.ref C)
  q : PySem.W.excIn K C [.type "ValueError", .type "Exception", .type "BaseException", .type "object"] "ValueError.__new__" = true
  kp : PySem.W.keepIn K (.ref C) = true
  r1 : PySem.W.subIn K (.ref C) (.type "BaseException") = some true
  r2 : PySem.W.typeIn K (.ref C) = some (.type "type")
theorem raise0 {X : Cx} {H : Hp} {C : Addr} {x : Str} (B : ErrC0 X.K X.mg x C) (s : Same X.H_0 H) {Q : XK} (k : ∀ H', Same H H' → Q (.ref C) none H') :
    NX.tMkV0 C [] H fun v H1 => ∃ a cls, v = .ref a ∧ H1 a = some (ExO cls a) ∧ Fr0 X.H_0 a ∧ Raises X cls ∧ Q cls none (delH H1 a) := fun a ha => by
  refine ⟨a, .ref C, rfl, upd_same, fun o e => ?_, raises_own B.r1 B.r2, k _ fun b o e => ?_⟩
  · rw [s a o e] at ha
    cases ha
  · have n : b ≠ a := fun z => by rw [z, ha] at e; cases e
    rw [delH_ne n, upd_ne n]
    exact e
/-- a value whose type is no kind of int -/
def NoInt (K : PySem.W.Frag) (H : Hp) (x : V) : Prop := ∃ t, TyX K H x t ∧ PySem.W.kitOne K t (.type "int") = some false
theorem NoInt.same {K : PySem.W.Frag} {H H' : Hp} {x : V} (s : Same H H') (h : NoInt K H x) : NoInt K H' x := let ⟨t, a, b⟩ := h; ⟨t, NI.tyX_ext (LamX.ExtN.of s) a, b⟩
/-- which number from 0 a value is, if any -/
inductive Cn (K : PySem.W.Frag) (H : Hp) (v : V) : Option Nat → Prop
  | yes (n : Nat) : v = .int (n : Int) → Cn K H v (some n)
  | neg (n : Int) : v = .int n → n < 0 → Cn K H v none
  | bl (b : Bool) : v = .bl b → Cn K H v none
  | odd : NoInt K H v → Cn K H v none
theorem Cn.same {K : PySem.W.Frag} {H H' : Hp} {v : V} {r : Option Nat} (s : Same H H') (h : Cn K H v r) : Cn K H' v r := by
  cases h with
  | yes n e => exact .yes n e
  | neg n e l => exact .neg n e l
  | bl b e => exact .bl b e
  | odd h => exact .odd (h.same s)
def spNumA (K : PySem.W.Frag) : Sp := fun vs H Q _ => ∃ v, vs = [v] ∧ ((∃ n : Int, v = .int n ∧ Q (.bl true) H) ∨ (((∃ b, v = .bl b) ∨ NoInt K H v) ∧ Q (.bl false) H))
def spCntA (K : PySem.W.Frag) : Sp := fun vs H Q _ => ∃ v r, vs = [v] ∧ Cn K H v r ∧ Q (.bl r.isSome) H
/-- check_one_loop -/
def oneF (g : Prg) : Option F6 := if g.l.isNone then some .none else if g.s.isSome then some .two else none
def spCol (K : PySem.W.Frag) (d : D3) (C : Addr) (c : C6) : Sp := fun vs H Q E => ∃ (x : Addr) (t : Tol), vs = [.ref x] ∧ IsP K d H x C t ∧ Ends6 c H E (Q .non H) (oneF t.g)
/-- repeated: so many rounds of some deeds -/
def spRep (K : PySem.W.Frag) (d : D3) (c : C6) : Sp := fun vs H Q E => ∃ (p : Addr) (n most : Nat) (as : List Act), vs = [.ref p, .int (n : Int), .int (most : Int)] ∧ Deeds K d H p as ∧ as.length ≤ 1000 ∧ most ≤ 1000 ∧
  Ends6 c H E (∀ q H', Same H H' → Deeds K d H' q (rep n as) → Q (.ref q) H') (if n * as.length ≤ most then none else some (.many most))
theorem AllAt.app {d : D3} {H : Hp} {xs ys : List Addr} {as bs : List Act} (h : AllAt d H xs as) (k : AllAt d H ys bs) : AllAt d H (xs ++ ys) (as ++ bs) := by
  refine ⟨by rw [List.length_append, List.length_append, h.1, k.1], fun i x a e1 e2 => ?_⟩
  by_cases c : i < xs.length
  · rw [List.getElem?_append_left c] at e1
    rw [List.getElem?_append_left (by rw [← h.1]; exact c)] at e2
    exact h.2 i x a e1 e2
  · rw [List.getElem?_append_right (by omega)] at e1
    rw [List.getElem?_append_right (by rw [← h.1]; omega), ← h.1] at e2
    exact k.2 _ x a e1 e2
theorem AllAt.rep {d : D3} {H : Hp} {xs : List Addr} {as : List Act} (h : AllAt d H xs as) : ∀ n, AllAt d H (List.replicate n xs).flatten (rep n as)
  | 0 => ⟨rfl, fun i x a e => by cases e⟩
  | n + 1 => by
    rw [List.replicate_succ, List.flatten_cons, rep_succ]
    exact h.app (h.rep n)
theorem AllAt.take {d : D3} {H : Hp} {xs : List Addr} {as : List Act} (h : AllAt d H xs as) (j : Nat) : AllAt d H (xs.take j) (as.take j) := by
  refine ⟨by rw [List.length_take, List.length_take, h.1], fun i x a e1 e2 => ?_⟩
  by_cases c : i < j
  · rw [List.getElem?_take_of_lt c] at e1 e2
    exact h.2 i x a e1 e2
  · rw [List.getElem?_eq_none (by rw [List.length_take]; omega)] at e1
    cases e1
theorem AllAt.drop {d : D3} {H : Hp} {xs : List Addr} {as : List Act} (h : AllAt d H xs as) (j : Nat) : AllAt d H (xs.drop j) (as.drop j) := by
  refine ⟨by rw [List.length_drop, List.length_drop, h.1], fun i x a e1 e2 => ?_⟩
  rw [List.getElem?_drop] at e1 e2
  exact h.2 _ x a e1 e2
/-- a program's properties -/
structure PGet6 (P : Program) (w : World) (K : PySem.W.Frag) (mg : Str → Option Value) (base : Heap) (d : D3) (C : Addr) : Prop where
  cl : PCls K C
  a : Gt P w K mg base C "ahead" (spPt K d C 0)
  l : Gt P w K mg base C "loop" (spPt K d C 1)
  b : Gt P w K mg base C "between" (spPt K d C 2)
  s : Gt P w K mg base C "second" (spPt K d C 3)
  h : Gt P w K mg base C "behind" (spPt K d C 4)
  gv : Gt P w K mg base C "given" (spTg K d C fun t => t.us)
  ag : Gt P w K mg base C "again" (spAgn K d C)
  rs : Gt P w K mg base C "results" (spTg K d C fun t => t.rs)
  ns : Gt P w K mg base C "names" (spTg K d C Tol.words)
  lp : Gt P w K mg base C "loops" (spLps K d C)
theorem IsP.inst {K : PySem.W.Frag} {d : D3} {H : Hp} {x C : Addr} {t : Tol} (ip : IsP K d H x C t) : ∃ dx fs, H x = some (.ins C dx fs) := by
  obtain ⟨dx, nt, Pd, gt, ag, rt, ns, gs, rs, a, _⟩ := ip.ex
  exact ⟨dx, _, a⟩
section
variable {P : Program} {w : World} {K : PySem.W.Frag} {mg : Str → Option Value} {base : Heap}
theorem ok_numA {f : Addr} {fd : FuncData} (F : Fun K "is_number" "is_number" sNum f fd) (T : TxtB mg) (N : TxtP mg) : FnOk P w K mg base CX0 1 f fd ["value"] (spNumA K) := by
  refine F.ok scNum (fun vs H Q E h => ?_) (fun cdv A outer s H vs Q E hr h => ?_)
  · obtain ⟨v, rfl, _⟩ := h
    rfl
  · obtain ⟨v, rfl, h⟩ := h
    refine ⟨_, pss_one (ps_ret (pe_and (pe_callB call_isi (by rfl) T.bisinstance (by decide +kernel) (pa_cons (pv 0) (pa_cons (pe_bltn (v := .ty "int") (by rfl) T.bint (by decide +kernel) rfl) pa_nil)))
      (pe_one (pe_not (pe_callB call_isi (by rfl) T.bisinstance (by decide +kernel) (pa_cons (pv 0) (pa_cons (pe_bltn (v := .ty "bool") (by rfl) N.bbool (by decide +kernel) rfl) pa_nil))))))), ?_⟩
    rcases h with ⟨n, rfl, q⟩ | ⟨⟨b, rfl⟩ | ⟨t, ty, kt⟩, q⟩
    · refine ⟨_, rfl, _, _, _, _, true, rfl, .ty "int", .base (.int _), kit_ty (by decide +kernel), true, rfl, ?_⟩
      exact iteT ⟨_, rfl, _, _, _, _, false, rfl, .ty "bool", .base (.int _), kit_ty (by decide +kernel), false, rfl, q⟩
    · refine ⟨_, rfl, _, _, _, _, true, rfl, .ty "int", .base (.bl _), kit_ty (by decide +kernel), true, rfl, ?_⟩
      exact iteT ⟨_, rfl, _, _, _, _, true, rfl, .ty "bool", .base (.bl _), kit_ty (by decide +kernel), true, rfl, q⟩
    · exact ⟨_, rfl, _, _, _, _, false, rfl, .ty "int", ty, kt, false, rfl, iteF q⟩
theorem ok_cntA {f : Addr} {fd : FuncData} (F : Fun K "is_count" "is_count" sCnt f fd) (cNum : C8.Cal P w K mg base 1 "is_number" (spNumA K) []) : FnOk P w K mg base CX0 2 f fd ["value"] (spCntA K) := by
  refine F.ok scCnt (fun vs H Q E h => ?_) (fun cdv A outer s H vs Q E hr h => ?_)
  · obtain ⟨v, r, rfl, _⟩ := h
    rfl
  · obtain ⟨v, r, rfl, hc, q⟩ := h
    refine ⟨_, pss_one (ps_ret (pe_and (C8.pe_c cNum hr (by decide) rfl (pa_cons (pv 0) pa_nil)) (pe_one (pe_cmpR op_ge (pv 0) pe_int (nomark _))))), ?_⟩
    cases hc with
    | yes n e =>
      subst e
      refine ⟨_, rfl, _, rfl, .inl ⟨n, rfl, true, rfl, iteT ⟨_, rfl, n, 0, rfl, rfl, ?_⟩⟩⟩
      show Q (.bl (decide (0 ≤ (n : Int)))) H
      rw [decide_eq_true (by omega)]
      exact q
    | neg n e l =>
      subst e
      refine ⟨_, rfl, _, rfl, .inl ⟨n, rfl, true, rfl, iteT ⟨_, rfl, n, 0, rfl, rfl, ?_⟩⟩⟩
      show Q (.bl (decide (0 ≤ n))) H
      rw [decide_eq_false (by omega)]
      exact q
    | bl b e =>
      subst e
      exact ⟨_, rfl, _, rfl, .inr ⟨.inl ⟨b, rfl⟩, false, rfl, iteF q⟩⟩
    | odd h => exact ⟨_, rfl, _, rfl, .inr ⟨.inr h, false, rfl, iteF q⟩⟩
theorem ok_col {d : D3} {C : Addr} {c : C6} {f : Addr} {fd : FuncData} (F : Fun K "check_one_loop" "check_one_loop" sCol f fd) (G : PGet6 P w K mg base d C) (B0 : ErrC0 K mg "NoLoop" c.n) (B1 : ErrC0 K mg "TwoLoops" c.t) : FnOk P w K mg base (L2N.CX P w) 3 f fd ["program"] (spCol K d C c) := by
  refine NN.okN F scCol (fun vs H Q E h => ?_) (fun cdv A outer s H vs Q E hr h => ?_)
  · obtain ⟨x, t, rfl, _⟩ := h
    rfl
  · obtain ⟨x, t, rfl, ip, k⟩ := h
    obtain ⟨pL, gL, fdL, qL, FL, bL⟩ := G.l.ex
    obtain ⟨pS, gS, fdS, qS, FS, bS⟩ := G.s.ex
    refine ⟨_, (pss_cons (ps_if (pt_cmpR op_isN (NX.pe_propG (pv 0) FL (hr.mono (by decide)) bL pass0 rfl) pe_non (nomark _)) (pss_one (L2N.ps_raise rfl (L2N.takes_of rfl rfl rfl rfl) (pmk_retN rfl (NX.pe_oexV0 PySem.F.excBase_ValueError B0.q B0.g B0.kp rfl)))) pss_nil)
      (pss_one (ps_if (pt_cmpR op_notN (NX.pe_propG (pv 0) FS (hr.mono (by decide)) bS pass0 rfl) pe_non (nomark _)) (pss_one (L2N.ps_raise rfl (L2N.takes_of rfl rfl rfl rfl) (pmk_retN rfl (NX.pe_oexV0 PySem.F.excBase_ValueError B1.q B1.g B1.kp rfl)))) pss_nil))), ?_⟩
    obtain ⟨dx, fs, ix⟩ := ip.inst
    refine ⟨_, rfl, x, C, dx, fs, pL, rfl, ix, G.cl.cl, qL, x, t, rfl, ip, fun v1 a1 => ?_⟩
    refine ⟨rfl, _, rfl, ?_⟩
    rw [a1.isNon]
    have e1 : t.g.at 1 = t.g.l := rfl
    rw [e1]
    unfold oneF at k
    cases hl : t.g.l with
    | none =>
      rw [hl] at k
      exact iteT (raise0 B0 (Same.refl H) k)
    | some as =>
      rw [hl] at k
      refine iteF ⟨_, rfl, x, C, dx, fs, pS, rfl, ix, G.cl.cl, qS, x, t, rfl, ip, fun v3 a3 => ?_⟩
      refine ⟨rfl, _, rfl, ?_⟩
      have iN : (!decide (v3 = V.non)) = t.g.s.isSome := by
        rw [a3.isNon]
        show (!(t.g.s.isNone)) = _
        cases t.g.s <;> rfl
      rw [iN]
      cases hs : t.g.s with
      | none =>
        rw [hs] at k
        exact iteF k
      | some bs =>
        rw [hs] at k
        exact iteT (raise0 B1 (Same.refl H) k)
theorem ok_rep {d : D3} {c : C6} {iM : Addr} {f : Addr} {fd : FuncData} (F : Fun K "repeated" "repeated" sRep f fd) (T : TxtB mg) (BM : ErrC P w K mg base "TooMany" "most" c.m iM) : FnOk P w K mg base (L2N.CX P w) 3 f fd ["deeds", "rounds", "most"] (spRep K d c) := by
  obtain ⟨fdm, Fm, hbm⟩ := BM.ok
  refine NN.okN F scRep (fun vs H Q E h => ?_) (fun cdv A outer s H vs Q E hr h => ?_)
  · obtain ⟨p, n, most, as, rfl, _⟩ := h
    rfl
  · obtain ⟨p, n, most, as, rfl, hD, lz, mz, k⟩ := h
    refine ⟨_, (pss_cons (ps_if (pt_not (pt_truth (pv 0) (fun _ => rfl))) (pss_one (ps_ret (pe_tup pa_nil))) pss_nil)
      (pss_cons (ps_if (pt_cmpR op_gt (pe_op op_mul (pv 1) (pe_callB call_len_seq (by rfl) T.blen (by decide +kernel) (pa_cons (pv 0) pa_nil))) (pv 2) (nomark _)) (pss_one (L2N.ps_raise rfl (L2N.takes_of rfl rfl rfl rfl) (NN.pmkN BM.O BM.i BM.t Fm (hr.mono (by decide)) hbm pass0 rfl BM.g (pa_cons (pv 2) pa_nil)))) pss_nil)
      (pss_one (ps_ret (pe_op NZ.op_repA (pv 0) (pv 1)))))), ?_⟩
    obtain ⟨xs, hx, al⟩ := id hD
    refine ⟨_, rfl, _, hD.tru, ?_⟩
    cases as with
    | nil =>
      rw [if_pos (show n * ([] : List Act).length ≤ most from Nat.zero_le _)] at k
      refine iteT ⟨by show 0 ≤ sizeLine; exact Nat.zero_le _, fun q hq => ?_⟩
      exact k.ok rfl q _ (Same.new hq) ⟨[], SqT.of upd_same, by rw [rep_nil]; rfl, fun i x a e => by cases e⟩
    | cons a0 r0 =>
      obtain ⟨as, has⟩ : ∃ as, as = a0 :: r0 := ⟨_, rfl⟩
      have a1 : 1 ≤ as.length := by rw [has]; exact Nat.succ_le_succ (Nat.zero_le _)
      rw [← has] at k lz al
      refine iteF ⟨_, rfl, _, rfl, p, _, rfl, .inr hx, ?_⟩
      have lx : (xs.map V.ref).length = as.length := by rw [List.length_map]; exact al.1
      rw [lx]
      refine ⟨_, _, rfl, rfl, .inr ⟨by omega, by omega⟩, _, rfl, _, _, rfl, rfl, _, rfl, ?_⟩
      by_cases big : n * as.length ≤ most
      · rw [if_pos big] at k
        have e : decide ((n : Int) * (as.length : Int) > (most : Int)) = false := decide_eq_false (by
          have : ((n * as.length : Nat) : Int) ≤ most := by exact_mod_cast big
          rw [Int.natCast_mul] at this
          omega)
        rw [e]
        have nl : n ≤ 1000 := by
          have : n * 1 ≤ n * as.length := Nat.mul_le_mul_left n a1
          omega
        refine iteF ⟨_, rfl, _, rfl, p, _, xs.map V.ref, rfl, rfl, hx, fun z => ?_, by omega, by omega, by rw [lx]; exact lz, fun e1 => ?_, fun e1 q hq => ?_⟩
        · have : as.length = 0 := by rw [← lx, z]; rfl
          omega
        · have : n = 1 := by omega
          subst this
          have e2 : rep 1 as = as := by rw [rep_succ, rep_zero, List.append_nil]
          rw [e2] at k
          rw [← has] at hD
          exact k.ok rfl p H (Same.refl H) hD
        · have sm : Same H (upd H q (.tup (List.replicate ((n : Int)).toNat (xs.map V.ref)).flatten)) := Same.new hq
          refine k.ok rfl q _ sm ⟨(List.replicate n xs).flatten, ?_, ?_⟩
          · refine SqT.of ?_
            rw [upd_same, Int.toNat_natCast, List.map_flatten, List.map_replicate]
          · exact (al.same sm).rep n
      · rw [if_neg big] at k
        have e : decide ((n : Int) * (as.length : Int) > (most : Int)) = true := decide_eq_true (by
          have : ((n * as.length : Nat) : Int) > most := by exact_mod_cast Nat.lt_of_not_le big
          rw [Int.natCast_mul] at this
          omega)
        rw [e]
        exact iteT ⟨_, rfl, mkO_of BM.O BM.v fun dd H3 t => k.many rfl dd H3 t⟩
end
end K07

set_option Elab.async false
set_option linter.all false
set_option maxRecDepth 100000
set_option maxHeartbeats 4000000
/-! with_parts, and how Program(..) is called by a program's methods. -/
namespace K07
open PySem L2 NX NU
open PyProof.Rows (sortedS)
abbrev sWp : Stmt := top 69
theorem scWp : FnScope ["program", "ahead", "loop", "behind"] ["program", "ahead", "loop", "behind"] (defScope sWp) := ⟨rfl, rfl, rfl, by decide +kernel, rfl, by decide +kernel, by decide +kernel⟩
section
variable {K : PySem.W.Frag} {f : Addr} {fd : FuncData} {t0 t1 t2 t3 t4 : Addr}
theorem kb3 (F : L2.FunD K "__init__" "Program.__init__" (defArgs sPi) (defBody sPi) (defScope sPi) (dvsP t0 t1 t2) (kwsP t3 t4) f fd) : ∃ its mv : List Value, KBn K fd pPi 2 ["given", "again", "results"] (fun us ws => us ++ its.drop 1 ++ ws) (fun vs zs => vs ++ (dvsP t0 t1 t2).drop 1 ++ zs) :=
  F.kbinds (ps := pPi) 2 ["given", "again", "results"] [] (fun us its mv ws => us ++ its.drop 1 ++ ws) (by intro h; cases h) (by intro h; cases h) nofun (fun r1 r2 _ r4 => (r1.append (r2.drop 1)).append r4) (fun T D doc pm an cdv ct us its mv ws l1 l2 l3 l4 => by
    match us, its, mv, ws, l1, l2, l3, l4 with
    | [_, _], [_, _, _, _, _], [], [_, _, _], _, _, _, _ => exact ⟨_, rfl, rfl⟩)
theorem kb4 (F : L2.FunD K "__init__" "Program.__init__" (defArgs sPi) (defBody sPi) (defScope sPi) (dvsP t0 t1 t2) (kwsP t3 t4) f fd) : ∃ its mv : List Value, KBn K fd pPi 3 ["behind", "given", "again", "results"] (fun us ws => us ++ (its.drop 2).take 2 ++ ws) (fun vs zs => vs ++ ((dvsP t0 t1 t2).drop 2).take 2 ++ zs) :=
  F.kbinds (ps := pPi) 3 ["behind", "given", "again", "results"] [] (fun us its mv ws => us ++ (its.drop 2).take 2 ++ ws) (by intro h; cases h) (by intro h; cases h) nofun (fun r1 r2 _ r4 => (r1.append ((r2.drop 2).take 2)).append r4) (fun T D doc pm an cdv ct us its mv ws l1 l2 l3 l4 => by
    match us, its, mv, ws, l1, l2, l3, l4 with
    | [_, _, _], [_, _, _, _, _], [], [_, _, _, _], _, _, _, _ => exact ⟨_, rfl, rfl⟩)
end
/-- Program(..) is made, where there may be too many deeds -/
structure PME (P : Program) (w : World) (K : PySem.W.Frag) (mg : Str → Option Value) (base : Heap) (d : D3) (c : C6) (C f : Addr) (fd : FuncData) (t0 t1 t2 t3 t4 : Addr) : Prop where
  mak : Mk K C f
  fn : FnOk P w K mg base (L2N.CX P w) 5 f fd pPi (spPiE K d c.m)
  g : mg "Program" = some (.ref C)
  fd_ : L2.FunD K "__init__" "Program.__init__" (defArgs sPi) (defBody sPi) (defScope sPi) (dvsP t0 t1 t2) (kwsP t3 t4) f fd
  cls : PCls K C
  e1 : ∀ H, SqT K H t1 []
  e2 : ∀ H, SqT K H t2 []
/-- a program of the names of t, with other parts -/
def Tol.with_ (t : Tol) (g : Prg) : Tol := ⟨g, t.us, t.ag, t.rs⟩
theorem inA0 {K : PySem.W.Frag} {d : D3} {H : Hp} {a : Addr} (h : SqT K H a []) : InA K d H (.ref a) [] := ⟨a, [], rfl, .inr h, rfl, fun i x a e => by cases e⟩
theorem InO.of {K : PySem.W.Frag} {d : D3} {H : Hp} {v : V} {as : List Act} (h : InA K d H v as) : InO K d H v (some as) := h
theorem PartA.inA {K : PySem.W.Frag} {d : D3} {H : Hp} {v : V} {as : List Act} (h : PartA K d H v (some as)) : InA K d H v as := by
  obtain ⟨p, rfl, xs, e, a⟩ := h
  exact ⟨p, xs, rfl, .inr e, a⟩
theorem Deeds.inA {K : PySem.W.Frag} {d : D3} {H : Hp} {p : Addr} {as : List Act} (h : Deeds K d H p as) : InA K d H (.ref p) as := by
  obtain ⟨xs, e, a⟩ := h
  exact ⟨p, xs, rfl, .inr e, a⟩
/-- the made program, told by the names as they stand in tuples -/
theorem makeP {K : PySem.W.Frag} {d : D3} {c : C6} {C : Addr} {H0 H : Hp} {v1 v2 v3 v4 v5 : V} {gt ag rt y dy : Addr} {gs rs : List Str} {t : Tol} {g' : Prg} {Q : VK} {E : XK} (pc : PCls K C) (s0 : Same H0 H) (h1 : H y = none) (h2 : H dy = none) (h3 : dy ≠ y)
    (a1 : InA K d H v1 g'.a) (a2 : InO K d H v2 g'.l) (a3 : InA K d H v3 g'.b) (a4 : InO K d H v4 g'.s) (a5 : InA K d H v5 g'.h) (eg : H gt = some (.tup (gs.map V.str))) (ea : AgD H ag t.ag) (er : H rt = some (.tup (rs.map V.str)))
    (asg : Asc gs t.us) (asr : Asc rs t.rs) (ok : t.Ok) (sh : g'.Shape) (sub : ∀ a ∈ g'.acts, a ∈ t.g.acts) (len : g'.many = none → g'.acts.length ≤ 224) (v : g'.VOk (t.us ++ t.ag.map (·.1)) (t.ag.map (·.1)) t.rs)
    (k : Ends6 c H0 E (∀ y H', Same H0 H' → IsP K d H' y C (t.with_ g') → Q (.ref y) H') (g'.many.map F6.many)) :
    spPiE K d c.m [.ref y, v1, v2, v3, v4, v5, .ref gt, .ref ag, .ref rt] (upd (upd H dy (.own y)) y (.ins C dy [])) (fun v H3 => v = .non ∧ Q (.ref y) H3) E := by
  have sm := made2 (C := C) h1 h2 h3
  have oks := derive ok asg asr sh sub len v
  refine ⟨y, C, dy, v1, v2, v3, v4, v5, .ref gt, .ref ag, .ref rt, ⟨g', gs, t.ag, rs⟩, rfl, upd_same, pc, ⟨a1.same sm, a2.same sm, a3.same sm, a4.same sm, a5.same sm, ⟨gt, rfl, .inr (SqT.of (sm _ _ eg))⟩, .inr ⟨ag, rfl, sm _ _ ea⟩, ⟨rt, rfl, .inr (SqT.of (sm _ _ er))⟩⟩, oks, ?_⟩
  cases hm : g'.many with
  | none =>
    rw [hm] at k
    refine fun H' bt ip => ⟨rfl, k.ok rfl y H' (fun b o e => ?_) (ip.conv rfl rfl asg.2.2 asr.2.2)⟩
    have e1 := s0 b o e
    exact bt b o (fun z => by rw [z, h1] at e1; cases e1) (sm _ _ e1)
  | some m =>
    rw [hm] at k
    exact fun dd H' tl => k.many rfl dd H' (tl.old (s0.trans sm))
def spWp (K : PySem.W.Frag) (d : D3) (C : Addr) (c : C6) : Sp := fun vs H Q E => ∃ (x : Addr) (t : Tol) (va vl vh : V) (a' ls h' : List Act), vs = [.ref x, va, vl, vh] ∧ IsP K d H x C t ∧ t.Ok ∧ InA K d H va a' ∧ InA K d H vl ls ∧ InA K d H vh h' ∧
  (∀ a ∈ (⟨a', some ls, [], none, h'⟩ : Prg).acts, a ∈ t.g.acts) ∧ (⟨a', some ls, [], none, h'⟩ : Prg).VOk (t.us ++ t.ag.map (·.1)) (t.ag.map (·.1)) t.rs ∧
  Ends6 c H E (∀ y H', Same H H' → IsP K d H' y C (t.with_ ⟨a', some ls, [], none, h'⟩) → Q (.ref y) H') ((⟨a', some ls, [], none, h'⟩ : Prg).many.map F6.many)
section
variable {P : Program} {w : World} {K : PySem.W.Frag} {mg : Str → Option Value} {base : Heap}
theorem ok_wp {d : D3} {C fP : Addr} {c : C6} {fdP : FuncData} {t0 t1 t2 t3 t4 : Addr} {f : Addr} {fd : FuncData} (F : Fun K "with_parts" "with_parts" sWp f fd) (G : PGet6 P w K mg base d C) (M : PME P w K mg base d c C fP fdP t0 t1 t2 t3 t4) : FnOk P w K mg base (L2N.CX P w) 7 f fd ["program", "ahead", "loop", "behind"] (spWp K d C c) := by
  refine NN.okN F scWp (fun vs H Q E h => ?_) (fun cdv A outer s H vs Q E hr h => ?_)
  · obtain ⟨x, t, va, vl, vh, a', ls, h', rfl, _⟩ := h
    rfl
  · obtain ⟨x, t, va, vl, vh, a', ls, h', rfl, ip, ok, ia, il, ih, sub, v, k⟩ := h
    obtain ⟨pG, gG, fdG, qG, FG, bG⟩ := G.gv.ex
    obtain ⟨pA, gA, fdA, qA, FA, bA⟩ := G.ag.ex
    obtain ⟨pR, gR, fdR, qR, FR, bR⟩ := G.rs.ex
    obtain ⟨its, mv, kb⟩ := kb4 M.fd_
    refine ⟨_, pss_one (ps_ret (pe_makeK (E := E) (ks := ["behind", "given", "again", "results"]) M.mak M.fn (hr.mono (by decide)) rfl M.g kb (NN.passN (L2N.takes_of rfl rfl rfl rfl)) (pa_cons (pv 1) (pa_cons (pv 2) pa_nil)) (pk_cons (pv 3) (pk_cons (NX.pe_propG (pv 0) FG (hr.mono (by decide)) bG pass0 rfl) (pk_cons (NX.pe_propG (pv 0) FA (hr.mono (by decide)) bA pass0 rfl) (pk_cons (NX.pe_propG (pv 0) FR (hr.mono (by decide)) bR pass0 rfl) pk_nil)))))), ?_⟩
    obtain ⟨dx, fs, ix⟩ := ip.inst
    refine ⟨_, rfl, _, rfl, _, rfl, ?_⟩
    refine ⟨_, rfl, x, C, dx, fs, pG, rfl, ix, G.cl.cl, qG, x, t, rfl, ip, fun gt gs eg asg => ?_⟩
    refine ⟨_, rfl, x, C, dx, fs, pA, rfl, ix, G.cl.cl, qA, x, t, rfl, ip, fun ag hag => ?_⟩
    have s1 : Same H (upd H ag (.dK (agK t.ag))) := Same.new hag
    have ea : AgD (upd H ag (.dK (agK t.ag))) ag t.ag := upd_same
    have eg := s1 _ _ eg
    have ip := ip.same s1
    have ia := ia.same s1
    have il := il.same s1
    have ih := ih.same s1
    have ix := s1 _ _ ix
    generalize (upd H ag (.dK (agK t.ag))) = H1 at *
    refine ⟨_, rfl, x, C, dx, fs, pR, rfl, ix, G.cl.cl, qR, x, t, rfl, ip, fun rt rs er asr => ?_⟩
    refine ⟨rfl, rfl, fun y dy h1 h2 h3 => ?_⟩
    exact makeP (g' := ⟨a', some ls, [], none, h'⟩) (t := t) M.cls s1 h1 h2 h3 ia il (inA0 (M.e1 _)) rfl ih eg ea er asg asr ok ⟨(fun e => by cases e), fun _ => rfl⟩ sub (few_of rfl rfl) v k
end
end K07

set_option Elab.async false
set_option linter.all false
set_option maxRecDepth 100000
set_option maxHeartbeats 4000000
/-! straight. -/
namespace K07
open PySem L2 NX NU
open PyProof.Rows (sortedS)
abbrev sSt : Stmt := inClass (top 66) 16
abbrev NSt : List Str := ["self", "n", "m", "rounds", "deeds"]
theorem scSt : FnScope NSt ["self", "n", "m"] (defScope sSt) := ⟨rfl, rfl, rfl, by decide +kernel, rfl, by decide +kernel, by decide +kernel⟩
theorem flat_len (g : Prg) (n m : Nat) : (g.flat n m).a.length = g.a.length + n * (g.l.getD []).length + g.b.length + m * (g.s.getD []).length + g.h.length := by
  show (g.a ++ rep n (g.l.getD []) ++ g.b ++ rep m (g.s.getD []) ++ g.h).length = _
  simp only [List.length_append, rep_len]
theorem flat_many (g : Prg) (n m : Nat) : (g.flat n m).many = if (g.flat n m).a.length ≤ 200 then none else some 200 := by
  unfold Prg.many
  by_cases c : (g.flat n m).a.length ≤ 200
  · rw [if_pos c, if_pos c]
    have e : (g.flat n m).a.length + (g.flat n m).b.length + (g.flat n m).h.length ≤ 200 := c
    rw [if_pos e]
    rfl
  · rw [if_neg c, if_neg c]
def spSt (K : PySem.W.Frag) (d : D3) (C : Addr) (c : C6) : Sp := fun vs H Q E => ∃ (x : Addr) (t : Tol) (n m : Nat), vs = [.ref x, .int (n : Int), .int (m : Int)] ∧ IsP K d H x C t ∧ t.Ok ∧ (0 < n → t.g.l.isSome = true) ∧ (0 < m → t.g.s.isSome = true) ∧
  Ends6 c H E (∀ y H', Same H H' → IsP K d H' y C (t.with_ (t.g.flat n m)) → Q (.ref y) H') ((t.g.flat n m).many.map F6.many)
/-- no rounds, or the loop is there -/
theorem noLack {K : PySem.W.Frag} {d : D3} {H : Hp} {x C p g : Addr} {t : Tol} {i j q : Nat} {nm_ : Str} {σ : L2.St} {R : Bool → Hp → Prop} (pc : PCls K C) (ip : IsP K d H x C t) (pr : PropOf K C nm_ p g) (hi : σ[i]? = some (some (.int (q : Int)))) (h0 : σ[0]? = some (some (.ref x))) (hq : 0 < q → (t.g.at j).isSome = true) (k : R false H) :
    tAnd (tTest (tOp (rI0 fun i j => V.bl (decide (j < i))) (tVar i) (tC (V.int 0)))) (tTest (tOp (fun x y H Q => y = V.non ∧ Q (V.bl (decide (x = V.non))) H) (NX.tPropG K nm_ g (spPt K d C j) C8.E0 (tVar 0)) (tC V.non))) σ H R := by
  refine ⟨_, hi, _, 0, rfl, rfl, _, rfl, ?_⟩
  by_cases c : 0 < q
  · rw [decide_eq_true (show (0 : Int) < (q : Int) by omega)]
    obtain ⟨dx, fs, ix⟩ := ip.inst
    refine iteT ⟨_, h0, x, C, dx, fs, p, rfl, ix, pc.cl, pr, x, t, rfl, ip, fun v a => ⟨rfl, _, rfl, ?_⟩⟩
    rw [a.isNon]
    have := hq c
    cases e : t.g.at j with
    | none => rw [e] at this; cases this
    | some as => exact k
  · rw [decide_eq_false (show ¬ (0 : Int) < (q : Int) by omega)]
    exact iteF k
section
variable {P : Program} {w : World} {K : PySem.W.Frag} {mg : Str → Option Value} {base : Heap}
theorem ok_st {d : D3} {C fP : Addr} {c : C6} {fdP : FuncData} {t0 t1 t2 t3 t4 : Addr} {dvs : List V} {f : Addr} {fd : FuncData} (F : L2.FunD K "straight" "Program.straight" (defArgs sSt) (defBody sSt) (defScope sSt) dvs [] f fd) (G : PGet6 P w K mg base d C) (M : PME P w K mg base d c C fP fdP t0 t1 t2 t3 t4) (TQ : TxtQ mg K)
    (cCnt : C8.Cal P w K mg base 2 "is_count" (spCntA K) []) (cRep : CalL P w K mg base 3 "repeated" (spRep K d c)) : FnOk P w K mg base (L2N.CX P w) 7 f fd ["self", "n", "m"] (spSt K d C c) := by
  refine F.ok scSt (fun vs H Q E h => ?_) (fun cdv A outer s H vs Q E hr h => ?_)
  · obtain ⟨x, t, n, m, rfl, _⟩ := h
    rfl
  · obtain ⟨x, t, n, m, rfl, ip, ok, hn, hm, k⟩ := h
    obtain ⟨pA, gA, fdA, qA, FA, bA⟩ := G.a.ex
    obtain ⟨pL, gL, fdL, qL, FL, bL⟩ := G.l.ex
    obtain ⟨pB, gB, fdB, qB, FB, bB⟩ := G.b.ex
    obtain ⟨pS, gS, fdS, qS, FS, bS⟩ := G.s.ex
    obtain ⟨pH, gH, fdH, qH, FH, bH⟩ := G.h.ex
    obtain ⟨its, mv, kb⟩ := kb3 M.fd_
    obtain ⟨tk1, e1⟩ := TQ.ma
    refine ⟨_, (pss_cons (ps_for (passes_of rfl) rfl (pi_tup (pe_tup (pa_cons (pv 1) (pa_cons (pv 2) pa_nil)))) (pg_name (i := 3) scSt.nd rfl (Or.inl rfl)) (pss_one (ps_if (pt_not (pt_val (C8.pe_c cCnt hr (by decide) rfl (pa_cons (pv 3) pa_nil)))) pss_never pss_nil)))
      (pss_cons (ps_if (PW.pt (pw_or (PW.pt (pw_and (pt_cmpR op_gt (pv 1) pe_int (nomark _)) (pw_and1 (pt_cmpR op_isN (NX.pe_propG (pv 0) FL (hr.mono (by decide)) bL pass0 rfl) pe_non (nomark _))))) (pw_or1 (PW.pt (pw_and (pt_cmpR op_gt (pv 2) pe_int (nomark _)) (pw_and1 (pt_cmpR op_isN (NX.pe_propG (pv 0) FS (hr.mono (by decide)) bS pass0 rfl) pe_non (nomark _)))))))) pss_never pss_nil)
      (pss_cons (ps_set (i := 4) scSt.nd rfl (Or.inl rfl) (pe_lst (StX.pa_star (NX.pe_propG (pv 0) FA (hr.mono (by decide)) bA pass0 rfl)
        (StX.pa_star (pe_cL cRep hr (by decide) rfl (NN.passN (L2N.takes_of rfl rfl rfl rfl)) (pa_cons (pe_orT (NX.pe_propG (pv 0) FL (hr.mono (by decide)) bL pass0 rfl) (pe_one (pe_tup pa_nil))) (pa_cons (pv 1) (pa_cons (pe_glob (v := .int 200) rfl e1 ⟨_, rfl⟩) pa_nil))))
        (StX.pa_star (NX.pe_propG (pv 0) FB (hr.mono (by decide)) bB pass0 rfl)
        (StX.pa_star (pe_cL cRep hr (by decide) rfl (NN.passN (L2N.takes_of rfl rfl rfl rfl)) (pa_cons (pe_orT (NX.pe_propG (pv 0) FS (hr.mono (by decide)) bS pass0 rfl) (pe_one (pe_tup pa_nil))) (pa_cons (pv 2) (pa_cons (pe_glob (v := .int 200) rfl e1 ⟨_, rfl⟩) pa_nil))))
        (StX.pa_star (NX.pe_propG (pv 0) FH (hr.mono (by decide)) bH pass0 rfl) pa_nil)))))))
      (pss_one (ps_ret (pe_makeK (E := E) (ks := ["given", "again", "results"]) M.mak M.fn (hr.mono (by decide)) rfl M.g kb (NN.passN (L2N.takes_of rfl rfl rfl rfl)) (pa_cons (pv 4) pa_nil) (pk_cons (pe_fld (pv 0) rfl) (pk_cons (pe_fld (pv 0) rfl) (pk_cons (pe_fld (pv 0) rfl) pk_nil))))))))), ?_⟩
    refine ⟨_, rfl, _, rfl, by show 2 ≤ sizeLine; decide, fun tp htp => ?_⟩
    have s1 : Same H (upd H tp (.tup [.int (n : Int), .int (m : Int)])) := Same.new htp
    have gtp : (upd H tp (.tup [.int (n : Int), .int (m : Int)])) tp = some (.tup [.int (n : Int), .int (m : Int)]) := upd_same
    generalize (upd H tp (.tup [.int (n : Int), .int (m : Int)])) = H1 at *
    refine ⟨tp, rfl, ⟨_, SqT.of gtp⟩, for_tup (xs := [.int (n : Int), .int (m : Int)]) (fun i σ H' => Same H1 H' ∧ ∃ x3, σ = [some (.ref x), some (.int (n : Int)), some (.int (m : Int)), x3, none]) ⟨Same.refl H1, _, rfl⟩ (fun i σ H' _ z => SqT.of (z.1 _ _ gtp)) (fun i y σ H' hy ⟨s2, x3, eσ⟩ => ?_) (fun σ H' ⟨s2, x3, eσ⟩ => ?_)⟩
    · subst eσ
      obtain ⟨q, rfl⟩ : ∃ q : Nat, y = .int (q : Int) := by
        match i, hy with
        | 0, hy => cases hy; exact ⟨n, rfl⟩
        | 1, hy => cases hy; exact ⟨m, rfl⟩
        | i + 2, hy => cases hy
      exact ⟨_, rfl, _, some q, rfl, .yes q rfl, true, rfl, iteF ⟨s2, _, rfl⟩⟩
    · subst eσ
      have s3 := s1.trans s2
      have ip3 := ip.same s3
      refine noLack (q := n) (j := 1) G.cl ip3 qL rfl rfl hn (iteF ?_)
      refine noLack (q := m) (j := 3) G.cl ip3 qS rfl rfl hm (iteF ?_)
      obtain ⟨dx, nt, Pd, gt, ag, rt, ns, gs, rs, ea, eb, ec, ee, ef, eg, h1, h2, h3⟩ := id ip3.ex
      have z := ok.sizes
      have fl := flat_len t.g n m
      have fm := flat_many t.g n m
      have big : ¬ (t.g.flat n m).a.length ≤ 200 → ((t.g.flat n m).many.map F6.many) = some (.many 200) := fun h => by rw [fm, if_neg h]; rfl
      have la := z.a
      have ll := z.l
      have lb := z.b
      have ls := z.s
      have lh := z.h
      refine ⟨_, rfl, x, C, dx, _, pA, rfl, ea, G.cl.cl, qA, x, t, rfl, ip3, fun v0 a0 => ?_⟩
      obtain ⟨p0, rfl, xs0, e0, al0⟩ := a0
      refine ⟨p0, _, rfl, .inl e0, ?_⟩
      refine ⟨_, rfl, x, C, dx, _, pL, rfl, ea, G.cl.cl, qL, x, t, rfl, ip3, fun v1 a1 => a1.or fun p1 H4 s4 d1 => ?_⟩
      have l1 : ((t.g.at 1).getD []).length ≤ 24 := ll
      refine ⟨_, rfl, p1, n, 200, _, rfl, d1, by omega, by decide, ?_⟩
      by_cases c1 : n * (t.g.l.getD []).length ≤ 200
      case neg =>
        rw [if_neg (show ¬ n * ((t.g.at 1).getD []).length ≤ 200 from c1)]
        exact fun dd H' tl => k.many (big (by omega)) dd H' (tl.old (s3.trans s4))
      rw [if_pos (show n * ((t.g.at 1).getD []).length ≤ 200 from c1)]
      intro q1 H5 s5 d1'
      obtain ⟨xs1, e1', al1⟩ := d1'
      have s35 := s4.trans s5
      refine ⟨q1, _, rfl, .inl e1', ?_⟩
      have ea5 := s35 _ _ ea
      have ip5 := ip3.same s35
      refine ⟨_, rfl, x, C, dx, _, pB, rfl, ea5, G.cl.cl, qB, x, t, rfl, ip5, fun v2 a2 => ?_⟩
      obtain ⟨p2, rfl, xs2, e2, al2⟩ := a2
      refine ⟨p2, _, rfl, .inl e2, ?_⟩
      refine ⟨_, rfl, x, C, dx, _, pS, rfl, ea5, G.cl.cl, qS, x, t, rfl, ip5, fun v3 a3 => a3.or fun p3 H6 s6 d3 => ?_⟩
      have l3 : ((t.g.at 3).getD []).length ≤ 24 := ls
      refine ⟨_, rfl, p3, m, 200, _, rfl, d3, by omega, by decide, ?_⟩
      by_cases c3 : m * (t.g.s.getD []).length ≤ 200
      case neg =>
        rw [if_neg (show ¬ m * ((t.g.at 3).getD []).length ≤ 200 from c3)]
        exact fun dd H' tl => k.many (big (by omega)) dd H' (tl.old (s3.trans (s35.trans s6)))
      rw [if_pos (show m * ((t.g.at 3).getD []).length ≤ 200 from c3)]
      intro q3 H7 s7 d3'
      obtain ⟨xs3, e3', al3⟩ := d3'
      have s57 := s6.trans s7
      have s37 := s35.trans s57
      refine ⟨q3, _, rfl, .inl e3', ?_⟩
      have ea7 := s37 _ _ ea
      have ip7 := ip3.same s37
      refine ⟨_, rfl, x, C, dx, _, pH, rfl, ea7, G.cl.cl, qH, x, t, rfl, ip7, fun v4 a4 => ?_⟩
      obtain ⟨p4, rfl, xs4, e4, al4⟩ := a4
      refine ⟨p4, _, rfl, .inl e4, ?_⟩
      have al0 := al0.same s37
      have al1 := al1.same s57
      have al2 := al2.same s57
      have AL := (((al0.app al1).app al2).app al3).app al4
      have n0 := al0.1
      have n1 := al1.1
      have n2 := al2.1
      have n3 := al3.1
      have n4 := al4.1
      rw [rep_len] at n1 n3
      have n0 : xs0.length = t.g.a.length := n0
      have n1 : xs1.length = n * (t.g.l.getD []).length := n1
      have n2 : xs2.length = t.g.b.length := n2
      have n3 : xs3.length = m * (t.g.s.getD []).length := n3
      have n4 : xs4.length = t.g.h.length := n4
      have low : (1000 : Nat) ≤ sizeLine := by decide
      have ex : List.map V.ref xs0 ++ (List.map V.ref xs1 ++ (List.map V.ref xs2 ++ (List.map V.ref xs3 ++ (List.map V.ref xs4 ++ [])))) = (xs0 ++ xs1 ++ xs2 ++ xs3 ++ xs4).map V.ref := by
        simp only [List.map_append, List.append_nil, List.append_assoc]
      dsimp only [tNil]
      rw [ex]
      refine ⟨by rw [List.length_map]; simp only [List.length_append]; omega, fun L hL => ?_⟩
      have s8 := s3.trans (s37.trans (Same.new (o := .lst ((xs0 ++ xs1 ++ xs2 ++ xs3 ++ xs4).map V.ref)) hL))
      have sm : Same H7 (upd H7 L (.lst ((xs0 ++ xs1 ++ xs2 ++ xs3 ++ xs4).map V.ref))) := Same.new hL
      have gL : (upd H7 L (.lst ((xs0 ++ xs1 ++ xs2 ++ xs3 ++ xs4).map V.ref))) L = _ := upd_same
      have AL := AL.same sm
      have ea8 := sm _ _ ea7
      have s38 := s37.trans sm
      generalize (upd H7 L (.lst ((xs0 ++ xs1 ++ xs2 ++ xs3 ++ xs4).map V.ref))) = H8 at *
      refine ⟨_, rfl, ?_⟩
      refine ⟨_, rfl, x, C, dx, _, _, rfl, ea8, G.cl.cl, G.cl.n3, rfl, _, rfl, x, C, dx, _, _, rfl, ea8, G.cl.cl, G.cl.n4, rfl, _, rfl, x, C, dx, _, _, rfl, ea8, G.cl.cl, G.cl.n5, rfl, ?_⟩
      refine ⟨rfl, rfl, fun y dy y1 y2 y3 => ?_⟩
      exact makeP (g' := t.g.flat n m) (t := t) M.cls s8 y1 y2 y3 ⟨L, _, rfl, .inl (SqL.of gL), AL⟩ rfl (inA0 (M.e1 _)) rfl (inA0 (M.e2 _)) (s38 _ _ ee) (s38 _ _ ef) (s38 _ _ eg) h2 h3 ok ⟨fun _ => ⟨rfl, rfl, rfl⟩, fun _ => rfl⟩ flat_in (few_of rfl rfl) (flat_v ok.v n m) k
end
end K07

set_option Elab.async false
set_option linter.all false
set_option maxRecDepth 100000
set_option maxHeartbeats 4000000
/-! Rules of my own: != of two lists, of two tuples, whose items are equal by own equalities. -/
namespace NZ
open PySem PySem.SeqAt
open AutoSeq1 (wpAny_loadPart')
open MeetsSeq MeetsSeq2 MeetsSeq3 SeqRoads2
section
variable {prog : Program} {w : World} {A : Around} {R : Result → Shared → Prop}
theorem walk_ne (l b : Addr) (N : Nat) (J : Nat → Shared → Prop) (look : GQ.ListI prog w A (fun e s' => R (.error e) s') l b N J) (fin : ∀ s, J N s → R (.ok (.ret (.bool false))) s) : ∀ (left i : Nat), N - i = left → i ≤ N → ∀ s, J i s →
    wpAny (model prog w) A.in1 (Builtin.«list.__eq__.loop» ⟨[.ref l, .ref b, rawInt i, rawInt 3], []⟩) (GQ.FinOf prog w A R) (fun e s' => R (.error e) s') s := by
  intro left
  induction left with
  | zero =>
    intro i el ile s hJ
    obtain ⟨xs, ys, p, q, gl, gb, zx, zy, _⟩ := look _ _ hJ
    have done : R (.ok (.ret (.bool false))) s := fin s (by rw [show N = i by omega]; exact hJ)
    obtain ⟨hp, g, d, tk, os⟩ := s
    wp_walk using wpAny_loadPart' gl, wpAny_loadPart' gb
    rw [show xs[((i : Nat) : Int).toNat]? = none by simp; omega, show ys[((i : Nat) : Int).toNat]? = none by simp; omega]
    wp_walk using wpAny_loadPart' gl, wpAny_loadPart' gb
    show R (.ok (.ret (.bool (xs.size != ys.size)))) _
    rw [zx, zy]
    simpa using done
  | succ left ih =>
    intro i el ile s hJ
    obtain ⟨xs, ys, p, q, gl, gb, zx, zy, turn⟩ := look _ _ hJ
    have ix : i < xs.size := by omega
    have iy : i < ys.size := by omega
    have one := turn ix iy
    obtain ⟨hp, g, d, tk, os⟩ := s
    wp_walk using wpAny_loadPart' gl, wpAny_loadPart' gb
    rw [show xs[((i : Nat) : Int).toNat]? = some xs[i] by simp [ix], show ys[((i : Nat) : Int).toNat]? = some ys[i] by simp [iy]]
    refine wpAny_bind (wpAny_mono one (fun r s2 h2 => ?_) fun _ _ x => x)
    obtain ⟨er, h2⟩ := h2
    subst er
    have more := ih (i + 1) (by omega) (by omega) s2 h2
    obtain ⟨hp2, g2, d2, tk2, os2⟩ := s2
    wp_walk
    rw [show ((i : Int) + 1) = ((i + 1 : Nat) : Int) by omega]
    refine ⟨plainId_quiet plain_eq_loop _, codeAny_builtin entry_eq_loop ?_⟩
    rw [Around.under_plainId plain_eq_loop _]
    exact more
theorem lists_ne (l b : Addr) (N : Nat) (J : Nat → Shared → Prop) (look : GQ.ListI prog w A (fun e s' => R (.error e) s') l b N J) (fin : ∀ s, J N s → R (.ok (.ret (.bool false))) s) {s : Shared} (hJ : J 0 s) :
    wpAny (model prog w) A.in1 (Builtin.«list.__ne__» ⟨[.ref l, .ref b], []⟩) (GQ.FinOf prog w A R) (fun e s' => R (.error e) s') s := by
  obtain ⟨xs, ys, p, q, gl, gb, zx, zy, _⟩ := look _ _ hJ
  have more := walk_ne (A := A) (R := R) l b N J look fin _ 0 rfl (Nat.zero_le _) s hJ
  obtain ⟨hp, g, d, tk, os⟩ := s
  have f3 := AutoSeq1.sub_list_list
  have same : ¬ (xs.size != ys.size) = true := by simp [zx, zy]
  wp_walk using wpAny_loadPart' gl, wpAny_loadPart' gb
  refine ⟨plainId_quiet plain_eq_loop _, codeAny_builtin entry_eq_loop ?_⟩
  rw [Around.under_plainId plain_eq_loop _]
  exact more
theorem tuples_ne (l b : Addr) (xs ys : Array Value) (p q : Nat) (dd dd2 : Option Addr) (sl sl2 : Array (Option Value)) (zz : xs.size = ys.size) (J : Nat → Shared → Prop)
    (turn : ∀ i (h1 : i < xs.size) (h2 : i < ys.size) s, J i s → wpAny (model prog w) A.in1 (eqBool xs[i] ys[i]) (fun r s' => r = true ∧ J (i + 1) s') (fun e s' => R (.error e) s') s)
    (fin : ∀ s, J xs.size s → R (.ok (.ret (.bool false))) s) {s : Shared} (gl : s.heap.get? l = some { cls := .type "tuple", dict := dd, data := .seq xs p, slots := sl }) (gb : s.heap.get? b = some { cls := .type "tuple", dict := dd2, data := .seq ys q, slots := sl2 }) (hJ : J 0 s) :
    wpAny (model prog w) A.in1 (Builtin.«tuple.__ne__» ⟨[.ref l, .ref b], []⟩) (GQ.FinOf prog w A R) (fun e s' => R (.error e) s') s := by
  have f2 := AutoSeq1.sub_tuple_tuple
  have lz : (xs.toList.zip ys.toList).length = xs.size := by simp [zz]
  have first := hJ
  obtain ⟨hp, g, d, tk, os⟩ := s
  wp_walk using wpAny_loadPart' gl, wpAny_loadPart' gb, wpAny_forIn_list _ (fun rest b s' => b.1 = none ∧ ∃ i, rest = (xs.toList.zip ys.toList).drop i ∧ i ≤ xs.size ∧ J i s') _
  case turn =>
    rintro ⟨y, x⟩ rest b s' ⟨_, i, ez, ile, hI⟩
    have lt : i < (xs.toList.zip ys.toList).length := by
      by_cases c : i < (xs.toList.zip ys.toList).length
      · exact c
      · rw [List.drop_of_length_le (by omega)] at ez
        cases ez
    have i1 : i < xs.size := by omega
    have i2 : i < ys.size := by omega
    rw [List.drop_eq_getElem_cons lt] at ez
    obtain ⟨e1, e2⟩ := List.cons.inj ez
    obtain rfl : y = xs[i] := by have := congrArg Prod.fst e1; simpa using this
    obtain rfl : x = ys[i] := by have := congrArg Prod.snd e1; simpa using this
    refine wpAny_bind (wpAny_mono (turn i i1 i2 s' hI) (fun r s2 q2 => ?_) fun _ _ x => x)
    obtain ⟨er, q2⟩ := q2
    subst er
    wp_walk
    exact ⟨rfl, i + 1, e2, i1, q2⟩
  case fin =>
    rintro ⟨b1, b2⟩ s' ⟨eb, i, ez, ile, hI⟩
    simp only at eb
    subst eb
    have full : i = xs.size := by
      by_cases c : i < (xs.toList.zip ys.toList).length
      · rw [List.drop_eq_getElem_cons c] at ez
        cases ez
      · omega
    have done : R (.ok (.ret (.bool false))) s' := fin s' (full ▸ hI)
    wp_walk
    simpa [Builtin.Tuple.tupleCompareSizes, zz] using done
  case h => exact ⟨rfl, 0, rfl, Nat.zero_le _, first⟩
end
section
variable {prog : Program} {w : World} {A : Around} {E : Value → Shared → Prop} {s : Shared}
theorem rn_list {l b : Addr} {N : Nat} {Q : Value → Shared → Prop} (hu : A.units < cLine) (J : Nat → Shared → Prop) (look : GQ.ListI prog w A E l b N J) (fin : ∀ s, J N s → Q (.bool false) s) (hJ : J 0 s) : wpAny (model prog w) A (richCompare .NotEq (.ref l) (.ref b)) Q E s := by
  obtain ⟨xs, ys, p, q, gl, gb, _, _, _⟩ := look _ _ hJ
  refine wpAny_richCompare_same_room (op := .NotEq) ⟨_, gl, rfl⟩ ⟨_, gb, rfl⟩ F.slot_list_ne (GQ.call_here F.slot_list_ne ⟨_, gl, rfl⟩ F.entry_list_ne (F.args_list_ne_2 _ _) ?_) hu
  exact lists_ne (R := wants (fun v s' => v ≠ .notImplemented ∧ Q v s') E) l b N J look (fun s' z => ⟨nofun, fin s' z⟩) hJ
theorem rn_tup {l b : Addr} {xs ys : Array Value} {Q : Value → Shared → Prop} (zz : xs.size = ys.size) (hu : A.units < cLine) (J : Nat → Shared → Prop) (hl : s.heap.IsTuple l xs) (hb : s.heap.IsTuple b ys)
    (turn : ∀ i (h1 : i < xs.size) (h2 : i < ys.size) s, J i s → wpAny (model prog w) A.in1 (eqBool xs[i] ys[i]) (fun r s' => r = true ∧ J (i + 1) s') E s) (fin : ∀ s, J xs.size s → Q (.bool false) s) (hJ : J 0 s) : wpAny (model prog w) A (richCompare .NotEq (.ref l) (.ref b)) Q E s := by
  obtain ⟨⟨c1, d1, u1, sl1⟩, o1, k1, n1, z1⟩ := id hl
  obtain ⟨⟨c2, d2, u2, sl2⟩, o2, k2, n2, z2⟩ := id hb
  simp only at k1 z1 k2 z2
  subst k1 z1 k2 z2
  refine wpAny_richCompare_same_room (op := .NotEq) ⟨_, o1, rfl⟩ ⟨_, o2, rfl⟩ F.slot_tuple_ne (GQ.call_here F.slot_tuple_ne ⟨_, o1, rfl⟩ F.entry_tuple_ne (F.args_tuple_ne_2 _ _) ?_) hu
  exact tuples_ne (R := wants (fun v s' => v ≠ .notImplemented ∧ Q v s') E) l b xs ys n1 n2 d1 d2 sl1 sl2 zz J turn (fun s' z => ⟨nofun, fin s' z⟩) o1 o2 hJ
end
end NZ
namespace NZ
open PySem PySem.Spec PyProof.Rows L2
section
variable {X : Cx} {n : Nat} {D : Eqv}
/-- != gives False for what D says -/
def RnG (X : Cx) (n : Nat) (D : Eqv) : Prop :=
  ∀ (A : Around) (pins : List (Addr × Obj)) (s : Shared) (σ : L2.St) (H : Hp) (x y : V) (u v : Value), Sub X n A → Inv X pins σ H s → RelV x u → RelV y v → D x y H →
    wpAny (model X.prog X.w) A (richCompare .NotEq u v) (fun r s' => r = .bool false ∧ ∃ H', Inv X pins σ H' s' ∧ Ext H H') X.xe s
theorem rnG_list (hD : Mon D) (h : EqG X n D) : RnG X (n + 1) (DList D) := by
  intro A pins s σ H x y u v sb I rx ry d
  obtain ⟨a, b, xs, ys, rfl, rfl, ha, hb, p⟩ := d
  cases rx
  cases ry
  refine rn_list (N := xs.length) sb.room.units0 (fun _ s' => LoopI X pins σ H s') (fun i s' q => ?_) (fun s' q => ⟨rfl, q⟩) ⟨H, I, Ext.rfl'⟩
  obtain ⟨H1, I1, e1⟩ := id q
  obtain ⟨z1, is1, k1, r1, f1⟩ := I1.hok a _ (e1 _ _ ha)
  obtain ⟨z2, is2, k2, r2, f2⟩ := I1.hok b _ (e1 _ _ hb)
  exact ⟨is1.toArray, is2.toArray, k1, k2, f1, f2, by rw [List.size_toArray, ← r1.length], by rw [List.size_toArray, ← r2.length, ← p.1], fun h1 h2 => turnG hD h sb p r1 r2 i h1 h2 s' q⟩
theorem rnG_tup (hD : Mon D) (h : EqG X n D) : RnG X (n + 1) (DTup X.K D) := by
  intro A pins s σ H x y u v sb I rx ry d
  obtain ⟨a, b, xs, ys, rfl, rfl, ha, hb, p⟩ := d
  cases rx
  cases ry
  obtain ⟨is1, r1, f1, z1⟩ := I.tuple ha
  obtain ⟨is2, r2, f2, z2⟩ := I.tuple hb
  exact rn_tup (by rw [List.size_toArray, List.size_toArray, ← r1.length, ← r2.length]; exact p.1) sb.room.units0 (fun _ s' => LoopI X pins σ H s') f1 f2 (fun i h1 h2 s' q => turnG hD h sb p r1 r2 i h1 h2 s' q) (fun s' q => ⟨rfl, q⟩) ⟨H, I, Ext.rfl'⟩
def rNeG (D : Eqv) : R2 := fun x y H Q => D x y H ∧ ∀ H', Ext H H' → Q (.bl false) H'
theorem op_neG (h : RnG X n D) (hr : Room n X.A) : OpR X (compareOp .NotEq) (rNeG D) := by
  intro pins s σ H x y v u Q I rx ry hq
  obtain ⟨d, q⟩ := hq
  show wpAny (model X.prog X.w) X.A (richCompare .NotEq v u) (EP X pins σ Q) X.xe s
  refine wpAny_mono (h X.A pins s σ H x y v u ⟨hr, rfl⟩ I rx ry d) (fun r s' z => ?_) fun _ _ x => x
  obtain ⟨rfl, H', I', e⟩ := z
  exact ⟨.bl false, H', I', rfl, q H' e⟩
end
end NZ

set_option Elab.async false
set_option linter.all false
set_option maxRecDepth 100000
set_option maxHeartbeats 4000000
/-! The text that repr tells of made data of any kind; what is kept of data while objects are made and tables grow. -/
namespace NX
open PySem PySem.Spec PyProof.Rows L2 LamX
section
variable {X : Cx}
/-- repr(x), x any made data -/
def rReprD (K : PySem.W.Frag) : List V → Hp → VK → Prop := fun xs H Q => ∃ (v : V) (d : PyData), xs = [v] ∧ Dr K H v d ∧ d.showable = true ∧ d.depth ≤ 50 ∧ d.shown.length ≤ sizeLine ∧ (∀ i, d = .int i → i.natAbs.log2 < 1920) ∧ Q (.str d.shown) H
theorem call_reprD (hg : X.A.guards = some []) (hu : X.A.units + 64 < cLine) (S : SysB X.base) : CallR X (.builtin "repr") (rReprD X.K) := by
  intro pins s σ H xs us Q I r h
  obtain ⟨v, d, rfl, hd, hs, hdp, hl, hi, q⟩ := h
  cases hd with
  | non =>
    cases r with
    | cons r1 r2 =>
      cases r2
      cases r1
      exact PySem.P.repr_of_none ⟨.str _, H, I.tok _, ⟨_, rfl⟩, q⟩
  | bl b =>
    cases r with
    | cons r1 r2 =>
      cases r2
      cases r1
      exact PySem.P.repr_of_bool ⟨.str _, H, I.tok _, ⟨_, rfl⟩, q⟩
  | int i =>
    cases r with
    | cons r1 r2 =>
      cases r2
      obtain ⟨t, rfl⟩ := r1
      exact PySem.P.repr_of_int (hi i rfl) ⟨.str _, H, I.tok _, ⟨_, rfl⟩, q⟩
  | str x =>
    cases r with
    | cons r1 r2 =>
      cases r2
      obtain ⟨t, rfl⟩ := r1
      exact PySem.P.repr_of_str ⟨.str _, H, I.tok _, ⟨_, rfl⟩, q⟩ hl
  | lst a b => exact call_repr hg hu S pins s σ H _ us Q I r ⟨_, _, rfl, .lst a b, hs, hdp, hl, q⟩
  | tup a b => exact call_repr hg hu S pins s σ H _ us Q I r ⟨_, _, rfl, .tup a b, hs, hdp, hl, q⟩
  | dct a b => exact call_repr hg hu S pins s σ H _ us Q I r ⟨_, _, rfl, .dct a b, hs, hdp, hl, q⟩
end
theorem seqL_keep {K : PySem.W.Frag} {H H' : Hp} {a : Addr} {xs : List V} (k : ∀ o, H a = some o → (∀ ps, o ≠ .tbl ps) → H' a = some o) (h : SqL K H a xs) : SqL K H' a xs := by
  rcases h with (h | ⟨o, h⟩) | h
  · exact .inl (.inl (k _ h (by intro p e; cases e)))
  · exact .inl (.inr ⟨o, k _ h (by intro p e; cases e)⟩)
  · exact .inr h
theorem seqT_keep {K : PySem.W.Frag} {H H' : Hp} {a : Addr} {xs : List V} (k : ∀ o, H a = some o → (∀ ps, o ≠ .tbl ps) → H' a = some o) (h : SqT K H a xs) : SqT K H' a xs := by
  rcases h with (h | ⟨o, h⟩) | h
  · exact .inl (.inl (k _ h (by intro p e; cases e)))
  · exact .inl (.inr ⟨o, k _ h (by intro p e; cases e)⟩)
  · exact .inr h
mutual
theorem Dr.extN {K : PySem.W.Frag} {H H' : Hp} (s : ExtN H H') : ∀ {v : V} {d : PyData}, Dr K H v d → Dr K H' v d
  | _, _, .non => .non
  | _, _, .bl b => .bl b
  | _, _, .int i => .int i
  | _, _, .str x => .str x
  | _, _, .lst a b => .lst (seqL_keep (s _) a) (DrAll.extN s b)
  | _, _, .tup a b => .tup (seqT_keep (s _) a) (DrAll.extN s b)
  | _, _, .dct a b => .dct (s _ _ a (by intro p e; cases e)) (DrAll.extN s b)
theorem DrAll.extN {K : PySem.W.Frag} {H H' : Hp} (s : ExtN H H') : ∀ {v : List V} {d : List PyData}, DrAll K H v d → DrAll K H' v d
  | _, _, .nil => .nil
  | _, _, .cons a b => .cons (Dr.extN s a) (DrAll.extN s b)
end
/-- data whose text is short -/
def SmD (K : PySem.W.Frag) (H : Hp) (v : V) (d : PyData) : Prop := Dr K H v d ∧ d.showable = true ∧ d.depth ≤ 3 ∧ d.shown.length ≤ 100000 ∧ ∀ i, d = .int i → i.natAbs.log2 < 1920
theorem SmD.ext {K : PySem.W.Frag} {H H' : Hp} {v : V} {d : PyData} (s : ExtN H H') (h : SmD K H v d) : SmD K H' v d := ⟨h.1.extN s, h.2⟩
theorem SmD.same {K : PySem.W.Frag} {H H' : Hp} {v : V} {d : PyData} (s : Same H H') (h : SmD K H v d) : SmD K H' v d := h.ext (ExtN.of s)
/-- what repr asks of it -/
theorem SmD.ask {K : PySem.W.Frag} {H : Hp} {v : V} {d : PyData} {Q : VK} (h : SmD K H v d) (q : Q (.str d.shown) H) : rReprD K [v] H Q :=
  ⟨v, d, rfl, h.1, h.2.1, Nat.le_trans h.2.2.1 (by decide), Nat.le_trans h.2.2.2.1 (by decide), h.2.2.2.2, q⟩
/-- a pair of a short word and such -/
theorem SmD.pair {K : PySem.W.Frag} {H : Hp} {v : V} {d : PyData} {z : Str} {a : Addr} {Q : VK} (h : SmD K H v d) (hz : z.length ≤ 100) (hc : z.cps.toList.all (fun c => decide (c < 1114112)) = true) (ha : H a = some (.tup [.str z, v])) (q : Q (.str (PyData.tuple [.str z, d]).shown) H) : rReprD K [.ref a] H Q := by
  obtain ⟨h1, h2, h3, h4, _⟩ := h
  have hr : (reprText z).length ≤ 10 * z.length + 2 := StrLaws.reprText_len z (by rw [List.all_eq_true] at hc; exact fun i hi => Nat.lt_trans (of_decide_eq_true (hc i hi)) (by decide))
  refine ⟨_, _, rfl, .tup (SqT.of ha) (.cons (.str z) (.cons h1 .nil)), ?_, ?_, ?_, (fun i e => by cases e), q⟩
  · have e : (PyData.tuple [.str z, d]).showable = ((PyData.str z).showable && (d.showable && true)) := rfl
    rw [e, h2]
    rfl
  · have e : (PyData.tuple [.str z, d]).depth = max 0 (max d.depth 0) + 1 := rfl
    rw [e]
    omega
  · show (Str.ofString "(" ++ (reprText z ++ Str.ofString ", " ++ d.shown) ++ Str.ofString ")").length ≤ sizeLine
    repeat rw [Str.length_append]
    have a : (Str.ofString "(").length = 1 := by decide +kernel
    have b : (Str.ofString ", ").length = 2 := by decide +kernel
    have c : (Str.ofString ")").length = 1 := by decide +kernel
    exact Nat.le_trans (by omega : _ ≤ 300000) (by decide)
end NX

set_option Elab.async false
set_option linter.all false
set_option maxRecDepth 100000
set_option maxHeartbeats 4000000
/-! How long the texts of lists and tuples are. -/
namespace NX
open PySem PySem.Spec PyProof.Rows L2
theorem joinS_le (p : Str) : ∀ ts : List Str, (Str.join p ts).length ≤ (ts.map (·.length)).sum + ts.length * p.length
  | [] => by
    show (Str.empty : Str).length ≤ _
    have e0 : (Str.empty : Str).length = 0 := by decide +kernel
    omega
  | [x] => by
    show x.length ≤ _
    simp only [List.map_cons, List.map_nil, List.sum_cons, List.sum_nil, List.length_cons, List.length_nil]
    omega
  | x :: y :: r => by
    have h := joinS_le p (y :: r)
    show (x ++ p ++ Str.join p (y :: r)).length ≤ _
    rw [Str.length_append, Str.length_append]
    simp only [List.map_cons, List.sum_cons, List.length_cons] at h ⊢
    have e : (r.length + 1 + 1) * p.length = (r.length + 1) * p.length + p.length := Nat.succ_mul _ _
    omega
theorem tupleText_le (ts : List Str) : (tupleText ts).length ≤ (ts.map (·.length)).sum + 2 * ts.length + 3 := by
  have h := joinS_le (Str.ofString ", ") ts
  have e2 : (Str.ofString ", ").length = 2 := by decide +kernel
  have e1 : (Str.ofString "(").length = 1 := by decide +kernel
  have e3 : (Str.ofString ",)").length = 2 := by decide +kernel
  have e4 : (Str.ofString ")").length = 1 := by decide +kernel
  rw [e2] at h
  show (Str.ofString "(" ++ Str.join (Str.ofString ", ") ts ++ Str.ofString (if ts.length == 1 then ",)" else ")")).length ≤ _
  rw [Str.length_append, Str.length_append]
  split <;> omega
end NX

set_option Elab.async false
set_option linter.all false
set_option maxRecDepth 100000
set_option maxHeartbeats 4000000
/-! Ascending texts, each once: what they are is told by which they are. -/
namespace NX
open PySem PySem.Spec PyProof.Rows
def leS (a b : Str) : Prop := a.cps.toList ≤ b.cps.toList
theorem leS_trans {a b c : Str} (h1 : leS a b) (h2 : leS b c) : leS a c := List.le_trans h1 h2
theorem leS_anti {a b : Str} (h1 : leS a b) (h2 : leS b a) : a = b := by
  have e := List.le_antisymm h1 h2
  obtain ⟨⟨x⟩⟩ := a
  obtain ⟨⟨y⟩⟩ := b
  have e : x = y := e
  rw [e]
theorem rising_pw : ∀ (p : Str) (l : List Str), risingS p l = true → (p :: l).Pairwise leS
  | p, [], _ => by simp
  | p, x :: r, h => by
    have h' : (!ltCps x.cps.toList p.cps.toList && risingS x r) = true := h
    rw [Bool.and_eq_true, Bool.not_eq_true', ltCps_eq, decide_eq_false_iff_not] at h'
    have ih := rising_pw x r h'.2
    have hpx : leS p x := List.not_lt.mp h'.1
    refine List.pairwise_cons.mpr ⟨fun z hz => ?_, ih⟩
    rcases List.mem_cons.mp hz with e | e
    · rw [e]; exact hpx
    · exact leS_trans hpx ((List.pairwise_cons.mp ih).1 z e)
theorem sorted_pw {l : List Str} (h : sortedS l = true) : l.Pairwise leS := by
  cases l with
  | nil => simp
  | cons x r => exact rising_pw x r h
theorem sorted_uniq : ∀ {a b : List Str}, a.Pairwise leS → b.Pairwise leS → a.Nodup → b.Nodup → (∀ y, y ∈ a ↔ y ∈ b) → a = b
  | [], [], _, _, _, _, _ => rfl
  | [], y :: b, _, _, _, _, h => by simpa using (h y).mpr
  | x :: a, [], _, _, _, _, h => by simpa using (h x).mp
  | x :: a, y :: b, ha, hb, na, nb, h => by
    obtain ⟨a1, a2⟩ := List.pairwise_cons.mp ha
    obtain ⟨b1, b2⟩ := List.pairwise_cons.mp hb
    obtain ⟨n1, n2⟩ := List.nodup_cons.mp na
    obtain ⟨m1, m2⟩ := List.nodup_cons.mp nb
    have exy : x = y := by
      have hx := (h x).mp List.mem_cons_self
      have hy := (h y).mpr List.mem_cons_self
      rcases List.mem_cons.mp hx with e | hx
      · exact e
      · rcases List.mem_cons.mp hy with e | hy
        · exact e.symm
        · exact leS_anti (a1 y hy) (b1 x hx)
    subst exy
    congr 1
    refine sorted_uniq a2 b2 n2 m2 fun z => ?_
    have hz := h z
    by_cases e : z = x
    · subst e
      exact ⟨fun q => absurd q n1, fun q => absurd q m1⟩
    · simpa [e] using hz
end NX

set_option Elab.async false
set_option linter.all false
set_option maxRecDepth 100000
set_option maxHeartbeats 4000000
/-! == of programs of the same parts. -/
namespace K07
open PySem L2 NX NU
open PyProof.Rows (sortedS)
abbrev sPEq : Stmt := inClass (top 66) 22
theorem scPEq : FnScope ["self", "other"] ["self", "other"] (defScope sPEq) := ⟨rfl, rfl, rfl, by decide +kernel, rfl, by decide +kernel, by decide +kernel⟩
theorem weak {CX : CXT} {P : Program} {w : World} {K : PySem.W.Frag} {mg : Str → Option Value} {base : Heap} {k : Nat} {f : Addr} {fd : FuncData} {ps : List Str} {sp sp' : Sp} (F : FnOk P w K mg base CX k f fd ps sp) (i : ∀ vs H Q E, sp' vs H Q E → sp vs H Q E) : FnOk P w K mg base CX k f fd ps sp' :=
  ⟨fun vs H Q E h => F.len vs H Q E (i _ _ _ _ h), fun A outer s H args us vs Q E hr e0 hb r h => F.run A outer s H args us vs Q E hr e0 hb r (i _ _ _ _ h)⟩
/-- deeds of the same words -/
def Rd2 (d : D3) (a b : Addr) (H : Hp) : Prop := ∃ mk us ys ys', IsD d H a mk us ys ∧ IsD d H b mk us ys'
def DAct (d : D3) : Eqv := fun x y H => ∃ a b, x = .ref a ∧ y = .ref b ∧ Rd2 d a b H
theorem Rd2.kd {d : D3} {a b : Addr} {H H' : Hp} (s : NZ.KDn H H') (h : Rd2 d a b H) : Rd2 d a b H' := by
  obtain ⟨mk, us, ys, ys', h1, h2⟩ := h
  exact ⟨mk, us, ys, ys', h1.kd s, h2.kd s⟩
theorem monK_act (d : D3) : NZ.MonK (DAct d) := fun x y H H' s h => by
  obtain ⟨a, b, e1, e2, r⟩ := h
  exact ⟨a, b, e1, e2, r.kd s⟩
/-- what a part is compared by -/
def DPart (K : PySem.W.Frag) (d : D3) : Eqv := fun x y H => DTup K (DAct d) x y H ∨ DFlat x y H
theorem monK_tup {K : PySem.W.Frag} {D : Eqv} (h : NZ.MonK D) : NZ.MonK (DTup K D) := fun x y H H' s e => by
  obtain ⟨a, b, xs, ys, e1, e2, h1, h2, p⟩ := e
  exact ⟨a, b, xs, ys, e1, e2, sqT_kd s h1, sqT_kd s h2, p.1, fun i u v g1 g2 => h _ _ _ _ s (p.2 i u v g1 g2)⟩
theorem monK_part (K : PySem.W.Frag) (d : D3) : NZ.MonK (DPart K d) := fun x y H H' s e => e.imp (fun e => monK_tup (monK_act d) _ _ _ _ s e) id
theorem act_prs {d : D3} {H : Hp} {xs ys : List Addr} {as : List Act} (h : AllAt d H xs as) (k : AllAt d H ys as) : Prs (DAct d) (xs.map V.ref) (ys.map V.ref) H := by
  refine ⟨by rw [List.length_map, List.length_map, h.1, k.1], fun i x y e1 e2 => ?_⟩
  rw [List.getElem?_map] at e1 e2
  obtain ⟨a, g1, rfl⟩ := Option.map_eq_some_iff.mp e1
  obtain ⟨b, g2, rfl⟩ := Option.map_eq_some_iff.mp e2
  have lt : i < as.length := by rw [← h.1]; exact (List.getElem?_eq_some_iff.mp g1).1
  obtain ⟨ys1, i1⟩ := h.2 i a as[i] g1 (List.getElem?_eq_getElem lt)
  obtain ⟨ys2, i2⟩ := k.2 i b as[i] g2 (List.getElem?_eq_getElem lt)
  exact ⟨a, b, rfl, rfl, _, _, _, _, i1, i2⟩
theorem part_eq {K : PySem.W.Frag} {d : D3} {H : Hp} {v u : V} {o : Option (List Act)} (h : PartA K d H v o) (k : PartA K d H u o) : DPart K d v u H := by
  cases o with
  | none =>
    obtain rfl : v = .non := h
    obtain rfl : u = .non := k
    exact .inr ⟨rfl, rfl, rfl⟩
  | some as =>
    obtain ⟨p, rfl, xs, e, a⟩ := h
    obtain ⟨q, rfl, ys, f, b⟩ := k
    exact .inl ⟨p, q, _, _, rfl, rfl, e, f, act_prs a b⟩
theorem parts_eq {K : PySem.W.Frag} {d : D3} {H : Hp} {p q : Addr} {g : Prg} (h : PartsD K d H p g) (k : PartsD K d H q g) : NZ.DDict (DPart K d) (.ref p) (.ref q) H := by
  obtain ⟨v0, v1, v2, v3, v4, e, a0, a1, a2, a3, a4⟩ := h
  obtain ⟨u0, u1, u2, u3, u4, f, b0, b1, b2, b3, b4⟩ := k
  refine ⟨p, q, _, _, rfl, rfl, e, f, rfl, fun i kk u hu => ?_⟩
  match i, hu with
  | 0, hu => cases hu; exact ⟨u0, rfl, part_eq a0 b0⟩
  | 1, hu => cases hu; exact ⟨u1, rfl, part_eq a1 b1⟩
  | 2, hu => cases hu; exact ⟨u2, rfl, part_eq a2 b2⟩
  | 3, hu => cases hu; exact ⟨u3, rfl, part_eq a3 b3⟩
  | 4, hu => cases hu; exact ⟨u4, rfl, part_eq a4 b4⟩
  | n + 5, hu => cases hu
section
variable {X : Cx} {d : D3} {CD f : Addr} {fd : FuncData}
theorem eqG_act (F : FnOk X.prog X.w X.K X.mg X.base CX0 1 f fd ["self", "other"] (spDEq X.K d CD)) (hu : NX.EqC X.K d.u f) (hm : NX.EqC X.K d.m f) (hd : NX.EqC X.K d.d f) (hb : Binds X.K fd ["self", "other"] []) : EqG X 1 (DAct d) := by
  have F2 : FnOk X.prog X.w X.K X.mg X.base CX0 1 f fd ["self", "other"] (spEq (Rd2 d)) := weak F fun vs H Q E h => by
    obtain ⟨a, b, rfl, ⟨mk, us, ys, ys', h1, h2⟩, q⟩ := h
    refine ⟨a, mk, us, ys, .ref b, rfl, h1, .inl ⟨b, mk, us, ys', rfl, h2, ?_⟩⟩
    rw [decide_eq_true rfl, decide_eq_true rfl]
    exact q H Ext.rfl'
  have one : ∀ {C : Addr}, NX.EqC X.K C f → EqG X 1 (DIns C (Rd2 d)) := fun {C} e => eqG_ins (E := C8.E0) F2 e.eq e.fn hb pass0
  refine (((one hu).or (one hm)).or (one hd)).imp fun x y H h => ?_
  obtain ⟨a, b, rfl, rfl, r⟩ := h
  obtain ⟨mk, us, ys, ys', h1, h2⟩ := id r
  obtain ⟨dx, p, q, a1, _⟩ := h1.dd
  obtain ⟨dy, p', q', b1, _⟩ := h2.dd
  match mk, us, a1, b1 with
  | none, _, a1, b1 => exact .inl (.inl ⟨a, b, dx, dy, _, _, rfl, rfl, a1, b1, r⟩)
  | some _, [], a1, b1 => exact .inl (.inr ⟨a, b, dx, dy, _, _, rfl, rfl, a1, b1, r⟩)
  | some _, _ :: _, a1, b1 => exact .inr ⟨a, b, dx, dy, _, _, rfl, rfl, a1, b1, r⟩
theorem eqG_tupA (h : EqG X 1 (DAct d)) : EqG X 2 (DTup X.K (DAct d)) := eqG_tup (monK_act d).mon h
theorem eqG_part (h : EqG X 1 (DAct d)) : EqG X 2 (DPart X.K d) := (eqG_tupA h).or (eqG_flat.mono (Nat.zero_le _))
end
/-- programs of the same parts, names and prices -/
structure Like (t t' : Tol) : Prop where
  g : t.g = t'.g
  ag : t.ag = t'.ag
  us : ∀ z, z ∈ t.us ↔ z ∈ t'.us
  rs : ∀ z, z ∈ t.rs ↔ z ∈ t'.rs
/-- names, all of them names -/
structure Tol.Nm (t : Tol) : Prop where
  us : ∀ z ∈ t.us, nm z = true
  rs : ∀ z ∈ t.rs, nm z = true
  nd : (t.ag.map (·.1)).Nodup
theorem Tol.Ok.nms {t : Tol} (h : t.Ok) : t.Nm := ⟨h.us.nm_, h.rs.nm_, h.ag.nd⟩
theorem asc_same {a b us vs : List Str} (h : Asc a us) (k : Asc b vs) (e : ∀ z, z ∈ us ↔ z ∈ vs) : a = b := sorted_uniq (sorted_pw h.1) (sorted_pw k.1) h.2.1 k.2.1 fun y => (h.2.2 y).trans ((e y).trans (k.2.2 y).symm)
/-- what is asked to know that an object is a program -/
structure PTy (K : PySem.W.Frag) (C : Addr) : Prop where
  sp : PySem.W.specialIn K (.builtin "object.__class__") "__get__" = some (some (.builtin "getset_descriptor.__get__"))
  tk : PySem.W.takesIn K (.builtin "object.__class__") = some true
  c1 : PySem.W.findIn K (.ref C) "__class__" = some (some (.builtin "object.__class__"))
  c2 : PySem.W.mroIn K C (.type "object") = some true
  k : PySem.W.kitOne K (.ref C) (.ref C) = some true
theorem PTy.ty {K : PySem.W.Frag} {C : Addr} (p : PTy K C) (pc : PCls K C) {d : D3} {H : Hp} {x : Addr} {t : Tol} (ip : IsP K d H x C t) : TyX K H (.ref x) (.ref C) := by
  obtain ⟨dx, fs, ix⟩ := ip.inst
  exact .base (.ins ix pc.cl p.c1 p.sp p.tk p.c2)
def spPEq (K : PySem.W.Frag) (d : D3) (C : Addr) : Sp := fun vs H Q _ => ∃ (x y : Addr) (t t' : Tol), vs = [.ref x, .ref y] ∧ IsP K d H x C t ∧ IsP K d H y C t' ∧ Like t t' ∧ t.Nm ∧ ∀ H', Same H H' → Q (.bl true) H'
theorem val_ag {l : List (Str × Int)} (nd : (l.map (·.1)).Nodup) : ∀ p ∈ agK l, valV (agK l) p.1 = some p.2 ∧ flatB p.2 = true := fun p hp => by
  have n2 : ((agK l).map (·.1)).Nodup := by
    rw [agKeys]
    exact nd.map _ fun a b h => fun e => h (by injection e)
  refine ⟨val_nodup n2 p hp, ?_⟩
  unfold agK at hp
  obtain ⟨q, _, rfl⟩ := List.mem_map.mp hp
  rfl
section
variable {P : Program} {w : World} {K : PySem.W.Frag} {mg : Str → Option Value} {base : Heap}
theorem ok_peq {d : D3} {C CD fD : Addr} {f : Addr} {fd fdD : FuncData} (F : Fun K "__eq__" "Program.__eq__" sPEq f fd) (T : TxtB mg) (pc : PCls K C) (gP : mg "Program" = some (.ref C)) (pt : PTy K C) (FD : FnOk P w K mg base CX0 1 fD fdD ["self", "other"] (spDEq K d CD)) (hu : NX.EqC K d.u fD) (hm : NX.EqC K d.m fD) (hd : NX.EqC K d.d fD) (hb : Binds K fdD ["self", "other"] []) :
    FnOk P w K mg base CX0 5 f fd ["self", "other"] (spPEq K d C) := by
  refine F.ok scPEq (fun vs H Q E h => ?_) (fun cdv A outer s H vs Q E hr h => ?_)
  · obtain ⟨x, y, t, t', rfl, _⟩ := h
    rfl
  · obtain ⟨x, y, t, t', rfl, ix, iy, lk, nms, q⟩ := h
    refine ⟨_, (pss_one (ps_ret (pe_and (pe_callB call_isi (by rfl) T.bisinstance (by decide +kernel) (pa_cons (pv 1) (pa_cons (C8.pe_gc (v := .ref C) rfl ⟨_, gP, rfl⟩) pa_nil)))
      (pe_and (pe_cmpR (op_eqG (NZ.rcG_dict (monK_part K d) (eqG_part (eqG_act FD hu hm hd hb))) (hr.mono (by decide))) (pe_fld (pv 0) rfl) (pe_fld (pv 1) rfl) (nomark _))
      (pe_and (pe_cmpR (op_eqD hr.units) (pe_fld (pv 0) rfl) (pe_fld (pv 1) rfl) (nomark _))
      (pe_and (pe_cmpR (op_eq_dictA hr.units0) (pe_fld (pv 0) rfl) (pe_fld (pv 1) rfl) (nomark _))
      (pe_one (pe_cmpR (op_eqD hr.units) (pe_fld (pv 0) rfl) (pe_fld (pv 1) rfl) (nomark _))))))))), ?_⟩
    have ty := pt.ty pc iy
    obtain ⟨dx, nt, Pd, gt, ag, rt, ns, gs, rs, a, b, c, e, f, g, h1, h2, h3⟩ := ix.ex
    obtain ⟨dy, nt', Pd', gt', ag', rt', ns', gs', rs', a', b', c', e', f', g', h1', h2', h3'⟩ := iy.ex
    have eg : gs = gs' := asc_same h2 h2' lk.us
    have er : rs = rs' := asc_same h3 h3' lk.rs
    subst eg er
    rw [← lk.g] at c'
    rw [← lk.ag] at f'
    refine ⟨_, rfl, _, _, _, _, true, rfl, .own C, ty, pt.k, true, rfl, iteT ?_⟩
    refine ⟨_, rfl, x, C, dx, _, _, rfl, a, pc.cl, pc.n2, rfl, _, rfl, y, C, dy, _, _, rfl, a', pc.cl, pc.n2, rfl, parts_eq c c', fun H1 s1 => ?_⟩
    have s1 : Same H H1 := s1
    refine ⟨true, rfl, iteT ?_⟩
    have a := s1 _ _ a
    have a' := s1 _ _ a'
    refine ⟨_, rfl, x, C, dx, _, _, rfl, a, pc.cl, pc.n3, rfl, _, rfl, y, C, dy, _, _, rfl, a', pc.cl, pc.n3, rfl, _, _, .tup (SqT.of (s1 _ _ e)) (dpTup gs), .tup (SqT.of (s1 _ _ e')) (dpTup gs), shapedTup (fun z hz => nms.us z ((h2.2.2 z).mp hz)), shapedTup (fun z hz => nms.us z ((h2.2.2 z).mp hz)), ?_⟩
    rw [eqvTup, decide_eq_true rfl]
    refine ⟨true, rfl, iteT ?_⟩
    refine ⟨_, rfl, x, C, dx, _, _, rfl, a, pc.cl, pc.n4, rfl, _, rfl, y, C, dy, _, _, rfl, a', pc.cl, pc.n4, rfl, ag, ag', _, _, rfl, rfl, s1 _ _ f, s1 _ _ f', rfl, val_ag nms.nd, ?_⟩
    refine ⟨true, rfl, iteT ?_⟩
    refine ⟨_, rfl, x, C, dx, _, _, rfl, a, pc.cl, pc.n5, rfl, _, rfl, y, C, dy, _, _, rfl, a', pc.cl, pc.n5, rfl, _, _, .tup (SqT.of (s1 _ _ g)) (dpTup rs), .tup (SqT.of (s1 _ _ g')) (dpTup rs), shapedTup (fun z hz => nms.rs z ((h3.2.2 z).mp hz)), shapedTup (fun z hz => nms.rs z ((h3.2.2 z).mp hz)), ?_⟩
    rw [eqvTup, decide_eq_true rfl]
    exact q H1 s1
end
end K07

set_option Elab.async false
set_option linter.all false
set_option maxRecDepth 100000
set_option maxHeartbeats 4000000
/-! Rules of my own: max(xs, default=k) of a list of ints; list(d.values()). -/
namespace NZ
open PySem
section
variable {prog : Program} {w : World} {A : Around} {R : Result → Shared → Prop} {it : Addr} {own wr : List Addr} {m : Nat} {Pv : Nat → Value → Prop} {St : Nat → Heap → Prop}
theorem mx_args (a d : Value) : argsOk "max" ⟨[a], [(Str.ofString "default", d)]⟩ := by unfold argsOk; kernel_rfl
theorem mx_name : (toString "max" ++ toString ".loop" : String) = "max.loop" := by decide
/-- the best of what is looked at so far stands in the list at B -/
def BestAt (h : Heap) (B : Addr) (vs : Array Value) : Prop := ∃ e, h.get? B = some { cls := .type "list", dict := none, data := .seq vs e, slots := #[] }
theorem mx_rest (W : Walks prog w A.in1 it own wr m Pv St) {gt : Nat → Nat → Bool} (cmp : CmpOf prog w A.in1 .Gt Pv gt) {B : Addr} (nB : B ∉ own) (d : Value) :
    ∀ (left i : Nat) (s : Shared) (top : Value), m - (i + 1) = left → i + 1 ≤ m → St (i + 1) s.heap → Pv (argBest gt i) top → BestAt s.heap B #[top, top] →
    (∀ v h2 tk, Pv (argBest gt (m - 1)) v → (∀ b o, b ∉ wr → b ≠ B → s.heap.get? b = some o → h2.get? b = some o) → R (.ok (.ret v)) { s with heap := h2, toks := tk }) →
    codeAny (model prog w) A (.builtin "max.loop" ⟨[.ref it, .none, .ref B], [(Str.ofString "default", d)]⟩) R s := by
  have nBw : B ∉ wr := fun z => nB (W.sub _ z)
  intro left
  induction left with
  | zero =>
    rintro i s top el le st pt ⟨c, hB⟩ fin
    have em : i + 1 = m := by omega
    refine codeAny_builtin F.entry_max_loop ?_
    rw [Around.under_plainId F.plain_max_loop _]
    show wpAny _ _ (seqItems? (.ref B) >>= _) _ _ _
    refine wpAny_bind (wpAny_seqItems hB rfl ?_)
    show wpAny _ _ (tryCatch (pyNext (.ref it)) _ >>= _) _ _ _
    refine wpAny_bind (wpAny_tryCatch (W.done s _ _ (em ▸ st) fun h2 tk k2 => ?_))
    have hB2 := k2 B _ nBw hB
    show wpAny _ _ (updateSeq B (fun _ => #[]) >>= _) _ _ _
    refine wpAny_bind ?_
    refine wpAny_updateSeq hB2 rfl (wpAny_bind (wpAny_letGo (wpAny_pure ?_)))
    exact fin top _ tk (by rw [← em]; exact pt) fun b o nw nb e => (Heap.get?_update_other _ _ (Ne.symm nb)).trans (k2 b o nw e)
  | succ left ih =>
    rintro i s top el le st pt ⟨c, hB⟩ fin
    have lt : i + 1 < m := by omega
    refine codeAny_builtin F.entry_max_loop ?_
    rw [Around.under_plainId F.plain_max_loop _]
    show wpAny _ _ (seqItems? (.ref B) >>= _) _ _ _
    refine wpAny_bind (wpAny_seqItems hB rfl ?_)
    show wpAny _ _ (tryCatch (pyNext (.ref it)) _ >>= _) _ _ _
    refine wpAny_bind (wpAny_tryCatch (W.item (i + 1) s _ _ lt st fun v h2 tk pv st2 k2 => ?_))
    have hB2 := k2 B _ nBw hB
    show wpAny _ _ (tryCatch (holding [v, v] (richCompare .Gt v top >>= _)) _ >>= _) _ _ _
    refine wpAny_bind (wpAny_tryCatch (wpAny_holding (wpAny_bind ?_)))
    refine cmp (i + 1) (argBest gt i) v top _ _ _ pv pt ?_
    refine wpAny_bind (wpAny_holding (wpAny_truthy_bool ?_))
    refine wpAny_bind (wpAny_letGo (wpAny_pure ?_))
    cases q : gt (i + 1) (argBest gt i) with
    | true =>
      simp only [if_true]
      refine wpAny_bind ?_
      refine wpAny_updateSeq hB2 rfl (wpAny_bind (wpAny_letGo ?_))
      rw [mx_name]
      refine wpAny_pure ⟨plainId_quiet F.plain_max_loop _, ih (i + 1) _ v (by omega) lt (W.frame _ _ _ st2 fun b hb o e => (Heap.get?_update_other _ _ (fun z : B = b => nB (by rw [z]; exact hb))).trans e) (by simp only [argBest, q, if_true]; exact pv) ⟨_, Heap.get?_update_self _ hB2 rfl⟩ fun v2 h3 tk2 pv2 k3 => ?_⟩
      exact fin v2 h3 tk2 pv2 fun b o nw nb e => k3 b o nw nb ((Heap.get?_update_other _ _ (Ne.symm nb)).trans (k2 b o nw e))
    | false =>
      simp only [Bool.false_eq_true, if_false]
      refine wpAny_bind (wpAny_letGo ?_)
      rw [mx_name]
      refine wpAny_pure ⟨plainId_quiet F.plain_max_loop _, ih (i + 1) _ top (by omega) lt st2 (by simp only [argBest, q, Bool.false_eq_true, if_false]; exact pt) ⟨c, hB2⟩ fun v2 h3 tk2 pv2 k3 => ?_⟩
      exact fin v2 h3 tk2 pv2 fun b o nw nb e => k3 b o nw nb (k2 b o nw e)
theorem mx_loop (W : Walks prog w A.in1 it own wr m Pv St) {gt : Nat → Nat → Bool} (cmp : CmpOf prog w A.in1 .Gt Pv gt) {B : Addr} (nB : B ∉ own) (d : Value) {s : Shared} (st : St 0 s.heap) (hB : BestAt s.heap B #[])
    (fin : ∀ v h2 tk, (m = 0 → v = d) → (0 < m → Pv (argBest gt (m - 1)) v) → (∀ b o, b ∉ wr → b ≠ B → s.heap.get? b = some o → h2.get? b = some o) → R (.ok (.ret v)) { s with heap := h2, toks := tk }) :
    codeAny (model prog w) A (.builtin "max.loop" ⟨[.ref it, .none, .ref B], [(Str.ofString "default", d)]⟩) R s := by
  obtain ⟨c, hB⟩ := hB
  have nBw : B ∉ wr := fun z => nB (W.sub _ z)
  refine codeAny_builtin F.entry_max_loop ?_
  rw [Around.under_plainId F.plain_max_loop _]
  by_cases m0 : 0 < m
  · show wpAny _ _ (seqItems? (.ref B) >>= _) _ _ _
    refine wpAny_bind (wpAny_seqItems hB rfl ?_)
    show wpAny _ _ (tryCatch (pyNext (.ref it)) _ >>= _) _ _ _
    refine wpAny_bind (wpAny_tryCatch (W.item 0 s _ _ m0 st fun v h2 tk pv st2 k2 => ?_))
    have hB2 := k2 B _ nBw hB
    show wpAny _ _ (updateSeq B (fun _ => #[v, v]) >>= _) _ _ _
    refine wpAny_bind ?_
    refine wpAny_updateSeq hB2 rfl ?_
    rw [mx_name]
    refine wpAny_pure ⟨plainId_quiet F.plain_max_loop _, mx_rest W cmp nB d _ 0 _ v rfl m0 (W.frame _ _ _ st2 fun b hb o e => (Heap.get?_update_other _ _ (fun z : B = b => nB (by rw [z]; exact hb))).trans e) pv ⟨_, Heap.get?_update_self _ hB2 rfl⟩ fun v2 h3 tk2 pv2 k3 => ?_⟩
    exact fin v2 h3 tk2 (fun z => absurd z (Nat.ne_of_gt m0)) (fun _ => pv2) fun b o nw nb e => k3 b o nw nb ((Heap.get?_update_other _ _ (Ne.symm nb)).trans (k2 b o nw e))
  · have z : m = 0 := by omega
    subst z
    show wpAny _ _ (seqItems? (.ref B) >>= _) _ _ _
    refine wpAny_bind (wpAny_seqItems hB rfl ?_)
    show wpAny _ _ (tryCatch (pyNext (.ref it)) _ >>= _) _ _ _
    refine wpAny_bind (wpAny_tryCatch (W.done s _ _ st fun h2 tk k2 => ?_))
    refine wpAny_bind (wpAny_rule ?_)
    refine wpAny_pure ?_
    exact fin d h2 tk (fun _ => rfl) (fun q => absurd q (Nat.lt_irrefl _)) fun b o nw _ e => k2 b o nw e
end
end NZ
namespace NZ
open PySem PySem.Spec PyProof.Rows L2
theorem vals_each : ∀ {xs : List V} {us : List Value}, xs.length = us.length → (∀ (j : Nat) x u, xs[j]? = some x → us[j]? = some u → RelV x u) → Vals xs us
  | [], [], _, _ => .nil
  | x :: xs, u :: us, l, h => .cons (h 0 x u rfl rfl) (vals_each (by simpa using l) fun j y v e1 e2 => h (j + 1) y v (by simpa using e1) (by simpa using e2))
  | [], _ :: _, l, _ => by simp at l
  | _ :: _, [], l, _ => by simp at l
section
variable {X : Cx}
/-- a built-in function called with keywords, which goes on in a loop of its own -/
theorem tree_kw {prog : Program} {w : World} {A : Around} {E : Value → Shared → Prop} {s : Shared} {id : String} {b : Builtin} {ps : List Value} {kw : List (Str × Value)} {Q : Value → Shared → Prop} (kind : builtinKind id = none) (plain : plainId id = true) (entry : entryFor table id = some b) (ok : argsOk id ⟨ps, kw⟩)
    (run : wpAny (model prog w) A.in1 (b ⟨ps, kw⟩) (fun fin t => match fin with
      | .done f => (match (Except.ok f : Result) with
        | .ok (.ret v) => Q v t
        | .ok _ => False
        | .error e => E e t)
      | .again c => c.quiet = true ∧ codeAny (model prog w) A c (fun r t => match r with
        | .ok (.ret v) => Q v t
        | .ok _ => False
        | .error e => E e t) t) E s) : wpAny (model prog w) A (call (.builtin id) ps kw) Q E s := by
  refine wpAny_call (codeAny_call_builtin plain entry ?_)
  simp only [checkBuiltinCall, kind]
  cases q : Manifest.signature? id with
  | none => exact wpAny_pure run
  | some sig =>
    have one : Bind.checkArgs id sig ⟨ps, kw⟩ = pure () := by simpa only [argsOk, q] using ok
    simp only [one]
    exact wpAny_pure run
/-- max(xs, default=k) -/
def rMaxDf (K : PySem.W.Frag) : List V → List V → Hp → VK → Prop := fun vs zs H Q => ∃ (a : Addr) (ns : List Int) (k : Int), vs = [.ref a] ∧ zs = [.int k] ∧ SqL K H a (ns.map V.int) ∧ ∀ m, (ns = [] → m = k) → (ns ≠ [] → m ∈ ns ∧ ∀ y ∈ ns, y ≤ m) → Q (.int m) H
theorem cr_maxDf (calm : X.calm = true) : CallRK X (.builtin "max") [Str.ofString "default"] (rMaxDf X.K) := by
  intro pins s σ H vs zs us ws Q I r rz h
  obtain ⟨a, ns, k, rfl, rfl, hs, q⟩ := h
  obtain rfl := Vals.ref1 r
  obtain ⟨w1, rfl, t0, rfl⟩ := vals1 rz
  obtain ⟨its, rv, hl, _⟩ := I.list hs
  obtain ⟨xs, e⟩ := rv.ints.allInts.items
  have hn : numsOf (intItems xs).toList = ns := by rw [← e]; exact rv.ints.numsOf
  rw [nums_intItems] at hn
  have hl := hl.isList
  rw [e] at hl
  refine tree_kw F.kind_max F.plain_max F.entry_max (mx_args _ _) ?_
  show wpAny _ X.A.in1 (Builtin.Builtins.bindParams "max" ["key", "default"] 0 ⟨[], [(Str.ofString "default", Value.int k t0)]⟩ >>= _) _ _ s
  refine wpAny_bind (wpAny_of_eq (show Builtin.Builtins.bindParams "max" ["key", "default"] 0 ⟨[], [(Str.ofString "default", Value.int k t0)]⟩ = pure [none, some (Value.int k t0)] from rfl) ?_)
  refine wpAny_bind (wpAny_pure ?_)
  refine wpAny_bind (iter_intList hl fun s2 e2 st hfp hlI => ?_)
  subst e2
  refine wpAny_bind (wpAny_newObj_type ?_)
  have nS : (s.heap.push { cls := .type "list_iterator", data := .fields #[.ref a, .int 0 0] }).objs.size ∉ [s.heap.objs.size, a] := fun z => Nat.lt_irrefl _ (hfp _ z)
  rw [mx_name]
  have W := Walks.list (A := X.A.in1) (prog := X.prog) (w := X.w) (I.ok.hd calm) s.heap.objs.size a hlI (intItems xs)
  refine wpAny_pure ⟨plainId_quiet F.plain_max_loop _, mx_loop W (CmpOf.ints_gt (numAt xs) fun _ _ => intItems_at) nS (Value.int k t0) (W.frame _ _ _ st fun b _ o e => Heap.get?_push_of_some _ e) ⟨_, Heap.get?_push_size _ rfl⟩ fun v h2 tk z0 z1 kp => ?_⟩
  have keep : ∀ b o, s.heap.get? b = some o → h2.get? b = some o := fun b o e => by
    have lt := Heap.lt_size e
    refine kp b o (fun z => ?_) (fun z => ?_) (Heap.get?_push_of_some _ (Heap.get?_push_of_some _ e))
    · rw [List.mem_singleton.mp z] at lt
      exact Nat.lt_irrefl _ lt
    · rw [z] at lt
      exact absurd lt (by rw [Heap.size_push]; exact Nat.not_lt.mpr (Nat.le_succ _))
  have sz : (intItems xs).size = ns.length := by rw [← hn]; simp [intItems]
  by_cases m0 : 0 < (intItems xs).size
  · obtain ⟨t1, rfl⟩ := intItems_at (z1 m0)
    have n0 : ns ≠ [] := fun z => by rw [z] at sz; rw [sz] at m0; exact Nat.lt_irrefl _ m0
    obtain ⟨b1, b2⟩ := argBest_gt (numAt xs) ((intItems xs).size - 1)
    refine ⟨.int _, H, I.kept keep, ⟨t1, rfl⟩, q _ (fun z => absurd z n0) fun _ => ⟨?_, fun y hy => ?_⟩⟩
    · rw [numAt_eq, hn]
      exact PySem.getD_mem (by rw [← sz]; omega)
    · rw [← hn] at hy
      obtain ⟨j, hj, rfl⟩ := mem_getD hy
      rw [hn] at hj
      rw [← numAt_eq]
      exact b2 j (by omega)
  · have z : (intItems xs).size = 0 := by omega
    rw [z0 z]
    exact ⟨.int k, H, I.kept keep, ⟨t0, rfl⟩, q _ (fun _ => rfl) fun n => absurd (List.length_eq_zero_iff.mp (by rw [← sz]; exact z)) n⟩
end
/-- list(o.values()) -/
def tListVals (td : TE) : TE := fun σ H Q => td σ H fun x H1 => ∃ a kvs, x = V.ref a ∧ H1 a = some (.dK kvs) ∧ ∀ p, H1 p = none → Q (.ref p) (upd H1 p (.lst (kvs.map (·.2))))
section
variable {X : Cx} {o : Expr} {p pos apos mpos : Pos} {td : TE}
theorem pe_listVals (calm : X.calm = true) (hg : Gl X "list") (hm : X.mg "list" = none) (hd : PE X o td) (hbase : attributeBase o "values" X.env (eval o X.env) = eval o X.env := by rfl) (hline : (apos.endLine == mpos.line) = true := by rfl)
    (hse : starEach [Expr.Call (.Attribute o "values" apos) [] [] mpos] X.env = [(false, eval (Expr.Call (.Attribute o "values" apos) [] [] mpos) X.env)] := by rfl) :
    PE X (.Call (.Name "list" p) [.Call (.Attribute o "values" apos) [] [] mpos] [] pos) (tListVals td) := by
  refine ⟨fun pins s σ H Q I h => ?_⟩
  refine wpAny_Call_Name_kw (ld_blt I hg hm (u := .type "list") (by first | rfl | decide +kernel) ?_ (by first | decide +kernel | decide) (by first | decide +kernel | decide))
  rw [hse]
  refine PySem.callWith_type1 (wpAny_Call_method0_late hbase hline (thn (hd.run pins s σ H _ I h) fun v s1 ⟨x, H1, I1, r1, a, kvs, ex, ha, q⟩ => ?_))
  subst ex
  obtain rfl : v = Value.ref a := r1
  obtain ⟨z, hsys, vs, rel, dof⟩ := dk_of I1.hok ha
  obtain ⟨ep, dat⟩ := dof.dictAt
  have dat2 := dat
  obtain ⟨ob, es, ho, ex, hdat, hko, hpr, hnd⟩ := dat2
  refine ⟨"dict", "dict.values", F.plainAttrs_dict, F.slot_dict_values, F.type_dict_values, ⟨ob, ho, ex.1⟩, fun b e => ?_, Calls.callWith_builtin rfl (PySem.evalArgs_none ?_)⟩
  · cases e
    exact ⟨ob, ho, ex.2.1⟩
  refine call_meetsIn F.slot_dict_values ⟨ob, ho, ex.1⟩ F.entry_dict_values (F.args_dict_values_1 _) (meets_dict_values (mixKind X.prog X.w) a hsys) ⟨⟨vs, dof⟩, ?_⟩
  have k1 : ∀ b u, s1.heap.get? b = some u → (s1.heap.push { cls := .type "dict_values", data := .fields #[.ref a] }).get? b = some u := fun b u e => Heap.get?_push_of_some _ e
  have J : Inv X pins σ H1 { s1 with heap := s1.heap.push { cls := .type "dict_values", data := .fields #[.ref a] } } := I1.kept k1
  have dat1 := dat.keep k1
  have lv : vs.length = kvs.length := (KV.length rel).symm
  refine PySem.W.kdl_call (PySem.W.kdl_values (knd := mixKind X.prog X.w) (kvs := vs) (ep := ep) (r := s1.heap.objs.size) (d := a)) (I1.ok.hd calm) ⟨⟨_, Heap.get?_push_size _ rfl, rfl, rfl⟩, dat1⟩ (by rw [lv]; exact z) fun h2 tk acc c2 hk hD hacc => ?_
  have all : Vals (kvs.map (·.2)) acc.toList := by
    refine vals_each ((List.length_map ..).trans (lv.symm.trans (hacc.1.symm.trans Array.length_toList.symm))) fun j x u e1 e2 => ?_
    obtain ⟨k, e3⟩ := hacc.2 j u (by rw [← Array.getElem?_toList]; exact e2)
    obtain ⟨y, e4, r4⟩ := KV.at' rel e3
    rw [List.getElem?_map, e4] at e1
    cases e1
    exact r4
  exact ⟨.ref _, upd H1 _ (.lst (kvs.map (·.2))), J.laid (t' := tk) hk (Nat.le_refl _) (show ObjOk X.prog X.w _ _ _ (.lst (kvs.map (·.2))) from ⟨by rw [List.length_map]; exact z, acc.toList, c2, all, by rw [Array.toArray_toList]; exact hD⟩), rfl, q _ (J.hok.fresh (Nat.le_refl _))⟩
end
end NZ

set_option Elab.async false
set_option linter.all false
set_option maxRecDepth 100000
set_option maxHeartbeats 4000000
/-! A rule of my own: o.m(k=e, ..), a method called by keywords alone. -/
namespace NZ
open PySem PySem.Spec PyProof.Rows L2
section
variable {X : Cx} {CX : CXT} {lv : Nat} {C g : Addr} {gd : FuncData} {names ks : List Str} {sp : Sp} {E : XK} {m : Str} {apos pos : Pos} {kws : List Keyword} {t : TA} {ta : TE} {o : Expr}
/-- how the keywords' values stand behind self -/
def SelfKw (fd : FuncData) (ps ks : List Str) : Prop := ∀ (s : Shared) (us : List Value), us.length = ps.length → BindsTo s fd ⟨us.take 1, ks.zip (us.drop 1)⟩ (ps.zip us)
theorem pe_methKw {pl : Sem Bool} (recv : PE X o ta) (cl : Cls X.K C) (me : Meth X.K C m g) (F : FnOk X.prog X.w X.K X.mg X.base CX lv g gd names sp) (room : Room lv X.A)
    (bd : SelfKw gd names ks) (out : Passes CX X E) (vals : PK X kws t)
    (named : (backToKw pos (keywordEach kws X.env)).all (·.1.isSome) = true := by rfl) (which : (backToKw pos (keywordEach kws X.env)).filterMap (·.1) = ks := by rfl)
    (plain : ((backTo pos (starEach [] X.env)).any (·.1) || (backToKw pos (keywordEach kws X.env)).any (·.1.isNone)) = false := by rfl)
    (how : eval (.Call (.Attribute o m apos) [] kws pos) X.env = (do
      let ov ← eval o X.env
      standAt apos.atName
      let (f, first) ← holding [ov] (getMethod ov m pl)
      callWith pos f first (backTo pos (starEach [] X.env)) (backToKw pos (keywordEach kws X.env))) := by rfl) :
    PE X (.Call (.Attribute o m apos) [] kws pos) (tMeth C m sp [] E ta t) := by
  refine ⟨fun pins s σ H Q I ask => PySem.W.methodCall_KW (pl := pl) (thn (recv.run pins s σ H _ I ask) fun u s1 ⟨x, H1, I1, rx, a, dx, fs, ex, ea, l, more⟩ => ?_) how⟩
  subst ex
  obtain rfl : u = Value.ref a := rx
  refine getmeth_ok I1 ea cl me l (PySem.W.callWith_KW0 (first := [.ref a]) (h₀ := X.base) I.ok.mod.kin me.kp named (thn (vals.run pos pins s1 σ H1 _ I1 more) fun us s2 ⟨vs, H2, I2, r, q⟩ => ⟨I2.kIn, ?_⟩) plain)
  rw [which]
  have q : sp (.ref a :: vs) H2 Q E := by simpa using q
  have rel : Vals (.ref a :: vs) (.ref a :: us) := .cons rfl r
  have long : (Value.ref a :: us).length = names.length := by rw [← F.len _ _ _ _ q, rel.length]
  refine wpAny_call (codeAny_mono (F.run X.A X.stack s2 H2 ⟨[.ref a] ++ [], ks.zip us⟩ (.ref a :: us) (.ref a :: vs) Q E room I2.env0 (bd s2 (.ref a :: us) long) rel q) fun z s3 hz => ?_)
  match z, hz with
  | .error e, hz => exact out pins σ H2 s2 e s3 I2 hz
  | .ok (.ret u), hz => exact I2.after hz
end
end NZ


set_option Elab.async false
set_option linter.all false
set_option maxRecDepth 100000
set_option maxHeartbeats 4000000
/-! The room of deeds and of programs. -/
namespace K07
open PySem L2 NX NU
open PyProof.Rows (sortedS)
abbrev sRoom : Stmt := inClass (top 28) 2
abbrev sPrm : Stmt := sPt 10
theorem scRoom : FnScope ["self"] ["self"] (defScope sRoom) := ⟨rfl, rfl, rfl, by decide +kernel, rfl, by decide +kernel, by decide +kernel⟩
theorem scPrm : FnScope ["self", "part", "deed"] ["self"] (defScope sPrm) := ⟨rfl, rfl, rfl, by decide +kernel, rfl, by decide +kernel, by decide +kernel⟩
def spRoom (c : D3) : Sp := fun vs H Q _ => ∃ (x : Addr) (mk : Option Str) (us ys : List Str), vs = [.ref x] ∧ IsD c H x mk us ys ∧ Q (.int (ys.length : Nat)) H
/-- how many names each deed tells -/
def RoomsAt (as : List Act) (ms : List Nat) : Prop := ms.length = as.length ∧ ∀ (i : Nat) a m, as[i]? = some a → ms[i]? = some m → ∃ ys, Asc ys (a.1.toList ++ a.2) ∧ ys.length = m
theorem RoomsAt.snoc {as : List Act} {ms : List Nat} {a : Act} {ys : List Str} (h : RoomsAt as ms) (k : Asc ys (a.1.toList ++ a.2)) : RoomsAt (as ++ [a]) (ms ++ [ys.length]) := by
  refine ⟨by rw [List.length_append, List.length_append, h.1]; rfl, fun i b m e1 e2 => ?_⟩
  by_cases c : i < as.length
  · rw [List.getElem?_append_left c] at e1
    rw [List.getElem?_append_left (by rw [h.1]; exact c)] at e2
    exact h.2 i b m e1 e2
  · obtain ⟨j, rfl⟩ : ∃ j, i = as.length + j := ⟨i - as.length, by omega⟩
    rw [List.getElem?_append_right (by omega), Nat.add_sub_cancel_left] at e1
    rw [List.getElem?_append_right (by rw [h.1]; omega), h.1, Nat.add_sub_cancel_left] at e2
    match j, e1, e2 with
    | 0, e1, e2 =>
      cases e1
      cases e2
      exact ⟨ys, k, rfl⟩
    | n + 1, e1, _ => cases e1
theorem RoomsAt.le {as : List Act} {ms : List Nat} {b : Nat} (h : RoomsAt as ms) (k : ∀ a ∈ as, ∀ ys, Asc ys (a.1.toList ++ a.2) → ys.length ≤ b) : ∀ m ∈ ms, m ≤ b := fun m hm => by
  obtain ⟨i, hi⟩ := List.getElem?_of_mem hm
  have lt : i < as.length := by rw [← h.1]; exact (List.getElem?_eq_some_iff.mp hi).1
  obtain ⟨ys, h1, rfl⟩ := h.2 i as[i] m (List.getElem?_eq_getElem lt) hi
  exact k as[i] (List.getElem_mem lt) ys h1
/-- the room of a program of such deeds -/
def IsRoom (as : List Act) (m : Int) : Prop := ∃ ms : List Nat, RoomsAt as ms ∧ (ms = [] → m = 1) ∧ (ms ≠ [] → m ∈ ms.map Int.ofNat ∧ ∀ y ∈ ms.map Int.ofNat, y ≤ m)
def spPrm (K : PySem.W.Frag) (d : D3) (C : Addr) : Sp := fun vs H Q _ => ∃ (x : Addr) (t : Tol), vs = [.ref x] ∧ IsP K d H x C t ∧ t.g.acts.length ≤ 1000 ∧ ∀ m H', Same H H' → IsRoom t.g.acts m → Q (.int m) H'
theorem upto_le (g : Prg) : ∀ i, i ≤ 5 → (g.upto i).length ≤ g.acts.length
  | 0, _ => Nat.zero_le _
  | 1, _ | 2, _ | 3, _ | 4, _ | 5, _ => by
    show _ ≤ ((((([] ++ g.a) ++ g.l.getD []) ++ g.b) ++ g.s.getD []) ++ g.h).length
    simp only [Prg.upto, Prg.at, Option.getD_some, List.length_append]
    omega
/-- a walk over a tuple -/
theorem walkT {K : PySem.W.Frag} {a : Addr} {xs : List V} {H0 : Hp} {Qd : Hp → Prop} (B : V → Hp → (Hp → Prop) → Prop) (Pv : Nat → Hp → Prop) (start : Pv 0 H0) (there : ∀ i H, i ≤ xs.length → Pv i H → SqT K H a xs) (turn : ∀ i x H, xs[i]? = some x → Pv i H → B x H (Pv (i + 1))) (fin : ∀ H, Pv xs.length H → Qd H) :
    ∃ W : Nat → Nat → Hp → Prop, (∃ m, W 0 m H0) ∧ ∀ i m H, W i m H → ((Itt K a).stop i H ∧ Qd H) ∨ ((Itt K a).go i H ∧ ∃ Nx : Hp → Prop, (∀ H', Nx H' → ∃ m', m' < m ∧ W (i + 1) m' H') ∧ ∀ x H', (Itt K a).yld i H x H' → B x H' Nx) := by
  refine ⟨fun i m H => i ≤ xs.length ∧ m + i = xs.length ∧ Pv i H, ⟨xs.length, Nat.zero_le _, rfl, start⟩, ?_⟩
  rintro i m H ⟨le, em, p⟩
  have sq := there i H le p
  by_cases lt : i < xs.length
  · refine .inr ⟨⟨xs, xs[i], sq, List.getElem?_eq_getElem lt⟩, Pv (i + 1), fun H' p' => ⟨m - 1, by omega, lt, by omega, p'⟩, fun x H' y => ?_⟩
    obtain ⟨e, y⟩ := y
    subst e
    exact turn i x _ (y xs sq) p
  · obtain rfl : i = xs.length := by omega
    exact .inl ⟨⟨xs, sq, Nat.le_refl _⟩, fin H p⟩
section
variable {P : Program} {w : World} {K : PySem.W.Frag} {mg : Str → Option Value} {base : Heap}
theorem ok_room {c : D3} {fN pN f : Addr} {fd fdN : FuncData} (F : Fun K "room" "Deed.room" sRoom f fd) (T : TxtB mg) (k : D3C K c) (h1 : PropOf K c.u "names" pN fN) (h2 : PropOf K c.m "names" pN fN) (h3 : PropOf K c.d "names" pN fN) (FN : FnOk P w K mg base CX0 1 fN fdN ["self"] (spNames K c)) (hb : Binds K fdN ["self"] []) :
    FnOk P w K mg base CX0 3 f fd ["self"] (spRoom c) := by
  refine F.ok scRoom (fun vs H Q E h => ?_) (fun cdv A outer s H vs Q E hr h => ?_)
  · obtain ⟨x, mk, us, ys, rfl, _⟩ := h
    rfl
  · obtain ⟨x, mk, us, ys, rfl, hD, q⟩ := h
    have kc := k.at_ mk us
    obtain ⟨dx, p, r, g1, g2, g3⟩ := id hD.dd
    refine ⟨_, (pss_one (ps_ret (pe_callB call_len_seq (by rfl) T.blen (by decide +kernel) (pa_cons (NX.pe_propG (pv 0) FN (hr.mono (by decide)) hb pass0 rfl) pa_nil)))), ?_⟩
    refine ⟨_, rfl, x, _, dx, _, pN, rfl, g1, kc.cl, of3 (φ := fun C => PropOf K C "names" pN fN) h1 h2 h3, x, mk, us, ys, rfl, hD, fun r2 hr2 => ?_⟩
    refine ⟨r2, _, rfl, .inr (SqT.of hr2), ?_⟩
    rw [List.length_map]
    exact q
theorem ok_prm {d : D3} {C pR fR : Addr} {fdR : FuncData} {f : Addr} {fd : FuncData} (F : Fun K "room" "Program.room" sPrm f fd) (T : TxtB mg) (bmax : mg "max" = none) (TQ : TxtQ mg K) (pc : PCls K C) (k : D3C K d) (h1 : PropOf K d.u "room" pR fR) (h2 : PropOf K d.m "room" pR fR) (h3 : PropOf K d.d "room" pR fR) (FR : FnOk P w K mg base CX0 3 fR fdR ["self"] (spRoom d)) (hb : Binds K fdR ["self"] []) :
    FnOk P w K mg base CX0 5 f fd ["self"] (spPrm K d C) := by
  refine F.ok scPrm (fun vs H Q E h => ?_) (fun cdv A outer s H vs Q E hr h => ?_)
  · obtain ⟨x, t, rfl, _⟩ := h
    rfl
  · obtain ⟨x, t, rfl, ip, lt, q⟩ := h
    have hu := hu_of hr
    obtain ⟨tP, eP, sP⟩ := TQ.parts
    refine ⟨_, (pss_one (ps_ret (pe_callBK (NZ.cr_maxDf rfl) (by rfl) bmax (by decide +kernel) (pa_cons (pe_lc2 (own := [("part", 1), ("deed", 2)]) (vs1 := [2]) (g := gName 1) (g1 := gName 2) rfl scPrm.nd (pi_tup (pe_glob (v := .ref tP) rfl eP rfl)) (blkOk_by (own := [("part", 1), ("deed", 2)]) (N := ["self", "part", "deed"]) (sc := defScope sPrm) (by decide +kernel)) (by decide) (fun _ _ _ _ _ => pg_name (i := 1) scPrm.nd rfl (Or.inl rfl)) (fun _ _ _ _ _ => pts_nil)
        (fun _ _ _ _ _ => show PI _ _ _ (iTup K (tOrT K (tDGet (tFld K (tVar 0) (Str.ofString "_parts")) (tVar 1)) (tTup tNil))) from pi_tup (pe_orT (pe_dget hu (pe_fld (pv 0) rfl) (pv 1) (fun _ _ => rfl)) (pe_one (pe_tup pa_nil)))) (fun _ _ _ _ _ => pg_name (i := 2) scPrm.nd rfl (Or.inl rfl)) (fun _ _ _ _ _ => pts_nil)
        (fun _ _ _ _ _ => show PE _ _ (tCB _ (tCons (NX.tPropG K "room" fR (spRoom d) C8.E0 (tVar 2)) tNil)) from pe_callTy call_int1 (by rfl) T.bint (by decide +kernel) (pa_cons (NX.pe_propG (pv 2) FR (hr.mono (by decide)) hb pass0 rfl) pa_nil))) pa_nil) (pk_cons pe_int pk_nil)))), ?_⟩
    obtain ⟨dx, nt, Pd, gt, ag, rt, ns, gs, rs, a, b, pd, e, f, g, _⟩ := ip.ex
    have lz : (2000 : Nat) ≤ sizeLine := by decide
    refine ⟨tP, rfl, ⟨_, sP H⟩, fun D hD => ?_⟩
    have sD := Same.new (o := HO.lst []) hD
    refine walkT (K := K) (a := tP) (xs := partN.map V.str) _ (fun i H' => Same H H' ∧ ∃ ms : List Nat, H' D = some (.lst (ms.map fun n : Nat => V.int (n : Int))) ∧ RoomsAt (t.g.upto i) ms) ⟨sD, [], upd_same, rfl, nofun⟩ (fun i H' _ _ => sP H') ?_ ?_
    · rintro i xz H2 hz ⟨s2, ms, gD, ra⟩
      rw [List.getElem?_map] at hz
      obtain ⟨z, hz2, rfl⟩ := Option.map_eq_some_iff.mp hz
      have i5 : i < 5 := (partF hz2).1
      refine ⟨rfl, ?_⟩
      unfold tYes
      dsimp only
      rw [if_pos rfl]
      obtain ⟨v, dg, pa⟩ := (pd.same s2).get i hz2
      refine ⟨_, rfl, x, C, dx, _, _, rfl, s2 _ _ a, pc.cl, pc.n2, rfl, _, rfl, Pd, v, rfl, dg, pa.or fun p1 H3 s3 dd => ?_⟩
      obtain ⟨xs1, e1, al1⟩ := dd
      have gD3 := s3 _ _ gD
      refine ⟨p1, rfl, ⟨_, e1⟩, ?_⟩
      have up := upto_le t.g (i + 1) (by omega)
      have eup : t.g.upto (i + 1) = t.g.upto i ++ (t.g.at i).getD [] := rfl
      rw [eup, List.length_append] at up
      refine walkT (K := K) (a := p1) (xs := xs1.map V.ref) _ (fun j H' => KL H3 H' ∧ Same H H' ∧ ∃ ms : List Nat, H' D = some (.lst (ms.map fun n : Nat => V.int (n : Int))) ∧ RoomsAt (t.g.upto i ++ ((t.g.at i).getD []).take j) ms) ⟨KL.refl H3, s2.trans s3, ms, gD3, by rw [List.take_zero, List.append_nil]; exact ra⟩ (fun j H' _ z => sqT_kl z.1 e1) ?_ ?_
      · rintro j y H4 hy ⟨k4, s4, ms4, gD4, ra4⟩
        rw [List.getElem?_map] at hy
        obtain ⟨q0, hq, rfl⟩ := Option.map_eq_some_iff.mp hy
        have lj : j < ((t.g.at i).getD []).length := by rw [← al1.1]; exact (List.getElem?_eq_some_iff.mp hq).1
        obtain ⟨ys, isd⟩ := al1.2 j q0 _ hq (List.getElem?_eq_getElem lj)
        have isd := isd.kl k4
        have kc := k.at_ ((t.g.at i).getD [])[j].1 ((t.g.at i).getD [])[j].2
        obtain ⟨dq, pq, rq, j1, j2, j3⟩ := id isd.dd
        refine ⟨rfl, iteT ?_⟩
        refine ⟨_, rfl, q0, _, dq, _, pR, rfl, j1, kc.cl, of3 (φ := fun C => PropOf K C "room" pR fR) h1 h2 h3, q0, _, _, ys, rfl, isd, .inl ⟨_, rfl, _, gD4, ?_, k4.put gD4, fun b u e => (upd_ne (ne_of_none e hD)).trans (s4 b u e), ms4 ++ [ys.length], by rw [upd_same, List.map_append]; rfl, ?_⟩⟩
        · rw [List.length_map, ra4.1, List.length_append, List.length_take]
          omega
        · have et : ((t.g.at i).getD []).take (j + 1) = ((t.g.at i).getD []).take j ++ [((t.g.at i).getD [])[j]] := by rw [List.take_add_one, List.getElem?_eq_getElem lj]; rfl
          rw [et, ← List.append_assoc]
          exact ra4.snoc isd.asc
      · rintro H4 ⟨k4, s4, ms4, gD4, ra4⟩
        rw [List.length_map, al1.1, List.take_length] at ra4
        exact ⟨s4, ms4, gD4, ra4⟩
    · rintro H2 ⟨s2, ms, gD, ra⟩
      have ra : RoomsAt t.g.acts ms := ra
      refine ⟨D, ms.map Int.ofNat, 1, rfl, rfl, SqL.of (by rw [gD, List.map_map]; rfl), fun m z0 z1 => q m H2 s2 ⟨ms, ra, fun e => z0 (by rw [e]; rfl), fun e => z1 fun z => e (List.map_eq_nil_iff.mp z)⟩⟩
end
end K07

set_option Elab.async false
set_option linter.all false
set_option maxRecDepth 100000
set_option maxHeartbeats 4000000
/-! Deeds and parts by other names. -/
namespace K07
open PySem L2 NX NU
open PyProof.Rows (sortedS)
abbrev sRd : Stmt := top 34
abbrev sRpt : Stmt := top 71
abbrev NRd : List Str := ["deed", "renames", "uses", "made", "name"]
theorem scRd : FnScope NRd ["deed", "renames"] (defScope sRd) := ⟨rfl, rfl, rfl, by decide +kernel, rfl, by decide +kernel, by decide +kernel⟩
theorem scRpt : FnScope ["deeds", "renames", "deed"] ["deeds", "renames"] (defScope sRpt) := ⟨rfl, rfl, rfl, by decide +kernel, rfl, by decide +kernel, by decide +kernel⟩
section
open PySem.Spec PyProof.Rows
variable {X : Cx} {CX : CXT} {k : Nat} {f C : Addr} {sp : Sp} {E : XK} {x : Str} {e : Expr} {es : List Expr} {t : TA} {p pos : Pos}
/-- C(e, .., *y) -/
theorem pe_makeS2 (M : Mk X.K C f) (F : FnR X.prog X.w X.K X.mg X.base CX k f sp) (room : Room (k + 1) X.A) (gl : Gl X x) (at_ : X.mg x = some (.ref C)) (out : Passes CX X E) (vals : PA X (e :: es) t) (nd : (x == ("__debug__" : Str)) = false := by decide)
    (fst : starEach (e :: es) X.env = (false, eval e X.env) :: starEach es X.env := by rfl) (star : (backTo pos (starEach es X.env)).any (·.1) = true := by rfl) : PE X (.Call (.Name x p) (e :: es) [] pos) (StX.tMakeR C sp E t) := by
  refine ⟨fun pins s σ H Q I ask => wpAny_Call_Name_kw (ld_glob I gl at_ ?_ nd)⟩
  refine PySem.W.callWith_S2 (h₀ := X.base) I.ok.mod.kin M.kp (thn (vals.run pos pins s σ H _ I ask) fun us s1 ⟨vs, H1, I1, r, q⟩ => ⟨I1.kIn, ?_⟩) fst star
  exact StX.run_makeR M F room out I1 r q
end
/-- another name for each of the names ws -/
def rnK (ws : List Str) (f : Str → Str) : List (Key × V) := ws.map fun z => (.inr z, .str (f z))
theorem rn_get {ws : List Str} {f : Str → Str} {z : Str} (nd : ws.Nodup) (h : z ∈ ws) : valV (rnK ws f) (.inr z) = some (.str (f z)) := by
  have n2 : ((rnK ws f).map (·.1)).Nodup := by
    unfold rnK
    rw [List.map_map]
    exact nd.map _ fun a b h => fun e => h (by injection e)
  exact val_nodup n2 (.inr z, .str (f z)) (List.mem_map_of_mem h)
/-- what renames are: names for names, no two alike -/
structure RnOk (ws : List Str) (f : Str → Str) : Prop where
  nd : ws.Nodup
  nm_ : ∀ z ∈ ws, nm (f z) = true
  inj : ∀ y ∈ ws, ∀ z ∈ ws, f y = f z → y = z
theorem nodup_inj {ws : List Str} {f : Str → Str} (r : ∀ y ∈ ws, ∀ z ∈ ws, f y = f z → y = z) : ∀ {us : List Str}, us.Nodup → (∀ z ∈ us, z ∈ ws) → (us.map f).Nodup
  | [], _, _ => List.nodup_nil
  | z :: us, h, k => by
    rw [List.nodup_cons] at h
    rw [List.map_cons, List.nodup_cons]
    refine ⟨fun m => ?_, nodup_inj r h.2 fun y hy => k y (List.mem_cons_of_mem _ hy)⟩
    obtain ⟨y, hy, e⟩ := List.mem_map.mp m
    exact h.1 (r y (k y (List.mem_cons_of_mem _ hy)) z (k z List.mem_cons_self) e ▸ hy)
theorem RnOk.uni {ws : List Str} {f : Str → Str} (r : RnOk ws f) {us : List Str} (h : us.Nodup) (k : ∀ z ∈ us, z ∈ ws) : Uni (us.map f) := by
  refine ⟨nodup_inj r.inj h k, fun y hy => ?_⟩
  obtain ⟨z, hz, rfl⟩ := List.mem_map.mp hy
  exact r.nm_ z (k z hz)
def rnA (f : Str → Str) (a : Act) : Act := (a.1.map f, a.2.map f)
theorem LotOk.rn {ws : List Str} {f : Str → Str} {mk : Option Str} {us : List Str} (r : RnOk ws f) (h : LotOk mk us) (k : ∀ z ∈ mk.toList ++ us, z ∈ ws) : LotOk (mk.map f) (us.map f) := by
  refine ⟨r.uni h.u.1 fun z hz => k z (List.mem_append_right _ hz), by rw [List.length_map]; exact h.few, fun z hz => ?_, fun e => ?_⟩
  · cases mk with
    | none => cases hz
    | some m =>
      cases hz
      exact r.nm_ m (k m List.mem_cons_self)
  · cases mk with
    | none => rw [List.length_map]; exact h.some_ rfl
    | some m => cases e
theorem yesT {σ : L2.St} {H : Hp} {A B : Hp → Prop} (h : A H) : tYes σ H fun b H3 => if b = true then A H3 else B H3 := by
  unfold tYes
  dsimp only
  rw [if_pos rfl]
  exact h
/-- [.. for name in names] -/
theorem lcTx {K : PySem.W.Frag} {p : Addr} {xs : List Str} {g : Str → V} {v : Nat} {σ : L2.St} {H : Hp} {te : TE} {Q : VK} (hS : SqT K H p (xs.map V.str)) (few : xs.length ≤ 1000) (hv : v < σ.length)
    (elt : ∀ z ∈ xs, ∀ (H' : Hp) (R : VK), Same H H' → R (g z) H' → te ((wipe σ [v]).set v (some (.str z))) H' R) (k : ∀ D H', Same H H' → H D = none → H' D = some (.lst (xs.map g)) → Q (.ref D) H') :
    tLc (fun _ H R => R (Itt K p) H) (gName v) tYes te [v] σ H Q := by
  intro D hD
  have low : (2000 : Nat) ≤ sizeLine := by decide
  refine lc_tup (xs := xs.map V.str) (fun i H' => Same H H' ∧ H' D = some (.lst ((xs.take i).map g))) ⟨Same.new hD, upd_same⟩ (fun i H' _ z => sqT_same z.1 hS) ?_ ?_
  · rintro i x H2 hx ⟨s2, gD⟩
    rw [List.getElem?_map] at hx
    obtain ⟨z, hz, rfl⟩ := Option.map_eq_some_iff.mp hx
    refine ⟨?_, yesT (elt z (List.mem_of_getElem? hz) H2 _ s2 ⟨_, gD, by rw [List.length_map, List.length_take]; omega, fun b o e => (upd_ne (ne_of_none e hD)).trans (s2 b o e), ?_⟩)⟩
    · show ((σ.set v none).set v _).set v none = σ.set v none
      rw [List.set_set, List.set_set]
    · rw [upd_same, List.take_add_one, hz, List.map_append]
      rfl
  · rintro H2 ⟨s2, gD⟩
    rw [List.length_map, List.take_length] at gD
    exact k D H2 s2 hD gD
theorem lcLs {K : PySem.W.Frag} {p : Addr} {xs : List Str} {g : Str → V} {v : Nat} {σ : L2.St} {H : Hp} {te : TE} {Q : VK} (hS : SqL K H p (xs.map V.str)) (few : xs.length ≤ 1000) (hv : v < σ.length)
    (elt : ∀ z ∈ xs, ∀ (H' : Hp) (R : VK), Same H H' → R (g z) H' → te ((wipe σ [v]).set v (some (.str z))) H' R) (k : ∀ D H', Same H H' → H D = none → H' D = some (.lst (xs.map g)) → Q (.ref D) H') :
    tLc (fun _ H R => R (Itl K p) H) (gName v) tYes te [v] σ H Q := by
  intro D hD
  have low : (2000 : Nat) ≤ sizeLine := by decide
  refine lc_list (xs := xs.map V.str) (fun i H' => Same H H' ∧ H' D = some (.lst ((xs.take i).map g))) ⟨Same.new hD, upd_same⟩ (fun i H' _ z => sqL_same z.1 hS) ?_ ?_
  · rintro i x H2 hx ⟨s2, gD⟩
    rw [List.getElem?_map] at hx
    obtain ⟨z, hz, rfl⟩ := Option.map_eq_some_iff.mp hx
    refine ⟨?_, yesT (elt z (List.mem_of_getElem? hz) H2 _ s2 ⟨_, gD, by rw [List.length_map, List.length_take]; omega, fun b o e => (upd_ne (ne_of_none e hD)).trans (s2 b o e), ?_⟩)⟩
    · show ((σ.set v none).set v _).set v none = σ.set v none
      rw [List.set_set, List.set_set]
    · rw [upd_same, List.take_add_one, hz, List.map_append]
      rfl
  · rintro H2 ⟨s2, gD⟩
    rw [List.length_map, List.take_length] at gD
    exact k D H2 s2 hD gD
theorem actsN_at {as : List Act} {a : Act} {z : Str} (h : a ∈ as) (hz : z ∈ a.1.toList ++ a.2) : z ∈ actsN as := by
  unfold actsN
  exact List.mem_flatten.mpr ⟨_, List.mem_map_of_mem h, mem_ns.mpr ((List.mem_append.mp hz).symm.imp id fun h => by simpa using h)⟩
theorem one_at {d : D3} {H : Hp} {x : Addr} {a : Act} {ys : List Str} (h : IsD d H x a.1 a.2 ys) : AllAt d H [x] [a] := ⟨rfl, fun i y b e1 e2 => by
  match i, e1, e2 with
  | 0, e1, e2 =>
    cases e1
    cases e2
    exact ⟨ys, h⟩
  | n + 1, e1, _ => cases e1⟩
def spRnd (d : D3) : Sp := fun vs H Q _ => ∃ (x rn : Addr) (mk : Option Str) (us ys ws : List Str) (f : Str → Str), vs = [.ref x, .ref rn] ∧ IsD d H x mk us ys ∧ LotOk mk us ∧ H rn = some (.dK (rnK ws f)) ∧ RnOk ws f ∧ (∀ z ∈ mk.toList ++ us, z ∈ ws) ∧ ∀ y H', NewI d H y (mk.map f) (us.map f) H' → Q (.ref y) H'
def spRpt (K : PySem.W.Frag) (d : D3) : Sp := fun vs H Q _ => ∃ (v : V) (rn : Addr) (o : Option (List Act)) (ws : List Str) (f : Str → Str), vs = [v, .ref rn] ∧ PartA K d H v o ∧ (∀ a ∈ o.getD [], LotOk a.1 a.2) ∧ (o.getD []).length ≤ 1000 ∧ H rn = some (.dK (rnK ws f)) ∧ RnOk ws f ∧ (∀ z ∈ actsN (o.getD []), z ∈ ws) ∧
  ∀ u H', Same H H' → InO K d H' u (o.map fun as => as.map (rnA f)) → Q u H'
section
variable {P : Program} {w : World} {K : PySem.W.Frag} {mg : Str → Option Value} {base : Heap}
theorem ok_rd {c : C4} {d : D3} {fU fM fD : Addr} {fdM : FuncData} {f : Addr} {fd : FuncData} (F : Fun K "renamed_deed" "renamed_deed" sRd f fd) (k3 : D3C K d) (D : Dcs K mg d fU fM fD) (FU : FnR P w K mg base (CX P w) 5 fU (spUse K c)) (FM : FnOk P w K mg base (CX P w) 4 fM fdM ["self", "name"] (spMake K c)) (hbM : Binds K fdM ["self", "name"] []) (FD : FnR P w K mg base (CX P w) 5 fD (spDo K c)) :
    FnOk P w K mg base CX0 7 f fd ["deed", "renames"] (spRnd d) := by
  refine F.ok scRd (fun vs H Q E h => ?_) (fun cdv A outer s H vs Q E hr h => ?_)
  · obtain ⟨x, rn, mk, us, ys, ws, g, rfl, _⟩ := h
    rfl
  · obtain ⟨x, rn, mk, us, ys, ws, g, rfl, isd, lo, gr, ro, hin, k⟩ := h
    have hu := hu_of hr
    refine ⟨_, (pss_cons (ps_setLc (i := 2) (own := [("name", 4)]) (g := gName 4) rfl scRd.nd rfl rfl (sw_true rfl rfl rfl (by decide +kernel)) (pi_tup (pe_fld (pv 0) rfl)) (blkOk_by (own := [("name", 4)]) (N := NRd) (sc := defScope sRd) (by decide +kernel)) (fun _ _ _ _ _ => pg_name (i := 4) scRd.nd rfl (Or.inl rfl)) (fun _ _ _ _ _ => pts_nil) (fun _ _ _ _ _ => pe_dget hu (pv 1) (pv 4) (fun _ _ => rfl)))
      (pss_cons (ps_if (pt_cmpR op_isN (pe_fld (pv 0) rfl) pe_non (nomark _)) (pss_one (ps_ret (pe_makeS (E := C8.E0) D.mu FU (hr.mono (by decide)) rfl D.gu passL (pv 2)))) pss_nil)
      (pss_cons (ps_set (i := 3) scRd.nd rfl (Or.inl rfl) (pe_dget hu (pv 1) (pe_fld (pv 0) rfl) (fun _ _ => rfl)))
      (pss_cons (ps_if (pt_not (pt_truth (pv 2) (fun _ => rfl))) (pss_one (ps_ret (pe_make (E := C8.E0) D.mm FM (hr.mono (by decide)) rfl D.gm hbM .nil passL (pa_cons (pv 3) pa_nil)))) pss_nil)
      (pss_one (ps_ret (pe_makeS2 (E := C8.E0) D.md FD (hr.mono (by decide)) rfl D.gd passL (pa_cons (pv 3) (StX.pa_star (pv 2) pa_nil))))))))), ?_⟩
    have kc := k3.at_ mk us
    obtain ⟨dx, p, r, g1, g2, g3⟩ := id isd.dd
    have few := lo.few
    have lo2 := lo.rn ro hin
    have get : ∀ {H' : Hp} {z : Str}, Same H H' → z ∈ ws → DGet H' rn (.str z) (some (.str (g z))) := fun {H' z} s hz => .inl ⟨_, .inr z, .inl (s _ _ gr), rfl, (rn_get ro.nd hz).symm⟩
    refine sqA (lcOf ⟨_, rfl, x, _, dx, _, _, rfl, g1, kc.cl, kc.nu, rfl, p, rfl, ⟨_, SqT.of g2⟩, ?_⟩)
    refine lcTx (g := fun z => .str (g z)) (SqT.of g2) (by omega) (show 4 < 5 by decide) (fun z hz H' R s1 q => ⟨_, rfl, _, rfl, rn, _, rfl, get s1 (hin z (List.mem_append_right _ hz)), q⟩) (fun D2 H1 s1 nD gD => ?_)
    have gD : H1 D2 = some (.lst ((us.map g).map V.str)) := by rw [gD, List.map_map]; rfl
    have g1 := s1 _ _ g1
    have k1 : ∀ y H', NewI d H1 y (mk.map g) (us.map g) H' → Q (.ref y) H' := fun y H' n => k y H' ⟨s1.trans n.1, sameNone s1 n.2.1, n.2.2⟩
    refine ⟨_, rfl, x, _, dx, _, _, rfl, g1, kc.cl, kc.nk, rfl, rfl, _, rfl, ?_⟩
    cases mk with
    | none => exact iteT ⟨_, rfl, D2, _, rfl, .inr (SqL.of gD), real_use (us := us.map g) D lo2 k1⟩
    | some m =>
      refine iteF ⟨_, rfl, _, rfl, x, _, dx, _, _, rfl, g1, kc.cl, kc.nk, rfl, rn, _, rfl, get s1 (hin m List.mem_cons_self), ?_⟩
      refine ⟨_, rfl, !((us.map g).map V.str).isEmpty, .inl ⟨_, SqL.of gD, rfl⟩, ?_⟩
      cases us with
      | nil => exact iteT ⟨_, rfl, real_make D lo2 k1⟩
      | cons z0 us =>
        refine iteF ⟨_, rfl, _, rfl, D2, _, rfl, .inr (SqL.of gD), ?_⟩
        intro y dy b1 b2 b3
        show spDo K c (V.ref y :: V.str (g m) :: (((z0 :: us).map g).map V.str ++ [])) _ _ _
        rw [List.append_nil]
        exact real_do (us := us.map g) D lo2 k1 y dy b1 b2 b3
theorem ok_rpt {d : D3} {f : Addr} {fd : FuncData} (F : Fun K "renamed_part" "renamed_part" sRpt f fd) (cRd : C8.Cal P w K mg base 7 "renamed_deed" (spRnd d) []) : FnOk P w K mg base CX0 8 f fd ["deeds", "renames"] (spRpt K d) := by
  refine F.ok scRpt (fun vs H Q E h => ?_) (fun cdv A outer s H vs Q E hr h => ?_)
  · obtain ⟨v, rn, o, ws, g, rfl, _⟩ := h
    rfl
  · obtain ⟨v, rn, o, ws, g, rfl, pa, lo, len, gr, ro, hin, k⟩ := h
    refine ⟨_, (pss_cons (ps_if (pt_cmpR op_isN (pv 0) pe_non (nomark _)) (pss_one (ps_ret pe_non)) pss_nil)
      (pss_one (ps_ret (pe_lc (own := [("deed", 2)]) (g := gName 2) rfl scRpt.nd (pi_tup (pv 0)) (blkOk_by (own := [("deed", 2)]) (N := ["deeds", "renames", "deed"]) (sc := defScope sRpt) (by decide +kernel)) (fun _ _ _ _ _ => pg_name (i := 2) scRpt.nd rfl (Or.inl rfl)) (fun _ _ _ _ _ => pts_nil) (fun _ _ _ _ _ => C8.pe_c cRd hr (by decide) rfl (pa_cons (pv 2) (pa_cons (pv 1) pa_nil))))))), ?_⟩
    cases o with
    | none =>
      obtain rfl : v = .non := pa
      exact ⟨_, rfl, rfl, _, rfl, iteT (k _ H (Same.refl H) rfl)⟩
    | some as =>
      obtain ⟨p, rfl, xs, e, al⟩ := pa
      refine ⟨_, rfl, rfl, _, rfl, iteF ?_⟩
      refine ⟨_, rfl, p, rfl, ⟨_, e⟩, fun D hD => ?_⟩
      have low : (2000 : Nat) ≤ sizeLine := by decide
      have len : as.length ≤ 1000 := len
      refine lc_tup (xs := xs.map V.ref) (fun i H' => Same H H' ∧ ∃ ys : List Addr, H' D = some (.lst (ys.map V.ref)) ∧ ys.length = i ∧ AllAt d H' ys ((as.take i).map (rnA g))) ⟨Same.new hD, [], upd_same, rfl, by rw [List.take_zero]; exact ⟨rfl, nofun⟩⟩ (fun i H' _ z => sqT_same z.1 e) ?_ ?_
      · rintro i x H2 hx ⟨s2, ys, gD, ly, ay⟩
        rw [List.getElem?_map] at hx
        obtain ⟨q, hq, rfl⟩ := Option.map_eq_some_iff.mp hx
        have li : i < as.length := by rw [← al.1]; exact (List.getElem?_eq_some_iff.mp hq).1
        obtain ⟨yn, isd⟩ := al.2 i q _ hq (List.getElem?_eq_getElem li)
        have mem := List.getElem_mem li
        refine ⟨rfl, yesT ?_⟩
        refine ⟨_, rfl, _, rfl, q, rn, as[i].1, as[i].2, yn, ws, g, rfl, isd.same s2, lo _ mem, s2 _ _ gr, ro, fun z hz => hin z (actsN_at mem hz), fun y H3 n3 => ?_⟩
        obtain ⟨s3, ny, yn3, isd3⟩ := n3
        have gD3 := s3 _ _ gD
        refine ⟨_, gD3, by rw [List.length_map]; omega, fun b u e => (upd_ne (ne_of_none e hD)).trans ((s2.trans s3) b u e), ys ++ [y], by rw [upd_same, List.map_append]; rfl, by rw [List.length_append]; show ys.length + 1 = i + 1; omega, ?_⟩
        have et : (as.take (i + 1)).map (rnA g) = (as.take i).map (rnA g) ++ [rnA g as[i]] := by rw [List.take_add_one, List.getElem?_eq_getElem li, List.map_append]; rfl
        rw [et]
        have kl : KL H3 (upd H3 D (.lst (ys.map V.ref ++ [.ref y]))) := (KL.refl H3).put gD3
        exact ((ay.same s3).kl kl).app (one_at (isd3.kl kl))
      · rintro H2 ⟨s2, ys, gD, ly, ay⟩
        rw [List.length_map, al.1, List.take_length] at ay
        exact k _ H2 s2 ⟨D, ys, rfl, .inl (SqL.of gD), ay⟩
end
end K07

set_option Elab.async false
set_option linter.all false
set_option maxRecDepth 100000
set_option maxHeartbeats 4000000
/-! Two names for one are refused. -/
namespace K07
open PySem L2 NX NU
open PyProof.Rows (sortedS)
abbrev sCr : Stmt := top 70
theorem scCr : FnScope ["renames", "taken", "index"] ["renames"] (defScope sCr) := ⟨rfl, rfl, rfl, by decide +kernel, rfl, by decide +kernel, by decide +kernel⟩
theorem sorted_perm {a b : List Str} (h : sortedS a = true) (k : sortedS b = true) (p : a.Perm b) : a = b := List.Perm.eq_of_pairwise (le := NX.leS) (fun _ _ _ _ h1 h2 => NX.leS_anti h1 h2) (NX.sorted_pw h) (NX.sorted_pw k) p
/-- the first of texts that is the one ahead of it -/
def dup1 : List Str → Option Str
  | a :: b :: r => if b = a then some b else dup1 (b :: r)
  | _ => none
theorem dup1_step {ts : List Str} {i : Nat} {a b : Str} (ha : ts[i]? = some a) (hb : ts[i + 1]? = some b) : dup1 (ts.drop i) = if b = a then some b else dup1 (ts.drop (i + 1)) := by
  obtain ⟨h1, rfl⟩ := List.getElem?_eq_some_iff.mp ha
  obtain ⟨h2, rfl⟩ := List.getElem?_eq_some_iff.mp hb
  rw [List.drop_eq_getElem_cons h1, List.drop_eq_getElem_cons h2]
  rfl
theorem dup1_end {ts : List Str} {i : Nat} (h : ts.length ≤ i + 1) : dup1 (ts.drop i) = none := by
  have l : (ts.drop i).length ≤ 1 := by rw [List.length_drop]; omega
  match e : ts.drop i, l with
  | [], _ => rfl
  | [_], _ => rfl
  | _ :: _ :: _, l => simp at l
theorem dup1_none : ∀ {ts : List Str}, ts.Pairwise NX.leS → dup1 ts = none → ts.Nodup
  | [], _, _ => List.nodup_nil
  | [a], _, _ => by simp
  | a :: b :: r, h, e => by
    unfold dup1 at e
    split at e
    · cases e
    · rename_i ne
      rw [List.pairwise_cons] at h
      have ih := dup1_none h.2 e
      rw [List.nodup_cons]
      refine ⟨fun m => ?_, ih⟩
      rcases List.mem_cons.mp m with q | q
      · exact ne q.symm
      · have h2 := (List.pairwise_cons.mp h.2).1 a q
        exact ne (NX.leS_anti h2 (h.1 b List.mem_cons_self))
/-- the error classes -/
structure C7 where
  n : Addr
  t : Addr
/-- what is refused: a value that is no name; a name for two -/
inductive F7
  | nam (v : V)
  | twi (z : Str)
def Ends7 (c : C7) (H : Hp) (E : XK) (ok : Prop) : Option F7 → Prop
  | .none => ok
  | .some (.nam v) => ∀ d H', Told H d "value" v H' → E (.ref c.n) (some d) H'
  | .some (.twi z) => ∀ d H', Told H d "name" (.str z) H' → E (.ref c.t) (some d) H'
def spCr (c : C7) : Sp := fun vs H Q E => ∃ (rn : Addr) (ws : List Str) (f : Str → Str), vs = [.ref rn] ∧ H rn = some (.dK (rnK ws f)) ∧ ws.length < 64 ∧
  ∀ ts : List Str, sortedS ts = true → ts.Perm (ws.map f) → Ends7 c H E (∀ H', Same H H' → Q .non H') ((dup1 ts).map F7.twi)
section
variable {P : Program} {w : World} {K : PySem.W.Frag} {mg : Str → Option Value} {base : Heap}
theorem ok_cr {c : C7} {iT : Addr} {f : Addr} {fd : FuncData} (F : Fun K "check_renames" "check_renames" sCr f fd) (T : TxtB mg) (TA : TxtA mg) (BT : ErrC P w K mg base "Twice" "name" c.t iT) : FnOk P w K mg base (L2N.CX P w) 3 f fd ["renames"] (spCr c) := by
  obtain ⟨fdT, FT, hbT⟩ := BT.ok
  refine NN.okN F scCr (fun vs H Q E h => ?_) (fun cdv A outer s H vs Q E hr h => ?_)
  · obtain ⟨rn, ws, g, rfl, _⟩ := h
    rfl
  · obtain ⟨rn, ws, g, rfl, gr, few, k⟩ := h
    refine ⟨_, (pss_cons (ps_set (i := 1) scCr.nd rfl (Or.inl rfl) (pe_callBK (NSK.cr_sortedKS rfl) (by rfl) TA.bsorted (by decide +kernel) (pa_cons (NZ.pe_listVals rfl (by rfl) T.blist (pv 0)) pa_nil) (pk_cons (pe_bltn (v := .ty "str") (by rfl) T.bstr (by decide +kernel) rfl) pk_nil)))
      (pss_one (ps_for (passes_of rfl) rfl (pi_range2 (by rfl) T.brange (pa_cons pe_int (pa_cons (pe_callB call_len_seq (by rfl) T.blen (by decide +kernel) (pa_cons (pv 1) pa_nil)) pa_nil))) (pg_name (i := 2) scCr.nd rfl (Or.inl rfl))
        (pss_one (ps_if (pt_cmpR op_eq (pe_ix ix_list (pv 1) (pv 2) (fun _ _ => rfl)) (pe_ix ix_list (pv 1) (pe_op op_sub (pv 2) pe_int) (fun _ _ => rfl)) (nomark _)) (pss_one (L2N.ps_raise rfl (L2N.takes_of rfl rfl rfl rfl) (NN.pmkN BT.O BT.i BT.t FT (hr.mono (by decide)) hbT pass0 rfl BT.g (pa_cons (pe_ix ix_list (pv 1) (pv 2) (fun _ _ => rfl)) pa_nil)))) pss_nil))))), ?_⟩
    have low : (1000 : Nat) ≤ sizeLine := by decide
    refine ⟨_, rfl, rn, _, rfl, gr, fun L hL => ?_⟩
    have s1 := Same.new (o := HO.lst ((rnK ws g).map (·.2))) hL
    have gL : upd H L (HO.lst ((rnK ws g).map (·.2))) L = some (.lst ((ws.map g).map V.str)) := by rw [upd_same]; unfold rnK; rw [List.map_map, List.map_map]; rfl
    generalize upd H L (HO.lst ((rnK ws g).map (·.2))) = H1 at *
    refine ⟨L, ws.map g, rfl, rfl, .inl (SqL.of gL), by rw [List.length_map]; exact few, fun ts p pm so hp => ?_⟩
    have s2 := s1.trans (Same.new (o := HO.lst (ts.map V.str)) hp)
    have gp : upd H1 p (HO.lst (ts.map V.str)) p = some (.lst (ts.map V.str)) := upd_same
    generalize upd H1 p (HO.lst (ts.map V.str)) = H2 at *
    have k := k ts so pm
    have lt : ts.length < 64 := by rw [pm.length_eq, List.length_map]; exact few
    refine ⟨_, rfl, p, _, rfl, .inl (SqL.of gp), _, _, rfl, by rw [List.length_map]; omega, ?_⟩
    have en : (((ts.map V.str).length : Int) - 1).toNat = ts.length - 1 := by rw [List.length_map]; omega
    rw [en]
    refine for_range (lo := 1) (n := ts.length - 1) (fun i σ H' => Same H2 H' ∧ dup1 (ts.drop i) = dup1 ts ∧ ∃ x2, σ = [some (.ref rn), some (.ref p), x2]) ⟨Same.refl H2, by rw [List.drop_zero], _, rfl⟩ (fun i σ H3 hi ⟨s3, ed, x2, eσ⟩ => ?_) (fun σ H3 ⟨s3, ed, x2, eσ⟩ => ?_)
    · subst eσ
      have e1 : (1 : Int) + (i : Int) = ((i + 1 : Nat) : Int) := by omega
      rw [e1]
      have ha : ts[i]? = some ts[i] := List.getElem?_eq_getElem (by omega)
      have hb : ts[i + 1]? = some ts[i + 1] := List.getElem?_eq_getElem (by omega)
      have st := dup1_step ha hb
      rw [ed] at st
      have gp3 := s3 _ _ gp
      refine ⟨_, rfl, _, rfl, p, _, ((i + 1 : Nat) : Int), .str ts[i + 1], rfl, rfl, SqL.of gp3, atI_nat (by rw [List.getElem?_map, hb]; rfl), ?_⟩
      refine ⟨_, rfl, _, rfl, _, _, rfl, rfl, p, _, ((i : Nat) : Int), .str ts[i], rfl, congrArg V.int (show ((i + 1 : Nat) : Int) - 1 = ((i : Nat) : Int) by omega), SqL.of gp3, atI_nat (by rw [List.getElem?_map, ha]; rfl), rfl, _, rfl, ?_⟩
      by_cases eq : ts[i + 1] = ts[i]
      · rw [if_pos eq] at st
        rw [st] at k
        rw [decide_eq_true (congrArg V.str eq)]
        refine iteT ⟨_, rfl, _, rfl, p, _, ((i + 1 : Nat) : Int), .str ts[i + 1], rfl, rfl, SqL.of gp3, atI_nat (by rw [List.getElem?_map, hb]; rfl), mkO_of BT.O BT.v fun d2 H4 t => k d2 H4 (t.old (s2.trans s3))⟩
      · rw [if_neg eq] at st
        rw [decide_eq_false (fun z => eq (by injection z))]
        exact iteF ⟨s3, st.symm, _, rfl⟩
    · subst eσ
      have z : dup1 ts = none := by rw [← ed]; exact dup1_end (by omega)
      rw [z] at k
      exact k H3 (s2.trans s3)
end
end K07

set_option Elab.async false
set_option linter.all false
set_option maxRecDepth 100000
set_option maxHeartbeats 4000000
/-! A program by other names: what is asked of it. -/
namespace K07
open PySem PySem.Spec L2 NX NU
open PyProof.Rows (sortedS risingS)
theorem leS_total (a b : Str) : NX.leS a b ∨ NX.leS b a := List.le_total _ _
instance (a b : Str) : Decidable (NX.leS a b) := inferInstanceAs (Decidable (a.cps.toList ≤ b.cps.toList))
/-- texts in their order -/
def srt (l : List Str) : List Str := l.mergeSort fun a b => decide (NX.leS a b)
theorem srt_perm (l : List Str) : (srt l).Perm l := List.mergeSort_perm l _
theorem pw_rising : ∀ (p : Str) (l : List Str), (p :: l).Pairwise NX.leS → risingS p l = true
  | _, [], _ => rfl
  | p, x :: r, h => by
    have a := (List.pairwise_cons.mp h).1 x List.mem_cons_self
    have ih := pw_rising x r (List.pairwise_cons.mp h).2
    show (!ltCps x.cps.toList p.cps.toList && risingS x r) = true
    rw [ih, PyProof.Rows.ltCps_eq, decide_eq_false (List.not_lt.mpr a)]
    rfl
theorem pw_sorted : ∀ {l : List Str}, l.Pairwise NX.leS → sortedS l = true
  | [], _ => rfl
  | x :: r, h => pw_rising x r h
theorem srt_sorted (l : List Str) : sortedS (srt l) = true := by
  refine pw_sorted ?_
  have h := List.pairwise_mergeSort (le := fun a b => decide (NX.leS a b)) (fun a b c h1 h2 => decide_eq_true (NX.leS_trans (of_decide_eq_true h1) (of_decide_eq_true h2))) (fun a b => by
    rcases leS_total a b with h | h
    · simp [h]
    · simp [h]) l
  exact h.imp fun h => of_decide_eq_true h
theorem srt_of {ys xs : List Str} (h : sortedS ys = true) (p : ys.Perm xs) : ys = srt xs := sorted_perm h (srt_sorted xs) (p.trans (srt_perm xs).symm)
/-! the deeds of a program by other names -/
def rnL (f : Str → Str) (as : List Act) : List Act := as.map (rnA f)
def Prg.rn (g : Prg) (f : Str → Str) : Prg := ⟨rnL f g.a, g.l.map (rnL f), rnL f g.b, g.s.map (rnL f), rnL f g.h⟩
def Tol.rn (t : Tol) (f : Str → Str) : Tol := ⟨t.g.rn f, t.us.map f, t.ag.map fun q => (f q.1, q.2), t.rs.map f⟩
theorem rn_getD (o : Option (List Act)) (f : Str → Str) : (o.map (rnL f)).getD [] = rnL f (o.getD []) := by cases o <;> rfl
theorem rn_acts (g : Prg) (f : Str → Str) : (g.rn f).acts = rnL f g.acts := by
  rw [acts_eq, acts_eq]
  show rnL f g.a ++ (g.l.map (rnL f)).getD [] ++ rnL f g.b ++ (g.s.map (rnL f)).getD [] ++ rnL f g.h = _
  rw [rn_getD, rn_getD]
  unfold rnL
  simp only [List.map_append]
theorem rn_at (g : Prg) (f : Str → Str) : ∀ i, (g.rn f).at i = (g.at i).map (rnL f)
  | 0 | 1 | 2 | 3 | n + 4 => rfl
theorem rn_len (f : Str → Str) (as : List Act) : (rnL f as).length = as.length := List.length_map _
theorem rn_ns (f : Str → Str) (a : Act) : ∀ z, z ∈ Act.ns (rnA f a) ↔ z ∈ (Act.ns a).map f := fun z => by
  rw [mem_ns]
  constructor
  · rintro (h | h)
    · obtain ⟨y, hy, rfl⟩ := List.mem_map.mp h
      exact List.mem_map_of_mem (mem_ns.mpr (.inl hy))
    · have h : a.1.map f = some z := h
      obtain ⟨m, hm, rfl⟩ := Option.map_eq_some_iff.mp h
      exact List.mem_map_of_mem (mem_ns.mpr (.inr hm))
  · intro h
    obtain ⟨y, hy, rfl⟩ := List.mem_map.mp h
    rcases mem_ns.mp hy with q | q
    · exact .inl (List.mem_map_of_mem q)
    · refine .inr ?_
      show a.1.map f = some (f y)
      rw [q]
      rfl
theorem rn_actsN (f : Str → Str) (as : List Act) : ∀ z, z ∈ actsN (rnL f as) ↔ z ∈ (actsN as).map f := fun z => by
  unfold actsN rnL
  rw [List.mem_flatten, List.mem_map]
  constructor
  · rintro ⟨l, hl, hz⟩
    rw [List.map_map] at hl
    obtain ⟨a, ha, rfl⟩ := List.mem_map.mp hl
    obtain ⟨y, hy, rfl⟩ := List.mem_map.mp ((rn_ns f a z).mp hz)
    exact ⟨y, List.mem_flatten.mpr ⟨_, List.mem_map_of_mem ha, hy⟩, rfl⟩
  · rintro ⟨y, hy, rfl⟩
    obtain ⟨l, hl, hy⟩ := List.mem_flatten.mp hy
    obtain ⟨a, ha, rfl⟩ := List.mem_map.mp hl
    exact ⟨_, List.mem_map_of_mem (List.mem_map_of_mem ha), (rn_ns f a (f y)).mpr (List.mem_map_of_mem hy)⟩
theorem rn_words (t : Tol) (f : Str → Str) : ∀ z, z ∈ (t.rn f).words ↔ z ∈ t.words.map f := fun z => by
  unfold Tol.words
  show z ∈ t.us.map f ++ (t.ag.map fun q => (f q.1, q.2)).map (·.1) ++ t.rs.map f ++ actsN (t.g.rn f).acts ↔ _
  rw [rn_acts, List.map_append, List.map_append, List.map_append, List.mem_append, List.mem_append, List.mem_append, List.mem_append, List.mem_append, List.mem_append, rn_actsN, List.map_map, List.map_map]
  exact Iff.rfl
theorem aft_rn (f : Str → Str) (kn : List Str) (as : List Act) : aft (kn.map f) (rnL f as) = (aft kn as).map f := by
  unfold aft rnL
  rw [List.map_append, List.map_map, List.map_flatten, List.map_map]
  congr 2
  refine List.map_congr_left fun a _ => ?_
  show (a.1.map f).toList = a.1.toList.map f
  cases a.1 <;> rfl
theorem uses_rn {ws : List Str} {f : Str → Str} (r : ∀ y ∈ ws, ∀ z ∈ ws, f y = f z → y = z) {ag : List Str} (hag : ∀ z ∈ ag, z ∈ ws) : ∀ {as : List Act} {kn : List Str}, (∀ z ∈ actsN as, z ∈ ws) → UsesOk ag kn as → UsesOk (ag.map f) (kn.map f) (rnL f as)
  | [], _, _, _ => trivial
  | a :: as, kn, hin, h => by
    refine ⟨fun z hz => ?_, fun m hm => ?_, ?_⟩
    · obtain ⟨y, hy, rfl⟩ := List.mem_map.mp hz
      exact List.mem_map_of_mem (h.1 y hy)
    · have hm : a.1.map f = some m := hm
      obtain ⟨y, hy, rfl⟩ := Option.map_eq_some_iff.mp hm
      intro hz
      obtain ⟨q, hq, e⟩ := List.mem_map.mp hz
      have yw : y ∈ ws := hin y (actsN_at List.mem_cons_self (by rw [hy]; exact List.mem_cons_self))
      rw [r q (hag q hq) y yw e] at hq
      exact h.2.1 y hy hq
    · have ih := uses_rn r hag (as := as) (kn := kn ++ a.1.toList) (fun z hz => hin z (by
        unfold actsN at hz ⊢
        rw [List.map_cons, List.flatten_cons]
        exact List.mem_append_right _ hz)) h.2.2
      rw [List.map_append] at ih
      have e : a.1.toList.map f = (rnA f a).1.toList := by
        show _ = (a.1.map f).toList
        cases a.1 <;> rfl
      rw [e] at ih
      exact ih
theorem last_rn (g : Prg) (f : Str → Str) (bs : List Str) : ∀ i, (g.rn f).lastAt (bs.map f) i = (g.lastAt bs i).map f
  | 0 => rfl
  | n + 1 => by
    have ih := last_rn g f bs n
    unfold Prg.lastAt
    by_cases c : n = 1 ∨ n = 3
    · rw [if_pos c, if_pos c, ih]
    · rw [if_neg c, if_neg c, ih, rn_at, rn_getD, aft_rn]
theorem ok_rn {t : Tol} {ws : List Str} {f : Str → Str} (ok : t.Ok) (hw : ∀ z ∈ t.words, z ∈ ws) (r : RnOk ws f) : (t.rn f).Ok := by
  have iu : ∀ z ∈ t.us, z ∈ ws := fun z hz => hw z (by unfold Tol.words; simp [hz])
  have ir : ∀ z ∈ t.rs, z ∈ ws := fun z hz => hw z (by unfold Tol.words; simp [hz])
  have ia : ∀ z ∈ t.ag.map (·.1), z ∈ ws := fun z hz => hw z (by unfold Tol.words; rw [List.mem_append, List.mem_append, List.mem_append]; exact .inl (.inl (.inr hz)))
  have ig : ∀ z ∈ actsN t.g.acts, z ∈ ws := fun z hz => hw z (by unfold Tol.words; rw [List.mem_append]; exact .inr hz)
  obtain ⟨pool, hp, h6⟩ := ok.six
  obtain ⟨sza, szl, szb, szs, szh, szall⟩ := ok.sizes
  have ek : ((t.rn f).ag.map (·.1)) = (t.ag.map (·.1)).map f := by
    show (t.ag.map fun q => (f q.1, q.2)).map (·.1) = _
    rw [List.map_map, List.map_map]
    rfl
  refine ⟨⟨fun e => ?_, fun e => ?_⟩, ⟨by show (rnL f t.g.a).length ≤ 200; rw [rn_len]; exact sza, by show ((t.g.l.map (rnL f)).getD []).length ≤ 24; rw [rn_getD, rn_len]; exact szl, by show (rnL f t.g.b).length ≤ 24; rw [rn_len]; exact szb, by show ((t.g.s.map (rnL f)).getD []).length ≤ 24; rw [rn_getD, rn_len]; exact szs, by show (rnL f t.g.h).length ≤ 24; rw [rn_len]; exact szh, by show (rnL f t.g.a).length + (rnL f t.g.b).length + (rnL f t.g.h).length ≤ 200; rw [rn_len, rn_len, rn_len]; exact szall⟩,
    ⟨fun z hz => ?_, nodup_inj r.inj ok.us.nr iu, by show (t.us.map f).length < 60; rw [List.length_map]; exact ok.us.few⟩, ⟨fun q hq => ?_, fun q hq => ?_, fun q hq => ?_, by show (t.ag.map _).length < 60; rw [List.length_map]; exact ok.ag.few, by rw [ek]; exact nodup_inj r.inj ok.ag.nd ia⟩, ⟨fun z hz => ?_, nodup_inj r.inj ok.rs.nr ir, by show (t.rs.map f).length < 60; rw [List.length_map]; exact ok.rs.few⟩, ⟨pool.map f, fun z hz => ?_, by rw [List.length_map]; exact h6⟩, ?_, ⟨fun i i5 => ?_, fun z hz => ?_⟩⟩
  · have e : t.g.l.map (rnL f) = none := e
    obtain ⟨h1, h2, h3⟩ := ok.shape.l (Option.map_eq_none_iff.mp e)
    exact ⟨by show rnL f t.g.b = []; rw [h1]; rfl, by show t.g.s.map (rnL f) = none; rw [h2]; rfl, by show rnL f t.g.h = []; rw [h3]; rfl⟩
  · have e : t.g.s.map (rnL f) = none := e
    show rnL f t.g.b = []
    rw [ok.shape.s (Option.map_eq_none_iff.mp e)]
    rfl
  · obtain ⟨y, hy, rfl⟩ := List.mem_map.mp hz
    exact r.nm_ y (iu y hy)
  · obtain ⟨y, hy, rfl⟩ := List.mem_map.mp hq
    exact r.nm_ y.1 (ia y.1 (List.mem_map_of_mem hy))
  · obtain ⟨y, hy, rfl⟩ := List.mem_map.mp hq
    exact ok.ag.lo y hy
  · obtain ⟨y, hy, rfl⟩ := List.mem_map.mp hq
    exact ok.ag.hi y hy
  · obtain ⟨y, hy, rfl⟩ := List.mem_map.mp hz
    exact r.nm_ y (ir y hy)
  · obtain ⟨y, hy, rfl⟩ := List.mem_map.mp ((rn_words t f z).mp hz)
    exact List.mem_map_of_mem (hp y hy)
  · show (t.us.map f).length + (t.ag.map _).length + (t.rs.map f).length + 4 * (t.g.rn f).acts.length ≤ 1000
    rw [rn_acts, rn_len, List.length_map, List.length_map, List.length_map]
    exact ok.size
  · have e : (t.rn f).us ++ (t.rn f).ag.map (·.1) = (t.us ++ t.ag.map (·.1)).map f := by rw [ek, List.map_append]; rfl
    rw [e, ek]
    show UsesOk _ ((t.g.rn f).lastAt ((t.us ++ t.ag.map (·.1)).map f) i) (((t.g.rn f).at i).getD [])
    rw [last_rn, rn_at, rn_getD]
    refine uses_rn r.inj ia (fun z hz => ig z ?_) (ok.v.uses i i5)
    rw [acts5]
    rcases five i5 with rfl | rfl | rfl | rfl | rfl
    · exact .inl hz
    · exact .inr (.inl hz)
    · exact .inr (.inr (.inl hz))
    · exact .inr (.inr (.inr (.inl hz)))
    · exact .inr (.inr (.inr (.inr hz)))
  · have e : (t.rn f).us ++ (t.rn f).ag.map (·.1) = (t.us ++ t.ag.map (·.1)).map f := by rw [ek, List.map_append]; rfl
    obtain ⟨y, hy, rfl⟩ := List.mem_map.mp (show z ∈ t.rs.map f from hz)
    rw [e]
    show f y ∈ (t.g.rn f).lastAt ((t.us ++ t.ag.map (·.1)).map f) 5
    rw [last_rn]
    exact List.mem_map_of_mem (ok.v.res y hy)
end K07

set_option Elab.async false
set_option linter.all false
set_option maxRecDepth 100000
set_option maxHeartbeats 4000000
/-! name = {k: v for ..} on one line, the name a local. -/
namespace NZ7
open PySem PySem.Spec PyProof.Rows L2
section
variable {X : Cx}
theorem ps_setDc {i : Nat} {y : Str} {py : Pos} {kx vx tg iter : Expr} {ifs : List Expr} {scope : Scope} {own : List (Str × Nat)} {pos spos : Pos} {wi : TI} {g : TG} {tt : TT} {tk tv : TE} (hc : X.calm = true) (hN : X.N.Nodup) (hy : X.N[i]? = some y) (hyl : X.env.scope.names.lookup y = some .local)
    (hsw : swapsWith (.DictComp kx vx [⟨tg, iter, ifs, 0⟩] scope pos) (some (.Name y py)) spos.line X.env = pure true) (hi : PI X tg iter wi) (ok : BlkOk X.N X.env.scope scope own)
    (hg : ∀ (s : Shared) (H : Hp) (C : Addr) (cl : List (Str × Addr)) (fp : List Addr), PG (X.blk s H scope (compEnvC scope cl C X.env) fp) tg g) (ht : ∀ (s : Shared) (H : Hp) (C : Addr) (cl : List (Str × Addr)) (fp : List Addr), PTs (X.blk s H scope (compEnvC scope cl C X.env) fp) ifs tt)
    (hk : ∀ (s : Shared) (H : Hp) (C : Addr) (cl : List (Str × Addr)) (fp : List Addr), PE (X.blk s H scope (compEnvC scope cl C X.env) fp) kx tk)
    (he : ∀ (s : Shared) (H : Hp) (C : Addr) (cl : List (Str × Addr)) (fp : List Addr), PE (X.blk s H scope (compEnvC scope cl C X.env) fp) vx tv) (hs : ∀ x, foldedSetIterable iter X.env x = pure x := by intro _; rfl) :
    PS X (.Assign [.Name y py] (.DictComp kx vx [⟨tg, iter, ifs, 0⟩] scope pos) spos) (tAsg (tDc wi g tt tk tv (own.map (·.2))) (gName i)) := by
  refine ⟨fun pins s σ H D I h => ?_⟩
  rw [exec_Assign_Name_used _ _ _ _ hsw]
  refine wpAny_bind (wpAny_standAt (wpAny_bind ?_))
  rw [arm_evalThenUse_DictComp]
  have h : tDc wi g tt tk tv (own.map (·.2)) σ H (fun x H1 => gName i x σ H1 D.nx) := h
  refine wpAny_bind (thn (dc_core (use := some (assign (.Name y py) X.env)) (Qf := fun _ s' => SP X pins D .next s') hc hN I hi ok hg ht hk he hs h fun L C s' m H' I' q hn f => ?_) fun _ s' hq => wpAny_pure (wpAny_pure hq))
  show wpAny _ _ (assign (.Name y py) X.env (.ref L)) _ _ _
  refine wpAny_assign_Name (store_ok2 (v := V.ref L) I' hN hy (.inl hyl) rfl (fun s2 I2 ⟨a, sb, ha⟩ => ?_) (.inr hyl))
  obtain ⟨f0, f1, f2, f3, f4, f5⟩ := f
  have haC : C ≠ a := by
    rcases ha with z | z
    · rw [z]; exact f1
    · exact fun e => f4 y a z e.symm
  refine ⟨m, hn.sameBut sb haC, fun h3 sb3 => ?_⟩
  exact ⟨_, H', I2.turned (t' := s2.toks) (fun b o hb e => (sb3.2 b hb).trans e) f0 f1 f3 f4 f5, q⟩
theorem sw_true {kx vx : Expr} {gs : List Comprehension} {scope : Scope} {pos py : Pos} {y : Str} {l : Nat} {env : Env} (hk : env.scope.kind = .function) (hy : env.scope.names.lookup y = some .local) (hl : (py.line == pos.line) = true)
    (ha : (scope.names.any fun (n, k) => n == y && (k == .local || k == .cell)) = false) : swapsWith (.DictComp kx vx gs scope pos) (some (.Name y py)) l env = pure true := by
  have ky : env.kindOf y = some .local := hy
  have hb : env.blockKind = .function := by unfold Env.blockKind; rw [hk]; rfl
  unfold swapsWith
  simp only [hb, ky, ha, Expr.pos, hl]
  rfl
end
end NZ7

set_option Elab.async false
set_option linter.all false
set_option maxRecDepth 100000
set_option maxHeartbeats 4000000
/-! Program.renamed. -/
namespace K07
open PySem PySem.Spec L2 NX NU
open PyProof.Rows (sortedS risingS)
abbrev sRnm : Stmt := inClass (top 66) 20
abbrev NRm : List Str := ["self", "names", "name", "renames", "parts", "part"]
theorem scRnm : FnScope NRm ["self", "names"] (defScope sRnm) := ⟨rfl, rfl, rfl, by decide +kernel, rfl, by decide +kernel, by decide +kernel⟩
/-! the table that is told -/
def tbK (l : List (Str × V)) : List (Key × V) := l.map fun q => (.inr q.1, q.2)
def nmV : V → Bool
  | .str z => nm z
  | _ => false
def tv (l : List (Str × V)) (z : Str) : Option V := valV (tbK l) (.inr z)
def tf (l : List (Str × V)) (z : Str) : Str := match tv l z with
  | some (.str w) => w
  | _ => z
def bad1 (l : List (Str × V)) : List Str → Option V
  | [] => none
  | z :: r => if nmV ((tv l z).getD .non) then bad1 l r else some ((tv l z).getD .non)
theorem bad1_step {l : List (Str × V)} {ys : List Str} {i : Nat} {z : Str} (h : ys[i]? = some z) : bad1 l (ys.drop i) = if nmV ((tv l z).getD .non) then bad1 l (ys.drop (i + 1)) else some ((tv l z).getD .non) := by
  obtain ⟨h1, rfl⟩ := List.getElem?_eq_some_iff.mp h
  rw [List.drop_eq_getElem_cons h1]
  rfl
theorem bad1_none {l : List (Str × V)} : ∀ {ys : List Str}, bad1 l ys = none → ∀ z ∈ ys, nmV ((tv l z).getD .non) = true
  | [], _, z, hz => by cases hz
  | y :: r, h, z, hz => by
    unfold bad1 at h
    split at h
    · rename_i c
      rcases List.mem_cons.mp hz with rfl | hz
      · exact c
      · exact bad1_none h z hz
    · cases h
structure TbOk (K : PySem.W.Frag) (H : Hp) (l : List (Str × V)) : Prop where
  nd : (l.map (·.1)).Nodup
  few : l.length < 64
  vals : ∀ q ∈ l, (∃ z, q.2 = .str z ∧ z.length ≤ 1000) ∨ ∀ H', Same H H' → NoStr K H' q.2
theorem TbOk.same {K : PySem.W.Frag} {H H' : Hp} {l : List (Str × V)} (s : Same H H') (h : TbOk K H l) : TbOk K H' l := ⟨h.nd, h.few, fun q hq => (h.vals q hq).imp id fun k H2 s2 => k H2 (s.trans s2)⟩
theorem tbK_keys (l : List (Str × V)) : (tbK l).map (·.1) = (l.map (·.1)).map Sum.inr := by
  unfold tbK
  rw [List.map_map, List.map_map]
  rfl
theorem tbK_nd {l : List (Str × V)} (nd : (l.map (·.1)).Nodup) : ((tbK l).map (·.1)).Nodup := by
  rw [tbK_keys]
  exact nd.map _ fun a b h => fun e => h (by injection e)
theorem tv_at {l : List (Str × V)} (nd : (l.map (·.1)).Nodup) {q : Str × V} (hq : q ∈ l) : tv l q.1 = some q.2 := val_nodup (tbK_nd nd) (.inr q.1, q.2) (List.mem_map_of_mem hq)
theorem tv_none {l : List (Str × V)} {z : Str} (h : z ∉ l.map (·.1)) : tv l z = none := by
  unfold tv
  cases e : valV (tbK l) (.inr z) with
  | none => rfl
  | some v =>
    exfalso
    have hm := valV_in e
    rw [tbK_keys] at hm
    obtain ⟨q, hq, e2⟩ := List.mem_map.mp hm
    injection e2 with e2
    exact h (e2 ▸ hq)
theorem tf_at {l : List (Str × V)} {z w : Str} (h : tv l z = some (.str w)) : tf l z = w := by
  unfold tf
  rw [h]
theorem tf_none {l : List (Str × V)} {z : Str} (h : tv l z = none) : tf l z = z := by
  unfold tf
  rw [h]
/-- what a table is refused with -/
def fault7 (l : List (Str × V)) (ns : List Str) : Option F7 := match bad1 l (srt (l.map (·.1))) with
  | some v => some (.nam v)
  | none => (dup1 (srt (ns.map (tf l)))).map F7.twi
theorem fault_bad {l : List (Str × V)} {ns : List Str} {v : V} (h : bad1 l (srt (l.map (·.1))) = some v) : fault7 l ns = some (.nam v) := by
  unfold fault7
  rw [h]
theorem fault_twi {l : List (Str × V)} {ns : List Str} (h : bad1 l (srt (l.map (·.1))) = none) : fault7 l ns = (dup1 (srt (ns.map (tf l)))).map F7.twi := by
  unfold fault7
  rw [h]
theorem map_inj_on {f : Str → Str} : ∀ {l : List Str}, (l.map f).Nodup → ∀ y ∈ l, ∀ z ∈ l, f y = f z → y = z
  | [], _, y, hy, _, _, _ => by cases hy
  | a :: l, h, y, hy, z, hz, e => by
    rw [List.map_cons, List.nodup_cons] at h
    rcases List.mem_cons.mp hy with e1 | hy2
    · rcases List.mem_cons.mp hz with e2 | hz2
      · rw [e1, e2]
      · exact absurd (List.mem_map.mpr ⟨z, hz2, by rw [← e, e1]⟩) h.1
    · rcases List.mem_cons.mp hz with e2 | hz2
      · exact absurd (List.mem_map.mpr ⟨y, hy2, by rw [e, e2]⟩) h.1
      · exact map_inj_on h.2 y hy2 z hz2 e
/-- each value is a name -/
theorem tv_good {l : List (Str × V)} (nd : (l.map (·.1)).Nodup) (hb : bad1 l (srt (l.map (·.1))) = none) (z : Str) : tv l z = none ∨ ∃ w, tv l z = some (.str w) ∧ nm w = true := by
  by_cases c : z ∈ l.map (·.1)
  · have h := bad1_none hb z ((srt_perm _).mem_iff.mpr c)
    obtain ⟨q, hq, rfl⟩ := List.mem_map.mp c
    rw [tv_at nd hq] at h ⊢
    refine .inr ?_
    cases e : q.2 with
    | str w =>
      rw [e] at h
      exact ⟨w, rfl, h⟩
    | _ => rw [e] at h; cases h
  · exact .inl (tv_none c)
theorem tv_or {l : List (Str × V)} (nd : (l.map (·.1)).Nodup) (hb : bad1 l (srt (l.map (·.1))) = none) (z : Str) : (tv l z).getD (.str z) = .str (tf l z) := by
  rcases tv_good nd hb z with h | ⟨w, h, _⟩
  · rw [tf_none h, h]; rfl
  · rw [tf_at h, h]; rfl
theorem tf_nm {l : List (Str × V)} (nd : (l.map (·.1)).Nodup) (hb : bad1 l (srt (l.map (·.1))) = none) {z : Str} (h : nm z = true) : nm (tf l z) = true := by
  rcases tv_good nd hb z with k | ⟨w, k, n⟩
  · rw [tf_none k]; exact h
  · rw [tf_at k]; exact n
theorem rn_of {l : List (Str × V)} {ns : List Str} (nd : (l.map (·.1)).Nodup) (hb : bad1 l (srt (l.map (·.1))) = none) (hd : dup1 (srt (ns.map (tf l))) = none) (hn : ns.Nodup) (hm : ∀ z ∈ ns, nm z = true) : RnOk ns (tf l) := by
  have h := dup1_none (NX.sorted_pw (srt_sorted (ns.map (tf l)))) hd
  exact ⟨hn, fun z hz => tf_nm nd hb (hm z hz), map_inj_on ((srt_perm _).nodup_iff.mp h)⟩
theorem fault_rn {l : List (Str × V)} {ns : List Str} (nd : (l.map (·.1)).Nodup) (h : fault7 l ns = none) (hn : ns.Nodup) (hm : ∀ z ∈ ns, nm z = true) : RnOk ns (tf l) := by
  cases hb : bad1 l (srt (l.map (·.1))) with
  | some v => rw [fault_bad hb] at h; cases h
  | none =>
    rw [fault_twi hb, Option.map_eq_none_iff] at h
    exact rn_of nd hb h hn hm
theorem words_nm {t : Tol} (ok : t.Ok) (lo : ∀ a ∈ t.g.acts, LotOk a.1 a.2) : ∀ z ∈ t.words, nm z = true := fun z hz => by
  unfold Tol.words at hz
  rw [List.mem_append, List.mem_append, List.mem_append] at hz
  rcases hz with ((k | k) | k) | k
  · exact ok.us.nm_ z k
  · obtain ⟨q, hq, rfl⟩ := List.mem_map.mp k
    exact ok.ag.nm_ q hq
  · exact ok.rs.nm_ z k
  · unfold actsN at k
    obtain ⟨s, hs, hz⟩ := List.mem_flatten.mp k
    obtain ⟨a, ha, rfl⟩ := List.mem_map.mp hs
    have la := lo a ha
    rcases mem_ns.mp hz with q | q
    · exact la.u.2 z q
    · exact la.m z q
/-! heaps -/
theorem sqL_kd {K : PySem.W.Frag} {H H' : Hp} {a : Addr} {xs : List V} (s : KD H H') (h : SqL K H a xs) : SqL K H' a xs := by
  rcases h with (h | ⟨o, h⟩) | h
  · exact .inl (.inl (s _ _ h (fun _ e => nomatch e)))
  · exact .inl (.inr ⟨o, s _ _ h (fun _ e => nomatch e)⟩)
  · exact .inr h
theorem all_kd {d : D3} {H H' : Hp} {xs : List Addr} {as : List Act} (s : KD H H') (h : AllAt d H xs as) : AllAt d H' xs as := ⟨h.1, fun i x a e1 e2 => (h.2 i x a e1 e2).imp fun _ q => q.kd s⟩
theorem InA.kd {K : PySem.W.Frag} {d : D3} {H H' : Hp} {v : V} {as : List Act} (s : KD H H') (h : InA K d H v as) : InA K d H' v as := by
  obtain ⟨p, xs, e, a, b⟩ := h
  exact ⟨p, xs, e, a.imp (sqL_kd s) (sqT_kd s), all_kd s b⟩
theorem InO.kd {K : PySem.W.Frag} {d : D3} {H H' : Hp} {v : V} (s : KD H H') : ∀ {o : Option (List Act)}, InO K d H v o → InO K d H' v o
  | none, h => h
  | some _, h => InA.kd s h
theorem kdPut {H : Hp} {D : Addr} {ys : List (Key × V)} {o : HO} (h : H D = some (.dK ys)) : KD H (upd H D o) := fun b u e n => by
  have ne : b ≠ D := fun z => by
    rw [z, h] at e
    exact n _ (Option.some.inj e).symm
  rw [upd_ne ne]
  exact e
/-! dict comprehensions -/
section
variable {J : It} {n : Nat} {G : Hp → Prop} {Y : Nat → Hp → V → Hp → Prop}
theorem dc_it (w : Walk J n G Y) {g : TG} {tt : TT} {tk tv : TE} {vs : List Nat} {σ : L2.St} {H1 : Hp} {D : Addr} {Qd : Hp → Prop} (Pv : Nat → Hp → Prop) (h0 : Pv 0 (upd H1 D (.dK []))) (hG : ∀ i H, i ≤ n → Pv i H → G H)
    (hs : ∀ i x H H', i < n → Pv i H → Y i H x H' → g x (wipe σ vs) H' fun σ2 H2 => wipe σ2 vs = wipe σ vs ∧ tt σ2 H2 fun b H3 =>
      if b = true then tk σ2 H3 fun y H4 => tv σ2 H4 fun z H5 => ∃ kvs k, y = kV k ∧ H5 D = some (.dK kvs) ∧ kvs.length < sizeLine ∧ Pv (i + 1) (upd H5 D (.dK (putK kvs k z))) else Pv (i + 1) H3) (hd : ∀ H, Pv n H → Qd H) :
    ∃ W : Nat → Nat → Hp → Prop, (∃ m, W 0 m (upd H1 D (.dK []))) ∧ ∀ i m H, W i m H →
      (J.stop i H ∧ Qd H) ∨ (J.go i H ∧ ∃ Nx : Hp → Prop, (∀ H', Nx H' → ∃ m', m' < m ∧ W (i + 1) m' H') ∧ ∀ x H', J.yld i H x H' → g x (wipe σ vs) H' fun σ2 H2 => wipe σ2 vs = wipe σ vs ∧ tt σ2 H2 fun b H3 =>
        if b = true then tk σ2 H3 fun y H4 => tv σ2 H4 fun z H5 => ∃ kvs k, y = kV k ∧ H5 D = some (.dK kvs) ∧ kvs.length < sizeLine ∧ Nx (upd H5 D (.dK (putK kvs k z))) else Nx H3) := by
  refine ⟨fun i m H => m = n - i ∧ i ≤ n ∧ Pv i H, ⟨n, by simp, Nat.zero_le _, h0⟩, ?_⟩
  rintro i m H ⟨rfl, hi, p⟩
  have q := hG i H hi p
  by_cases hlt : i < n
  · refine .inr ⟨w.goes i H hlt q, Pv (i + 1), fun H' p' => ⟨n - (i + 1), by omega, rfl, hlt, p'⟩, fun x H' y => hs i x H H' hlt p (w.yields i H x H' hlt q y)⟩
  · have e : i = n := by omega
    subst e
    exact .inl ⟨w.stops H q, hd H p⟩
end
theorem dcOf {wi : TI} {g : TG} {tt : TT} {tk tv : TE} {vs : List Nat} {σ : L2.St} {H : Hp} {Q : VK} (h : wi σ H fun J H1 => tDc (fun _ H R => R J H) g tt tk tv vs σ H1 Q) : tDc wi g tt tk tv vs σ H Q := h
theorem csA {t : TE} {ts : TA} {σ : L2.St} {H : Hp} {R : List V → Hp → Prop} (h : t σ H fun x H1 => ts σ H1 fun xs H2 => R (x :: xs) H2) : tCons t ts σ H R := h
theorem rn_new {ws : List Str} {f : Str → Str} {z : Str} (h : z ∉ ws) : valV (rnK ws f) (.inr z) = none := by
  cases e : valV (rnK ws f) (.inr z) with
  | none => rfl
  | some v =>
    exfalso
    have hm := valV_in e
    unfold rnK at hm
    rw [List.map_map] at hm
    obtain ⟨q, hq, e2⟩ := List.mem_map.mp hm
    have e2 : (Sum.inr q : Key) = .inr z := e2
    injection e2 with e2
    exact h (e2 ▸ hq)
theorem nd_take {ws : List Str} {i : Nat} {z : Str} (nd : ws.Nodup) (h : ws[i]? = some z) : z ∉ ws.take i := fun m => by
  obtain ⟨j, hj⟩ := List.getElem?_of_mem m
  have lj : j < i := by
    have := (List.getElem?_eq_some_iff.mp hj).1
    rw [List.length_take] at this
    omega
  rw [List.getElem?_take_of_lt lj] at hj
  have li := (List.getElem?_eq_some_iff.mp h).1
  have e := (List.getElem?_inj (i := j) (j := i) (by omega) nd).mp (hj.trans h.symm)
  omega
/-- {k: f(k) for k in names} -/
theorem dcTx {K : PySem.W.Frag} {p : Addr} {xs : List Str} {f : Str → Str} {v : Nat} {σ : L2.St} {H : Hp} {tk tv : TE} {Q : VK} (hS : SqT K H p (xs.map V.str)) (nd : xs.Nodup) (few : xs.length ≤ 1000)
    (elt : ∀ z ∈ xs, ∀ (H' : Hp) (R : VK), Same H H' → R (.str z) H' → tk ((wipe σ [v]).set v (some (.str z))) H' R) (elv : ∀ z ∈ xs, ∀ (H' : Hp) (R : VK), Same H H' → R (.str (f z)) H' → tv ((wipe σ [v]).set v (some (.str z))) H' R)
    (k : ∀ D H', Same H H' → H D = none → H' D = some (.dK (rnK xs f)) → Q (.ref D) H') :
    tDc (fun _ H R => R (Itt K p) H) (gName v) tYes tk tv [v] σ H Q := by
  intro D hD
  have low : (2000 : Nat) ≤ sizeLine := by decide
  refine dc_tup (xs := xs.map V.str) (fun i H' => Same H H' ∧ H' D = some (.dK (rnK (xs.take i) f))) ⟨Same.new hD, upd_same⟩ (fun i H' _ z => sqT_same z.1 hS) ?_ ?_
  · rintro i x H2 hx ⟨s2, gD⟩
    rw [List.getElem?_map] at hx
    obtain ⟨z, hz, rfl⟩ := Option.map_eq_some_iff.mp hx
    have mz := List.mem_of_getElem? hz
    refine ⟨?_, yesT (elt z mz H2 _ s2 (elv z mz H2 _ s2 ⟨_, .inr z, rfl, gD, by unfold rnK; rw [List.length_map, List.length_take]; omega, fun b o e => (upd_ne (ne_of_none e hD)).trans (s2 b o e), ?_⟩))⟩
    · show ((σ.set v none).set v _).set v none = σ.set v none
      rw [List.set_set, List.set_set]
    · rw [upd_same, putK_new _ (rn_new (nd_take nd hz)), List.take_add_one, hz]
      unfold rnK
      rw [List.map_append]
      rfl
  · rintro H2 ⟨s2, gD⟩
    rw [List.length_map, List.take_length] at gD
    exact k D H2 s2 hD gD
theorem agK_len (l : List (Str × Int)) : (agK l).length = l.length := by unfold agK; rw [List.length_map]
theorem agK_nd {l : List (Str × Int)} (h : (l.map (·.1)).Nodup) : ((agK l).map (·.1)).Nodup := by
  have e : (agK l).map (·.1) = (l.map (·.1)).map Sum.inr := by
    unfold agK
    rw [List.map_map, List.map_map]
    rfl
  rw [e]
  exact h.map _ fun a b h => fun e => h (by injection e)
/-- {f(k): d[k] for k in d} -/
theorem dcAg {H : Hp} {ag : Addr} {l : List (Str × Int)} {f : Str → Str} {v : Nat} {σ : L2.St} {td tk tv : TE} {Q : VK} (ea : AgD H ag l) (few : l.length ≤ 1000) (nd : ((l.map fun q => (f q.1, q.2)).map (·.1)).Nodup)
    (he : ∀ od R, R (.ref ag) (upd H ag (.frz od (.dK (agK l)))) → td σ (upd H ag (.frz od (.dK (agK l)))) R)
    (elt : ∀ od H' q (R : VK), q ∈ l → Same (upd H ag (.frz od (.dK (agK l)))) H' → R (.str (f q.1)) H' → tk ((wipe σ [v]).set v (some (.str q.1))) H' R)
    (elv : ∀ od H' q (R : VK), q ∈ l → Same (upd H ag (.frz od (.dK (agK l)))) H' → R (.int q.2) H' → tv ((wipe σ [v]).set v (some (.str q.1))) H' R)
    (k : ∀ D H', Same H H' → H D = none → AgD H' D (l.map fun q => (f q.1, q.2)) → Q (.ref D) H') :
    tLockE (tDc (iKeys td) (gName v) tYes tk tv [v]) σ H Q := by
  have low : (2000 : Nat) ≤ sizeLine := by decide
  refine ⟨ag, _, ea, trivial, fun od => ?_⟩
  refine he od _ ⟨ag, od, rfl, .inl ⟨agK l, upd_same, fun D hD => ?_⟩⟩
  have nD : D ≠ ag := fun e => by rw [e, upd_same] at hD; cases hD
  have hD0 : H D = none := by rw [upd_ne nD] at hD; exact hD
  refine dc_it walk_keys (fun i H' => Same (upd H ag (.frz od (.dK (agK l)))) H' ∧ AgD H' D ((l.take i).map fun q => (f q.1, q.2))) ⟨Same.new hD, upd_same⟩ (fun i H' _ z => z.1 _ _ upd_same) ?_ ?_
  · rintro i x H' H'' hi ⟨sP, dP⟩ ⟨rfl, ky, w, hk, rfl⟩
    unfold agK at hk
    rw [List.getElem?_map] at hk
    obtain ⟨q, hq, e⟩ := Option.map_eq_some_iff.mp hk
    cases e
    have mq := List.mem_of_getElem? hq
    have dP : _ = some (HO.dK (agK _)) := dP
    refine ⟨?_, yesT (elt od _ q _ mq sP (elv od _ q _ mq sP ⟨_, .inr (f q.1), rfl, dP, by rw [agK_len, List.length_map, List.length_take]; omega, samePut sP hD, ?_⟩))⟩
    · show ((σ.set v none).set v _).set v none = σ.set v none
      rw [List.set_set, List.set_set]
    · have fresh : f q.1 ∉ ((l.take i).map fun q => (f q.1, q.2)).map (·.1) := by
        have h2 := nd_take (i := i) (z := f q.1) nd (by rw [List.getElem?_map, List.getElem?_map, hq]; rfl)
        rw [← List.map_take, ← List.map_take] at h2
        exact h2
      show upd _ D _ D = some (HO.dK (agK _))
      rw [upd_same, putK_new _ (agOut fresh), List.take_add_one, hq, List.map_append]
      unfold agK
      rw [List.map_append]
      rfl
  · rintro H' ⟨sP, dP⟩
    rw [agK_len, List.take_length] at dP
    refine ⟨sP _ _ upd_same, ?_⟩
    refine k D _ (fun b o hb => ?_) hD0 ?_
    · by_cases e : b = ag
      · have ea : H ag = some (.dK (agK l)) := ea
        rw [e] at hb ⊢
        rw [upd_same, ← ea, hb]
      · rw [upd_ne e]
        exact sP _ _ (by rw [upd_ne e]; exact hb)
    · show upd _ ag _ D = _
      rw [upd_ne nD]
      exact dP
/-- the parts, a dict in the making -/
def prK (us : List V) : List (Key × V) := List.zipWith (fun z u => ((Sum.inr z : Key), u)) partN us
theorem pr_put {us : List V} {z : Str} (u : V) (h : partN[us.length]? = some z) : putK (prK us) (.inr z) u = prK (us ++ [u]) := by
  match us, h with
  | [], h => cases h; rfl
  | [_], h => cases h; rfl
  | [_, _], h => cases h; rfl
  | [_, _, _], h => cases h; rfl
  | [_, _, _, _], h => cases h; rfl
  | _ :: _ :: _ :: _ :: _ :: _, h => cases h
theorem at_sub {g : Prg} {i : Nat} {a : Act} (i5 : i < 5) (h : a ∈ (g.at i).getD []) : a ∈ g.acts := by
  rw [acts_eq, List.mem_append, List.mem_append, List.mem_append, List.mem_append]
  rcases five i5 with rfl | rfl | rfl | rfl | rfl
  · exact .inl (.inl (.inl (.inl h)))
  · exact .inl (.inl (.inl (.inr h)))
  · exact .inl (.inl (.inr h))
  · exact .inl (.inr h)
  · exact .inr h
theorem actsN_sub {as bs : List Act} (h : ∀ a ∈ as, a ∈ bs) : ∀ z ∈ actsN as, z ∈ actsN bs := actsN_mem h
/-- the names a program tells, as they stand in tuples -/
theorem ok_told {t : Tol} {gs rs : List Str} (ok : t.Ok) (ag : Asc gs t.us) (ar : Asc rs t.rs) : Tol.Ok ⟨t.g, gs, t.ag, rs⟩ := by
  have lg : gs.length ≤ t.us.length := nodupLen ag.2.1 fun z hz => (ag.2.2 z).mp hz
  have lr : rs.length ≤ t.rs.length := nodupLen ar.2.1 fun z hz => (ar.2.2 z).mp hz
  obtain ⟨pool, hp, h6⟩ := ok.six
  refine ⟨ok.shape, ok.sizes, ⟨fun z hz => ok.us.nm_ z ((ag.2.2 z).mp hz), ag.2.1, by have := ok.us.few; show gs.length < 60; omega⟩, ok.ag, ⟨fun z hz => ok.rs.nm_ z ((ar.2.2 z).mp hz), ar.2.1, by have := ok.rs.few; show rs.length < 60; omega⟩, ⟨pool, fun z hz => ?_, h6⟩, ?_, vok_mono (fun z hz => ?_) (fun z hz => (ar.2.2 z).mp hz) ok.v⟩
  · unfold Tol.words at hz
    dsimp only at hz
    rw [List.mem_append, List.mem_append, List.mem_append] at hz
    refine hp z ?_
    unfold Tol.words
    rw [List.mem_append, List.mem_append, List.mem_append]
    rcases hz with ((k | k) | k) | k
    · exact .inl (.inl (.inl ((ag.2.2 z).mp k)))
    · exact .inl (.inl (.inr k))
    · exact .inl (.inr ((ar.2.2 z).mp k))
    · exact .inr k
  · have := ok.size
    show gs.length + t.ag.length + rs.length + 4 * t.g.acts.length ≤ 1000
    omega
  · exact (List.mem_append.mp hz).elim (fun k => List.mem_append_left _ ((ag.2.2 z).mpr k)) fun k => List.mem_append_right _ k
def spRnm (K : PySem.W.Frag) (d : D3) (C : Addr) (c : C7) : Sp := fun vs H Q E => ∃ (x tn : Addr) (t : Tol) (l : List (Str × V)), vs = [.ref x, .ref tn] ∧ IsP K d H x C t ∧ t.Ok ∧ (∀ a ∈ t.g.acts, LotOk a.1 a.2) ∧ H tn = some (.dK (tbK l)) ∧ TbOk K H l ∧
  ∀ ns, Asc ns t.words → Ends7 c H E (∀ y H', Same H H' → IsP K d H' y C (t.rn (tf l)) → Q (.ref y) H') (fault7 l ns)
section
variable {P : Program} {w : World} {K : PySem.W.Frag} {mg : Str → Option Value} {base : Heap}
theorem ok_rnm {d : D3} {c : C7} {c6 : C6} {C fP iN : Addr} {fdP : FuncData} {t0 t1 t2 t3 t4 : Addr} {f : Addr} {fd : FuncData} (F : Fun K "renamed" "Program.renamed" sRnm f fd) (T : TxtB mg) (TA : TxtA mg) (TQ : TxtQ mg K) (BN : ErrC P w K mg base "BadName" "value" c.n iN) (cIs : C8.Cal P w K mg base 1 "is_name" (spIs K) [])
    (cCr : CalL P w K mg base 3 "check_renames" (spCr c)) (cRpt : C8.Cal P w K mg base 8 "renamed_part" (spRpt K d) []) (M : PME P w K mg base d c6 C fP fdP t0 t1 t2 t3 t4) : FnOk P w K mg base (L2N.CX P w) 9 f fd ["self", "names"] (spRnm K d C c) := by
  obtain ⟨fdN, FN, hbN⟩ := BN.ok
  refine NN.okN F scRnm (fun vs H Q E h => ?_) (fun cdv A outer s H vs Q E hr h => ?_)
  · obtain ⟨x, tn, t, l, rfl, _⟩ := h
    rfl
  · obtain ⟨x, tn, t, l, rfl, ip, ok, lo, gt, tb, k⟩ := h
    have hu := hu_of hr
    have pc := M.cls
    obtain ⟨tP, eP, sP⟩ := TQ.parts
    have kb := kb6 M.fd_
    refine ⟨_, (pss_cons (ps_for (passes_of rfl) rfl (pi_list (pe_callBK (NSK.cr_sortedKS rfl) (by rfl) TA.bsorted (by decide +kernel) (pa_cons (pv 1) pa_nil) (pk_cons (pe_bltn (v := .ty "str") (by rfl) T.bstr (by decide +kernel) rfl) pk_nil))) (pg_name (i := 2) scRnm.nd rfl (Or.inl rfl))
        (pss_one (ps_if (pt_not (pt_val (C8.pe_c cIs hr (by decide) rfl (pa_cons (pe_dget hu (pv 1) (pv 2) (fun _ _ => rfl)) pa_nil)))) (pss_one (L2N.ps_raise rfl (L2N.takes_of rfl rfl rfl rfl) (NN.pmkN BN.O BN.i BN.t FN (hr.mono (by decide)) hbN pass0 rfl BN.g (pa_cons (pe_dget hu (pv 1) (pv 2) (fun _ _ => rfl)) pa_nil)))) pss_nil)))
      (pss_cons (ps_set (i := 3) scRnm.nd rfl (Or.inr rfl) (pe_dc (own := [("name", 2)]) (g := gName 2) rfl scRnm.nd (pi_tup (pe_fld (pv 0) rfl)) (blkOk_by (own := [("name", 2)]) (N := NRm) (sc := defScope sRnm) (by decide +kernel)) (fun _ _ _ _ _ => pg_name (i := 2) scRnm.nd rfl (Or.inl rfl)) (fun _ _ _ _ _ => pts_nil)
          (fun _ _ _ _ _ => show PE _ _ (tVar 2) from pv 2) (fun _ _ _ _ _ => show PE _ _ (tDGet2 (tVar 1) (tVar 2) (tVar 2)) from pe_dget2 hu (pv 1) (pv 2) (pv 2) ⟨rfl, rfl, rfl, rfl⟩)))
      (pss_cons (ps_expr (pe_cL cCr hr (by decide) rfl (NN.passN (L2N.takes_of rfl rfl rfl rfl)) (pa_cons (pv 3) pa_nil)))
      (pss_cons (NZ7.ps_setDc (i := 4) (own := [("part", 5)]) (g := gName 5) rfl scRnm.nd rfl rfl (NZ7.sw_true rfl rfl rfl (by decide +kernel)) (pi_tup (pe_glob (v := .ref tP) rfl eP rfl)) (blkOk_by (own := [("part", 5)]) (N := NRm) (sc := defScope sRnm) (by decide +kernel)) (fun _ _ _ _ _ => pg_name (i := 5) scRnm.nd rfl (Or.inl rfl)) (fun _ _ _ _ _ => pts_nil)
          (fun _ _ _ _ _ => show PE _ _ (tVar 5) from pv 5) (fun _ _ _ _ _ => show PE _ _ (tCall (spRpt K d) [] C8.E0 (tCons (tDGet (tFld K (tVar 0) (Str.ofString "_parts")) (tVar 5)) (tCons (tVar 3) tNil))) from C8.pe_c cRpt hr (by decide) rfl (pa_cons (pe_dget hu (pe_fld (pv 0) rfl) (pv 5) (fun _ _ => rfl)) (pa_cons (pv 3) pa_nil))))
      (pss_one (ps_ret (pe_makeK (E := E) (ks := ["given", "again", "results"]) M.mak M.fn (hr.mono (by decide)) rfl M.g kb (NN.passN (L2N.takes_of rfl rfl rfl rfl)) (pa_cons (pe_dget hu (pv 4) pe_str (fun _ _ => rfl)) (pa_cons (pe_dget hu (pv 4) pe_str (fun _ _ => rfl)) (pa_cons (pe_dget hu (pv 4) pe_str (fun _ _ => rfl)) (pa_cons (pe_dget hu (pv 4) pe_str (fun _ _ => rfl)) (pa_cons (pe_dget hu (pv 4) pe_str (fun _ _ => rfl)) pa_nil)))))
        (pk_cons (pe_lc (own := [("name", 2)]) (g := gName 2) rfl scRnm.nd (pi_tup (pe_fld (pv 0) rfl)) (blkOk_by (own := [("name", 2)]) (N := NRm) (sc := defScope sRnm) (by decide +kernel)) (fun _ _ _ _ _ => pg_name (i := 2) scRnm.nd rfl (Or.inl rfl)) (fun _ _ _ _ _ => pts_nil) (fun _ _ _ _ _ => show PE _ _ (tDGet (tVar 3) (tVar 2)) from pe_dget hu (pv 3) (pv 2) (fun _ _ => rfl)))
        (pk_cons (pe_lock (pe_dc (own := [("name", 2)]) (g := gName 2) rfl scRnm.nd (pi_keys (pe_fld (pv 0) rfl)) (blkOk_by (own := [("name", 2)]) (N := NRm) (sc := defScope sRnm) (by decide +kernel)) (fun _ _ _ _ _ => pg_name (i := 2) scRnm.nd rfl (Or.inl rfl)) (fun _ _ _ _ _ => pts_nil)
          (fun _ _ _ _ _ => show PE _ _ (tDGet (tVar 3) (tVar 2)) from pe_dget hu (pv 3) (pv 2) (fun _ _ => rfl)) (fun _ _ _ _ _ => show PE _ _ (tDGet (tFld K (tVar 0) (Str.ofString "_again")) (tVar 2)) from pe_dget hu (pe_fld (pv 0) rfl) (pv 2) (fun _ _ => rfl))))
        (pk_cons (pe_lc (own := [("name", 2)]) (g := gName 2) rfl scRnm.nd (pi_tup (pe_fld (pv 0) rfl)) (blkOk_by (own := [("name", 2)]) (N := NRm) (sc := defScope sRnm) (by decide +kernel)) (fun _ _ _ _ _ => pg_name (i := 2) scRnm.nd rfl (Or.inl rfl)) (fun _ _ _ _ _ => pts_nil) (fun _ _ _ _ _ => show PE _ _ (tDGet (tVar 3) (tVar 2)) from pe_dget hu (pv 3) (pv 2) (fun _ _ => rfl)))
        pk_nil)))))))))), ?_⟩
    obtain ⟨dx, nt, Pd, gvt, ag, rt, ns, gs, rs, a, b, pd, e, f1, g, h1, h2, h3⟩ := ip.ex
    have k := k ns h1
    refine ⟨_, rfl, tn, l.map (·.1), rfl, rfl, .inr (.inr ⟨tbK l, .inl gt, tbK_keys l⟩), by rw [List.length_map]; exact tb.few, fun ys p pm so hp => ?_⟩
    obtain rfl := srt_of so pm
    have s1 : Same H (upd H p (.lst ((srt (l.map (·.1))).map V.str))) := Same.new hp
    have gp : (upd H p (.lst ((srt (l.map (·.1))).map V.str))) p = some (.lst ((srt (l.map (·.1))).map V.str)) := upd_same
    generalize (upd H p (.lst ((srt (l.map (·.1))).map V.str))) = H1 at *
    refine ⟨p, rfl, ⟨_, SqL.of gp⟩, ?_⟩
    refine for_list (xs := (srt (l.map (·.1))).map V.str) (fun i σ H' => H' = H1 ∧ bad1 l ((srt (l.map (·.1))).drop i) = bad1 l (srt (l.map (·.1))) ∧ ∃ y, σ = [some (.ref x), some (.ref tn), y, none, none, none]) ⟨rfl, by rw [List.drop_zero], _, rfl⟩ (fun i σ H' _ ⟨e, _⟩ => by rw [e]; exact SqL.of gp) (fun i x0 σ H' hx ⟨e0, ed, y, eσ⟩ => ?_) (fun σ H' ⟨e0, ed, y, eσ⟩ => ?_)
    · subst e0 eσ
      rw [List.getElem?_map] at hx
      obtain ⟨z, hz, rfl⟩ := Option.map_eq_some_iff.mp hx
      obtain ⟨q, hq, rfl⟩ := List.mem_map.mp ((srt_perm _).mem_iff.mp (List.mem_of_getElem? hz))
      have st := bad1_step (l := l) hz
      have tq := tv_at tb.nd hq
      rw [ed, tq] at st
      have dg : DGet H' tn (.str q.1) (some q.2) := by
        rw [← tq]
        exact DGet.k (k := .inr q.1) (s1 _ _ gt)
      refine ⟨_, rfl, _, rfl, tn, q.2, rfl, dg, ?_⟩
      cases cn : nmV q.2 with
      | true =>
        rw [show (some q.2).getD V.non = q.2 from rfl, cn, if_pos rfl] at st
        rcases (tb.same s1).vals q hq with ⟨z, ez, lz⟩ | hn
        · rw [ez] at cn
          have cn : nm z = true := cn
          refine ⟨_, rfl, .inl ⟨z, ez, lz, ?_⟩⟩
          rw [cn]
          exact ⟨_, rfl, iteF ⟨rfl, st.symm, _, rfl⟩⟩
        · cases eq : q.2 with
          | str z => exact (noStr_str (eq ▸ hn _ (Same.refl _))).elim
          | _ => rw [eq] at cn; cases cn
      | false =>
        rw [show (some q.2).getD V.non = q.2 from rfl, cn, if_neg (by decide)] at st
        rw [fault_bad st] at k
        rcases (tb.same s1).vals q hq with ⟨z, ez, lz⟩ | hn
        · rw [ez] at cn
          have cn : nm z = false := cn
          refine ⟨_, rfl, .inl ⟨z, ez, lz, ?_⟩⟩
          rw [cn]
          exact ⟨_, rfl, iteT ⟨_, rfl, _, rfl, tn, q.2, rfl, dg, mkO_of BN.O BN.v fun d2 H4 tt => k d2 H4 (tt.old s1)⟩⟩
        · exact ⟨_, rfl, .inr ⟨hn _ (Same.refl _), _, rfl, iteT ⟨_, rfl, _, rfl, tn, q.2, rfl, dg, mkO_of BN.O BN.v fun d2 H4 tt => k d2 H4 (tt.old s1)⟩⟩⟩
    · subst e0 eσ
      rw [List.length_map, List.drop_length] at ed
      have hb : bad1 l (srt (l.map (·.1))) = none := ed.symm
      rw [fault_twi hb] at k
      have a1 := s1 _ _ a
      have lns : ns.length ≤ 6 := by
        obtain ⟨pool, hp1, hp2⟩ := ok.six
        exact Nat.le_trans (nodupLen h1.2.1 fun z hz => hp1 z ((h1.2.2 z).mp hz)) hp2
      dsimp only
      refine sqA (dcOf ?_)
      refine ⟨_, rfl, x, C, dx, _, _, rfl, a1, pc.cl, pc.n1, rfl, nt, rfl, ⟨_, SqT.of (s1 _ _ b)⟩, ?_⟩
      refine dcTx (f := tf l) (SqT.of (s1 _ _ b)) h1.2.1 (by omega) (fun z hz H' R s2 q => ⟨_, rfl, q⟩) (fun z hz H' R s2 q => ⟨_, rfl, tn, rfl, .inl ⟨_, .inl (s2 _ _ (s1 _ _ gt))⟩, _, rfl, _, rfl, tv l z, DGet.k (k := .inr z) (s2 _ _ (s1 _ _ gt)), by rw [tv_or tb.nd hb z]; exact q⟩) (fun D H2 s2 nD gD => ?_)
      have s2 := s1.trans s2
      refine ⟨_, rfl, D, ns, tf l, rfl, gD, by omega, fun ts so2 pm2 => ?_⟩
      obtain rfl := srt_of so2 pm2
      cases hd : dup1 (srt (ns.map (tf l))) with
      | some z =>
        rw [hd] at k
        exact fun d2 H4 tt => k d2 H4 (tt.old s2)
      | none =>
        rw [hd] at k
        have ro : RnOk ns (tf l) := rn_of tb.nd hb hd h1.2.1 fun z hz => words_nm ok lo z ((h1.2.2 z).mp hz)
        intro H3 s3
        have gD3 := s3 _ _ gD
        have s3 := s2.trans s3
        have a3 := s3 _ _ a
        refine ⟨tP, rfl, ⟨_, sP _⟩, fun D2 hD2 => ?_⟩
        refine dc_tup (xs := partN.map V.str) (fun i H' => Same H3 H' ∧ ∃ us : List V, us.length = i ∧ H' D2 = some (.dK (prK us)) ∧ ∀ j u, us[j]? = some u → InO K d H' u ((t.g.rn (tf l)).at j)) ⟨Same.new hD2, [], rfl, upd_same, nofun⟩ (fun i H' _ _ => sP H') ?_ ?_
        · rintro i x0 H4 hz ⟨s4, us, lu, gD4, iu⟩
          rw [List.getElem?_map] at hz
          obtain ⟨z, hz2, rfl⟩ := Option.map_eq_some_iff.mp hz
          have i5 : i < 5 := (partF hz2).1
          have t4 := s3.trans s4
          obtain ⟨v, dg, pa⟩ := (pd.same t4).get i hz2
          have up := upto_le t.g (i + 1) (by omega)
          have eup : t.g.upto (i + 1) = t.g.upto i ++ (t.g.at i).getD [] := rfl
          rw [eup, List.length_append] at up
          have sz := ok.size
          refine ⟨rfl, yesT ?_⟩
          refine ⟨_, rfl, _, rfl, x, C, dx, _, _, rfl, s4 _ _ a3, pc.cl, pc.n2, rfl, _, rfl, Pd, v, rfl, dg, _, rfl, ?_⟩
          refine ⟨v, D, t.g.at i, ns, tf l, rfl, pa, fun a ha => lo a (at_sub i5 ha), by omega, s4 _ _ gD3, ro, fun z hz => (h1.2.2 z).mpr ?_, fun u H5 s5 io => ?_⟩
          · unfold Tol.words
            exact List.mem_append_right _ (actsN_mem (fun a ha => at_sub i5 ha) z hz)
          · have gD5 := s5 _ _ gD4
            have kd := kdPut (o := .dK (prK (us ++ [u]))) gD5
            refine ⟨prK us, .inr z, rfl, gD5, by
              have low : (2000 : Nat) ≤ sizeLine := (by decide)
              unfold prK
              rw [List.length_zipWith, lu]
              omega, ?_⟩
            rw [pr_put u (by rw [lu]; exact hz2)]
            refine ⟨fun b o e => (upd_ne (ne_of_none e hD2)).trans (s5 b o (s4 b o e)), us ++ [u], by rw [List.length_append, lu]; rfl, upd_same, fun j w hj => ?_⟩
            by_cases c : j < us.length
            · rw [List.getElem?_append_left c] at hj
              exact ((iu j w hj).same s5).kd kd
            · have lj := (List.getElem?_eq_some_iff.mp hj).1
              rw [List.length_append] at lj
              have lj : j < us.length + 1 := lj
              obtain rfl : j = us.length := by omega
              rw [List.getElem?_append_right (Nat.le_refl _), Nat.sub_self] at hj
              obtain rfl : u = w := Option.some.inj hj
              rw [rn_at, lu]
              exact io.kd kd
        · rintro H4 ⟨s4, us, lu, gD4, iu⟩
          have lu : us.length = 5 := lu
          obtain ⟨v0, v1, v2, v3, v4, rfl⟩ : ∃ v0 v1 v2 v3 v4, us = [v0, v1, v2, v3, v4] := by
            match us, lu with
            | [v0, v1, v2, v3, v4], _ => exact ⟨v0, v1, v2, v3, v4, rfl⟩
          have gD4 : H4 D2 = some (.dK (kvsP v0 v1 v2 v3 v4)) := gD4
          have u0 := iu 0 v0 rfl
          have u1 := iu 1 v1 rfl
          have u2 := iu 2 v2 rfl
          have u3 := iu 3 v3 rfl
          have u4 := iu 4 v4 rfl
          have t4 := s3.trans s4
          have gr4 := s4 _ _ gD3
          clear iu lu hD2
          have hin : ∀ z, z ∈ t.words → z ∈ ns := fun z hz => (h1.2.2 z).mpr hz
          have get : ∀ {H' : Hp} {z : Str}, Same H4 H' → z ∈ t.words → DGet H' D (.str z) (some (.str (tf l z))) := fun {H' z} s hz => .inl ⟨_, .inr z, .inl (s _ _ gr4), rfl, (rn_get h1.2.1 (hin z hz)).symm⟩
          refine ⟨_, rfl, D2, v0, rfl, DGet.k (k := .inr "ahead") gD4, ?_⟩
          refine ⟨_, rfl, D2, v1, rfl, DGet.k (k := .inr "loop") gD4, ?_⟩
          refine ⟨_, rfl, D2, v2, rfl, DGet.k (k := .inr "between") gD4, ?_⟩
          refine ⟨_, rfl, D2, v3, rfl, DGet.k (k := .inr "second") gD4, ?_⟩
          refine ⟨_, rfl, D2, v4, rfl, DGet.k (k := .inr "behind") gD4, ?_⟩
          dsimp only [tNil]
          show tCons _ _ [some (V.ref x), some (V.ref tn), y, some (V.ref D), some (V.ref D2), none] H4 _
          refine csA (lcOf ⟨_, rfl, x, C, dx, _, _, rfl, t4 _ _ a, pc.cl, pc.n3, rfl, gvt, rfl, ⟨_, SqT.of (t4 _ _ e)⟩, ?_⟩)
          have memg : ∀ z ∈ gs, z ∈ t.words := fun z hz => by
            unfold Tol.words
            simp [(h2.2.2 z).mp hz]
          have memr : ∀ z ∈ rs, z ∈ t.words := fun z hz => by
            unfold Tol.words
            simp [(h3.2.2 z).mp hz]
          have mema : ∀ q ∈ t.ag, q.1 ∈ t.words := fun q hq => by
            unfold Tol.words
            rw [List.mem_append, List.mem_append, List.mem_append]
            exact .inl (.inl (.inr (List.mem_map_of_mem hq)))
          have lg : gs.length ≤ ns.length := nodupLen h2.2.1 fun z hz => hin z (memg z hz)
          have lr : rs.length ≤ ns.length := nodupLen h3.2.1 fun z hz => hin z (memr z hz)
          refine lcTx (g := fun z => .str (tf l z)) (SqT.of (t4 _ _ e)) (by omega) (show 2 < 6 by decide) (fun z hz H' R s5 q => ⟨_, rfl, _, rfl, D, _, rfl, get s5 (memg z hz), q⟩) (fun G H5 s5 nG gG => ?_)
          have t5 := t4.trans s5
          have ag5 : AgD H5 ag t.ag := t5 _ _ f1
          have nda : ((t.ag.map fun q => (tf l q.1, q.2)).map (·.1)).Nodup := by
            rw [List.map_map]
            have := nodup_inj ro.inj ok.ag.nd fun z hz => hin z (by
              unfold Tol.words
              rw [List.mem_append, List.mem_append, List.mem_append]
              exact .inl (.inl (.inr hz)))
            rw [List.map_map] at this
            exact this
          refine csA (dcAg (f := tf l) ag5 (by have := ok.ag.few; omega) nda (fun od R r => ?_) (fun od H' q R hq s6 r => ?_) (fun od H' q R hq s6 r => ?_) (fun G2 H6 s6 nG2 gG2 => ?_))
          · have nx : x ≠ ag := fun z => by
              have h5 : H5 ag = some (HO.dK (agK t.ag)) := ag5
              rw [← z, t5 _ _ a] at h5
              cases h5
            exact ⟨_, rfl, x, C, dx, _, _, rfl, (upd_ne nx).trans (t5 _ _ a), pc.cl, pc.n4, rfl, r⟩
          · have nd : D ≠ ag := fun z => by
              have h5 : H ag = some (HO.dK (agK t.ag)) := f1
              have h5 := s1 _ _ h5
              rw [← z, nD] at h5
              cases h5
            have gd : H' D = some (.dK (rnK ns (tf l))) := s6 _ _ ((upd_ne nd).trans (s5 _ _ gr4))
            exact ⟨_, rfl, _, rfl, D, _, rfl, .inl ⟨_, .inr q.1, .inl gd, rfl, (rn_get h1.2.1 (hin _ (mema q hq))).symm⟩, r⟩
          · have nx : x ≠ ag := fun z => by
              have h5 : H5 ag = some (HO.dK (agK t.ag)) := ag5
              rw [← z, t5 _ _ a] at h5
              cases h5
            have ndk := agK_nd ok.ag.nd
            have mq : ((Sum.inr q.1 : Key), V.int q.2) ∈ agK t.ag := List.mem_map_of_mem (f := fun q : Str × Int => ((Sum.inr q.1 : Key), V.int q.2)) hq
            exact ⟨_, rfl, x, C, dx, _, _, rfl, s6 _ _ ((upd_ne nx).trans (t5 _ _ a)), pc.cl, pc.n4, rfl, _, rfl, ag, _, rfl, .inl ⟨_, .inr q.1, .inr ⟨od, s6 _ _ upd_same⟩, rfl, (val_nodup ndk _ mq).symm⟩, r⟩
          · have t6 := t5.trans s6
            refine csA (lcOf ⟨_, rfl, x, C, dx, _, _, rfl, t6 _ _ a, pc.cl, pc.n5, rfl, rt, rfl, ⟨_, SqT.of (t6 _ _ g)⟩, ?_⟩)
            refine lcTx (g := fun z => .str (tf l z)) (SqT.of (t6 _ _ g)) (by omega) (show 2 < 6 by decide) (fun z hz H' R s7 q => ⟨_, rfl, _, rfl, D, _, rfl, get ((s5.trans s6).trans s7) (memr z hz), q⟩) (fun G3 H7 s7 nG3 gG3 => ?_)
            refine ⟨rfl, rfl, fun yy dy n1 n2 n3 => ?_⟩
            have s47 := (s5.trans s6).trans s7
            have t7 := t4.trans s47
            have sm := made2 (C := C) n1 n2 n3
            have sm4 := s47.trans sm
            have okt := ok_rn (t := ⟨t.g, gs, t.ag, rs⟩) (ws := ns) (ok_told ok h2 h3) (fun z hz => hin z (by
              unfold Tol.words at hz ⊢
              rw [List.mem_append, List.mem_append, List.mem_append] at hz ⊢
              rcases hz with ((q | q) | q) | q
              · exact .inl (.inl (.inl ((h2.2.2 z).mp q)))
              · exact .inl (.inl (.inr q))
              · exact .inl (.inr ((h3.2.2 z).mp q))
              · exact .inr q)) ro
            have gG : H5 G = some (.lst ((gs.map (tf l)).map V.str)) := by rw [gG, List.map_map]; rfl
            have gG3 : H7 G3 = some (.lst ((rs.map (tf l)).map V.str)) := by rw [gG3, List.map_map]; rfl
            refine ⟨yy, C, dy, v0, v1, v2, v3, v4, .ref G, .ref G2, .ref G3, Tol.rn ⟨t.g, gs, t.ag, rs⟩ (tf l), rfl, upd_same, pc, ⟨InA.same sm4 u0, u1.same sm4, InA.same sm4 u2, u3.same sm4, InA.same sm4 u4, ⟨G, rfl, .inl (SqL.of (sm _ _ (s7 _ _ (s6 _ _ gG))))⟩, .inr ⟨G2, rfl, sm _ _ (s7 _ _ gG2)⟩, ⟨G3, rfl, .inl (SqL.of (sm _ _ gG3))⟩⟩, okt.s, ?_⟩
            have hm : (Tol.rn ⟨t.g, gs, t.ag, rs⟩ (tf l)).g.many = none := sizes_many okt.sizes
            rw [hm]
            refine fun H' bt ip2 => ⟨rfl, k yy H' (fun b o e => ?_) (ip2.conv rfl rfl (fun z => ?_) (fun z => ?_))⟩
            · have e1 := t7 b o e
              exact bt b o (fun z => by rw [z, n1] at e1; cases e1) (sm _ _ e1)
            · show z ∈ gs.map (tf l) ↔ z ∈ t.us.map (tf l)
              rw [List.mem_map, List.mem_map]
              exact exists_congr fun y => and_congr (h2.2.2 y) Iff.rfl
            · show z ∈ rs.map (tf l) ↔ z ∈ t.rs.map (tf l)
              rw [List.mem_map, List.mem_map]
              exact exists_congr fun y => and_congr (h3.2.2 y) Iff.rfl
end
end K07

set_option Elab.async false
set_option linter.all false
set_option maxRecDepth 100000
set_option maxHeartbeats 4000000
/-! _law_all_names. -/
namespace K07
open PySem L2 NX NU
open PyProof.Rows (sortedS)
abbrev sWo : Stmt := top 85
abbrev NWo : List Str := ["_law_site_here", "_law_found", "_law_part", "_law_made", "_law_used", "_law_word"]
theorem scWo : FnScope NWo ["_law_site_here"] (defScope sWo) := ⟨rfl, rfl, rfl, by decide +kernel, rfl, by decide +kernel, by decide +kernel⟩
/-- a part or [] -/
theorem PtI.or {K : PySem.W.Frag} {H : Hp} {v : V} {σ : L2.St} {Q : VK} {o : Option (List Act)} (h : PtI H v o) (q : ∀ L H', Same H H' → LotsAt H' L (o.getD []) → Q (.ref L) H') : ∃ k, TruV K v H k ∧ if k = true then Q v H else tLst tNil σ H Q := by
  have emp : tLst tNil σ H fun x H' => (o.getD [] = [] → Q x H') := ⟨by show 0 ≤ sizeLine; decide, fun t ht e => by
    refine q t _ (Same.new ht) ?_
    rw [e]
    exact lots0 upd_same⟩
  cases o with
  | none =>
    obtain rfl : v = .non := h
    exact ⟨false, rfl, iteF ⟨emp.1, fun t ht => emp.2 t ht rfl⟩⟩
  | some as =>
    obtain ⟨L, rfl, ⟨ts, g, lt⟩, _⟩ := h
    refine ⟨!(ts.map V.ref).isEmpty, .inl ⟨_, SqL.of g, rfl⟩, ?_⟩
    cases ts with
    | nil =>
      have ea : as = [] := List.length_eq_zero_iff.mp lt.1.symm
      exact iteF ⟨emp.1, fun t ht => emp.2 t ht ea⟩
    | cons x r => exact iteT (q L H (Same.refl H) ⟨_, g, lt⟩)
/-- [w for w in [made] if w is not None] -/
theorem madeL {K : PySem.W.Frag} {H : Hp} {l : Addr} {s0 s1 s2 s3 s4 s5 : Option V} {mk : Option Str} {Q : VK} (gl : H l = some (.lst [mkV mk])) (k : ∀ D H', H D = none → Same H H' → H' D = some (.lst (mk.toList.map V.str)) → Q (.ref D) H') :
    tLc (fun _ H R => R (Itl K l) H) (gName 5) (tTest (tOp (fun x y H Q => y = V.non ∧ Q (V.bl !decide (x = V.non)) H) (tVar 5) (tC V.non))) (tVar 5) [5] [s0, s1, s2, s3, s4, s5] H Q := by
  intro D hD
  refine lc_list (xs := [mkV mk]) (fun j H' => Same H H' ∧ H' D = some (.lst ((if j = 0 then [] else mk.toList).map V.str))) ⟨Same.new hD, upd_same⟩ (fun j H' _ z => SqL.of (z.1 _ _ gl)) ?_ ?_
  · rintro j y H2 hy ⟨sj, gD⟩
    obtain ⟨rfl, rfl⟩ : j = 0 ∧ y = mkV mk := by
      cases j with
      | zero => cases hy; exact ⟨rfl, rfl⟩
      | succ j => cases hy
    refine ⟨rfl, _, rfl, rfl, _, rfl, ?_⟩
    cases mk with
    | none => exact iteF ⟨sj, gD⟩
    | some m => exact iteT ⟨_, rfl, _, gD, by show 0 < sizeLine; decide, sameUpd sj hD, upd_same⟩
  · rintro H2 ⟨sj, gD⟩
    exact k D H2 hD sj gD
/-- [str(w) for w in l] -/
theorem strL {K : PySem.W.Frag} {H : Hp} {l : Addr} {s0 s1 s2 s3 s4 s5 : Option V} {ws : List Str} {Q : VK} (gl : H l = some (.lst (ws.map V.str))) (h : ws.length ≤ 1000) (k : ∀ D H', H D = none → Same H H' → H' D = some (.lst (ws.map V.str)) → Q (.ref D) H') :
    tLc (fun _ H R => R (Itl K l) H) (gName 5) tYes (tCB (fun xs H Q => ∃ a, xs = [V.str a] ∧ Q (V.str a) H) (tCons (tVar 5) tNil)) [5] [s0, s1, s2, s3, s4, s5] H Q := by
  intro D hD
  have z1000 : (1000 : Nat) < sizeLine := by decide
  refine lc_list (xs := ws.map V.str) (fun j H' => Same H H' ∧ H' D = some (.lst ((ws.take j).map V.str))) ⟨Same.new hD, upd_same⟩ (fun j H' _ z => SqL.of (z.1 _ _ gl)) ?_ ?_
  · rintro j y H2 hy ⟨sj, gD⟩
    rw [List.getElem?_map] at hy
    obtain ⟨z, hz, rfl⟩ := Option.map_eq_some_iff.mp hy
    refine ⟨rfl, ?_⟩
    unfold tYes
    dsimp only
    rw [if_pos rfl]
    refine ⟨_, rfl, z, rfl, _, gD, ?_, sameUpd sj hD, ?_⟩
    · rw [List.length_map, List.length_take]
      omega
    · rw [takeSnoc hz, List.map_append]
      exact upd_same
  · rintro H2 ⟨sj, gD⟩
    rw [List.length_map, List.take_length] at gD
    exact k D H2 hD sj gD
def spWoG : Sp := fun vs H Q _ => ∃ (S : Addr) (t : Tol), vs = [.ref S] ∧ SiteG H S t ∧ t.Ok ∧ ∀ (ns : List Str) p H', Same H H' → H' p = some (.lst (ns.map V.str)) → Asc ns t.words → Q (.ref p) H'
section
variable {P : Program} {w : World} {K : PySem.W.Frag} {mg : Str → Option Value} {base : Heap}
theorem ok_woG {f : Addr} {fd : FuncData} (F : Fun K "_law_all_names" "_law_all_names" sWo f fd) (T : TxtB mg) (TA : TxtA mg) (cOr : C8.Cal P w K mg base 1 "_law_order" spOr []) : FnOk P w K mg base CX0 2 f fd ["_law_site_here"] spWoG := by
  refine F.ok scWo (fun vs H Q E h => ?_) (fun cdv A outer s H vs Q E hr h => ?_)
  · obtain ⟨S, t, rfl, _⟩ := h
    rfl
  · obtain ⟨S, t, rfl, hS, ok, k⟩ := h
    have hu := hu_of hr
    refine ⟨_, (pss_cons (ps_set (i := 1) scWo.nd rfl (Or.inl rfl) (pe_op op_cat (pe_op op_cat (pe_dget hu (pv 0) pe_str (fun _ _ => rfl)) (pe_callTy (call_listD rfl) (by rfl) T.blist (by decide +kernel) (pa_cons (pe_dget hu (pv 0) pe_str (fun _ _ => rfl)) pa_nil))) (pe_dget hu (pv 0) pe_str (fun _ _ => rfl))))
      (pss_cons (ps_for PassesOwn.never rfl (pi_list (pe_c0 cOr hr (by decide) rfl)) (pg_name (i := 2) scWo.nd rfl (Or.inl rfl))
        (pss_one (ps_for PassesOwn.never rfl (pi_list (pe_orT (pe_dget hu (pv 0) (pv 2) (fun _ _ => rfl)) (pe_one (pe_lst pa_nil)))) (pg_tup rfl (pgs_cons (pg_name (i := 3) scWo.nd rfl (Or.inl rfl)) (pgs_cons (pg_name (i := 4) scWo.nd rfl (Or.inl rfl)) pgs_nil)))
          (pss_one (ps_set (i := 1) scWo.nd rfl (Or.inl rfl) (pe_op op_cat (pe_op op_cat (pv 1) (pv 4)) (pe_lc (own := [("_law_word", 5)]) (g := gName 5) rfl scWo.nd (pi_list (pe_lst (pa_cons (pv 3) pa_nil))) (blkOk_by (own := [("_law_word", 5)]) (N := NWo) (sc := defScope sWo) (by decide +kernel)) (fun _ _ _ _ _ => (pg_name (i := 5) scWo.nd rfl (Or.inl rfl))) (fun _ _ _ _ _ => (pts_one (pt_cmpR op_notN (pv 5) pe_non (nomark _)))) (fun _ _ _ _ _ => (pv 5)))))))))
      (pss_one (ps_ret (pe_callB (cr_srtM rfl) (by rfl) TA.bsorted (by decide +kernel) (pa_cons (pe_callTy (cr_setX rfl) (by rfl) TA.bset (by decide +kernel) (pa_cons (pe_lc (own := [("_law_word", 5)]) (g := gName 5) rfl scWo.nd (pi_list (pv 1)) (blkOk_by (own := [("_law_word", 5)]) (N := NWo) (sc := defScope sWo) (by decide +kernel)) (fun _ _ _ _ _ => (pg_name (i := 5) scWo.nd rfl (Or.inl rfl))) (fun _ _ _ _ _ => pts_nil) (fun _ _ _ _ _ => (pe_callTy SkE.call_str_str (by rfl) T.bstr (by decide +kernel) (pa_cons (pv 5) pa_nil)))) pa_nil)) pa_nil)))))), ?_⟩
    obtain ⟨gv, ag, r, vl, vb, vx, vh, vL, e, e1, e2, e6, _⟩ := id hS.ex
    have z2000 : (2000 : Nat) < sizeLine := by decide
    obtain ⟨pool, hp, h6⟩ := ok.six
    have hsz := ok.size
    refine ⟨_, rfl, S, _, rfl, DGet.k (k := .inr "given") e, _, rfl, S, _, rfl, DGet.k (k := .inr "again") e, ag, _, rfl, .inl e2, fun kl hkl => ?_⟩
    have ek : (agK t.ag).map (fun kv => kV kv.1) = (t.ag.map (·.1)).map V.str := by
      unfold agK
      rw [List.map_map, List.map_map]
      rfl
    rw [ek]
    have s1 := Same.new (o := .lst ((t.ag.map (·.1)).map V.str)) hkl
    refine ⟨gv, kl, _, _, rfl, rfl, s1 _ _ e1, upd_same, by rw [List.length_map, List.length_map, List.length_map]; omega, fun N0 hN0 => ?_⟩
    rw [← List.map_append]
    have s2 := s1.trans (Same.new (o := .lst ((t.us ++ t.ag.map (·.1)).map V.str)) hN0)
    have g0 : (upd (upd H kl (.lst ((t.ag.map (·.1)).map V.str))) N0 (.lst ((t.us ++ t.ag.map (·.1)).map V.str))) N0 = _ := upd_same
    generalize (upd (upd H kl (.lst ((t.ag.map (·.1)).map V.str))) N0 (.lst ((t.us ++ t.ag.map (·.1)).map V.str))) = H2 at *
    refine ⟨_, rfl, S, _, rfl, DGet.k (k := .inr "results") (s2 _ _ e), N0, r, _, _, rfl, rfl, g0, s2 _ _ e6, by rw [List.length_map, List.length_map, List.length_append, List.length_map]; omega, fun N hN => ?_⟩
    rw [← List.map_append]
    have s3 := s2.trans (Same.new (o := .lst ((t.us ++ t.ag.map (·.1) ++ t.rs).map V.str)) hN)
    have gN : (upd H2 N (.lst ((t.us ++ t.ag.map (·.1) ++ t.rs).map V.str))) N = _ := upd_same
    generalize (upd H2 N (.lst ((t.us ++ t.ag.map (·.1) ++ t.rs).map V.str))) = H3 at *
    obtain ⟨bs, hbs⟩ : ∃ bs, bs = t.us ++ t.ag.map (·.1) ++ t.rs := ⟨_, rfl⟩
    rw [← hbs] at gN
    have lb : bs.length = t.us.length + t.ag.length + t.rs.length := by rw [hbs, List.length_append, List.length_append, List.length_map]
    refine ⟨rfl, fun o H4 s4 ho go => ⟨o, rfl, ⟨_, SqL.of go⟩, ?_⟩⟩
    have s5 := s3.trans s4
    have gN := s4 _ _ gN
    refine for_list (xs := partN.map V.str) (fun i σ H' => Same H4 H' ∧ ∃ (N : Addr) (fs : List Str) (x2 x3 x4 x5 : Option V), H' N = some (.lst (fs.map V.str)) ∧ (∀ y, y ∈ fs ↔ y ∈ bs ++ actsN (t.g.upto i)) ∧ fs.length ≤ bs.length + 4 * (t.g.upto i).length ∧ σ = [some (.ref S), some (.ref N), x2, x3, x4, x5])
      ⟨Same.refl H4, N, bs, _, _, _, _, gN, fun y => by show y ∈ bs ↔ y ∈ bs ++ []; rw [List.append_nil], Nat.le_add_right _ _, rfl⟩ (fun i σ H' _ z => SqL.of (z.1 _ _ go)) (fun i x σ H' hx ⟨s6, N, fs, x2, x3, x4, x5, gN, mm, lf, eσ⟩ => ?_) (fun σ H' ⟨s6, N, fs, x2, x3, x4, x5, gN, mm, lf, eσ⟩ => ?_)
    · subst eσ
      rw [List.getElem?_map] at hx
      obtain ⟨z, hz, rfl⟩ := Option.map_eq_some_iff.mp hx
      have i5 := (partF hz).1
      have up := uptoLe t.g i5
      obtain ⟨v, dg, pi⟩ := (hS.same (s5.trans s6)).part ok hz
      have pl := pi
      refine ⟨_, rfl, _, rfl, S, v, rfl, dg, pi.or fun L2 H7 s7 lots => ?_⟩
      obtain ⟨as, eas⟩ : ∃ as, as = (t.g.at i).getD [] := ⟨_, rfl⟩
      rw [← eas] at lots up
      have lot3 : ∀ a ∈ as, a.2.length ≤ 3 := fun a ha => by
        rw [eas] at ha
        revert pl ha
        cases t.g.at i with
        | none => intro _ h; cases h
        | some q => rintro ⟨_, _, _, _, lo⟩ h; exact (lo a h).few
      obtain ⟨ts, gT, lt⟩ := lots
      refine ⟨L2, rfl, ⟨_, SqL.of gT⟩, ?_⟩
      refine for_list (xs := ts.map V.ref) (fun j σ H' => Same H7 H' ∧ ∃ (N : Addr) (fs : List Str) (x3 x4 x5 : Option V), H' N = some (.lst (fs.map V.str)) ∧ (∀ y, y ∈ fs ↔ y ∈ bs ++ actsN (t.g.upto i ++ as.take j)) ∧ fs.length ≤ bs.length + 4 * ((t.g.upto i).length + j) ∧ σ = [some (.ref S), some (.ref N), some (.str z), x3, x4, x5])
        ⟨Same.refl H7, N, fs, _, _, _, s7 _ _ gN, fun y => by rw [List.take_zero, List.append_nil]; exact mm y, by omega, rfl⟩ (fun i σ H' _ z => SqL.of (z.1 _ _ gT)) (fun j x σ H8 hx ⟨s8, N, fs, x3, x4, x5, gN, mm, lf, eσ⟩ => ?_) (fun σ H8 ⟨s8, N, fs, x3, x4, x5, gN, mm, lf, eσ⟩ => ?_)
      · subst eσ
        rw [List.getElem?_map] at hx
        obtain ⟨t1, ht, rfl⟩ := Option.map_eq_some_iff.mp hx
        have hj : j < as.length := by rw [← lt.1]; exact (List.getElem?_eq_some_iff.mp ht).1
        obtain ⟨a, ha⟩ : ∃ a, as[j]? = some a := ⟨_, List.getElem?_eq_getElem hj⟩
        obtain ⟨u, g1, g2⟩ := lt.2 j t1 a ht ha
        have l3 := lot3 a (List.mem_of_getElem? ha)
        refine ⟨t1, _, rfl, SqT.of (s8 _ _ g1), rfl, _, _, rfl, _, _, rfl, rfl, ?_⟩
        refine ⟨_, rfl, _, rfl, N, u, _, _, rfl, rfl, gN, s8 _ _ g2, by rw [List.length_map, List.length_map]; omega, fun M hM => ?_⟩
        rw [← List.map_append]
        have s9 := s8.trans (Same.new (o := .lst ((fs ++ a.2).map V.str)) hM)
        have gM : (upd H8 M (.lst ((fs ++ a.2).map V.str))) M = _ := upd_same
        generalize (upd H8 M (.lst ((fs ++ a.2).map V.str))) = H9 at *
        refine lcOf ⟨_, rfl, by show 1 ≤ sizeLine; decide, fun q hq => ⟨q, rfl, ⟨_, SqL.of upd_same⟩, ?_⟩⟩
        have s10 := Same.new (o := .lst [mkV a.1]) hq
        refine madeL (mk := a.1) upd_same fun D H10 hD sD gD => ?_
        have s10 := s10.trans sD
        have lm : a.1.toList.length ≤ 1 := by cases a.1 <;> simp
        refine ⟨M, D, _, _, rfl, rfl, s10 _ _ gM, gD, by rw [List.length_map, List.length_map, List.length_append]; omega, fun M2 hM2 => ?_⟩
        rw [← List.map_append]
        refine ⟨(s9.trans s10).trans (Same.new hM2), M2, fs ++ a.2 ++ a.1.toList, _, _, _, upd_same, fun y => ?_, by rw [List.length_append, List.length_append]; omega, rfl⟩
        rw [getLast ha, ← List.append_assoc (t.g.upto i), List.append_assoc fs, List.mem_append, mm y, List.mem_append, List.mem_append, List.mem_append, actsN_snoc, mem_ns]
        have : y ∈ a.1.toList ↔ a.1 = some y := by cases a.1 <;> simp [eq_comm]
        rw [this]
        exact or_assoc
      · subst eσ
        rw [List.length_map, lt.1] at lf mm
        rw [List.take_length] at mm
        refine ⟨s6.trans (s7.trans s8), N, fs, _, _, _, _, gN, fun y => ?_, ?_, rfl⟩
        · rw [mm y, eas]
          exact Iff.rfl
        · show fs.length ≤ bs.length + 4 * (t.g.upto i ++ (t.g.at i).getD []).length
          rw [List.length_append, ← eas]
          exact lf
    · subst eσ
      have mm : ∀ y, y ∈ fs ↔ y ∈ t.words := fun y => by
        rw [mm y, hbs]
        exact Iff.rfl
      have lf : fs.length ≤ bs.length + 4 * t.g.acts.length := lf
      dsimp only
      refine retA (cb1 (cb1 (lcOf ?_)))
      refine ⟨_, rfl, N, rfl, ⟨_, SqL.of gN⟩, ?_⟩
      refine strL gN (by omega) fun D H7 hD sD gD => ?_
      refine ⟨D, fs, rfl, .inl (SqL.of gD), by omega, fun sa hsa => ?_⟩
      have s8 := sD.trans (Same.new (o := SetX w sa fs) hsa)
      refine ⟨sa, fs, rfl, upd_same, Nat.lt_of_le_of_lt (many_in fs pool fun z hz => hp z ((mm z).mp hz)) (by omega), fun ys p srt nd my hp2 => ?_⟩
      exact k ys p _ (((s5.trans s6).trans s8).trans (Same.new hp2)) upd_same ⟨srt, nd, fun y => (my y).trans (mm y)⟩
end
end K07

set_option Elab.async false
set_option linter.all false
set_option maxRecDepth 100000
set_option maxHeartbeats 4000000
namespace NX
open PySem L2
/-- a comprehension over the signs of a text -/
theorem lcTxt {z : Str} {tg : TG} {tst : TT} {el : TE} {own : List Nat} {σ₀ : L2.St} {Ha : Hp} {L : Addr} {Fin : Hp → Prop} (Iv : Nat → Hp → Prop) (start : Iv 0 (upd Ha L (.lst [])))
    (turn : ∀ j ch Hb, z.cps[j]? = some ch → Iv j Hb → tg (.str ⟨#[ch]⟩) (wipe σ₀ own) Hb fun τ Hc => wipe τ own = wipe σ₀ own ∧ tst τ Hc fun yes Hd =>
      if yes = true then el τ Hd fun v He => ∃ got, He L = some (.lst got) ∧ got.length < sizeLine ∧ Iv (j + 1) (upd He L (.lst (got ++ [v]))) else Iv (j + 1) Hd) (fin : ∀ Hb, Iv z.cps.size Hb → Fin Hb) :
    ∃ W : Nat → Nat → Hp → Prop, (∃ k, W 0 k (upd Ha L (.lst []))) ∧ ∀ j k Hb, W j k Hb →
      ((Its z).stop j Hb ∧ Fin Hb) ∨ ((Its z).go j Hb ∧ ∃ Nx : Hp → Prop, (∀ Hc, Nx Hc → ∃ k', k' < k ∧ W (j + 1) k' Hc) ∧ ∀ x Hc, (Its z).yld j Hb x Hc → tg x (wipe σ₀ own) Hc fun τ Hd => wipe τ own = wipe σ₀ own ∧ tst τ Hd fun yes He =>
        if yes = true then el τ He fun v Hf => ∃ got, Hf L = some (.lst got) ∧ got.length < sizeLine ∧ Nx (upd Hf L (.lst (got ++ [v]))) else Nx He) := by
  refine ⟨fun j k Hb => k + j = z.cps.size ∧ Iv j Hb, ⟨z.cps.size, rfl, start⟩, fun j k Hb ⟨e, iv⟩ => ?_⟩
  cases k with
  | zero =>
    have e' : j = z.cps.size := by omega
    subst e'
    exact .inl ⟨Nat.le_refl _, fin Hb iv⟩
  | succ k =>
    refine .inr ⟨by show j < z.cps.size; omega, Iv (j + 1), fun Hc q => ⟨k, Nat.lt_succ_self k, by omega, q⟩, fun x Hc y => ?_⟩
    obtain ⟨rfl, ch, hc, rfl⟩ := y
    exact turn j ch _ hc iv
end NX
namespace K07
open PySem L2 NX NU
abbrev sLIs : Stmt := top 86
theorem scLIs : FnScope ["_law_value", "_law_sign"] ["_law_value"] (defScope sLIs) := ⟨rfl, rfl, rfl, by decide +kernel, rfl, by decide +kernel, by decide +kernel⟩
/-- one letter -/
def one (ch : Nat) : Str := ⟨#[ch]⟩
theorem strEqv (l : List Nat) : PyData.eqv (.list ((l.map one).map PyData.str)) (.list []) = l.isEmpty := by
  cases l with
  | nil => rfl
  | cons a r => rfl
theorem layOnes : ∀ l : List Nat, (∀ ch ∈ l, ch < 256) → PyData.canLayAll0 ((l.map one).map PyData.str) = true
  | [], _ => rfl
  | a :: r, h => by
    rw [List.map_cons, List.map_cons, PyData.canLayAll0.eq_2, PyData.canLay0.eq_4, layOnes r (fun c hc => h c (List.mem_cons_of_mem _ hc)), Bool.and_true]
    have z := h a List.mem_cons_self
    show (#[a] : Array Nat).all (fun x => decide (x < 1114112)) = true
    rw [Array.all_eq_true]
    intro i hi
    have e : i = 0 := by simp at hi; exact hi
    subst e
    exact decide_eq_true (Nat.lt_trans z (by decide))
theorem depOnes : ∀ l : List Nat, PyData.depthAll ((l.map one).map PyData.str) = 0
  | [] => rfl
  | a :: r => by
    rw [List.map_cons, List.map_cons, PyData.depthAll.eq_2, depOnes r]
    rfl
theorem shapedOnes (l : List Nat) (h : ∀ ch ∈ l, ch < 256) : SeqAt.shaped (.list ((l.map one).map PyData.str)) = true := by
  unfold SeqAt.shaped
  rw [PyData.canLay0.eq_5, layOnes l h, PyData.depth.eq_def]
  show (true && decide (PyData.depthAll _ + 1 ≤ 64)) = true
  rw [depOnes]
  rfl
/-- signs of small codes -/
def okS (z : Str) : Prop := ∀ ch ∈ z.cps.toList, ch < 256
/-- a text of small signs, or no text: what the law asks of its names -/
def spLIs (K : PySem.W.Frag) : Sp := fun vs H Q _ => ∃ v, vs = [v] ∧ ((∃ z, v = .str z ∧ z.length ≤ 1000 ∧ okS z ∧ ∀ H', Same H H' → Q (.bl (nm z)) H') ∨ (NoStr K H v ∧ Q (.bl false) H))
section
variable {P : Program} {w : World} {K : PySem.W.Frag} {mg : Str → Option Value} {base : Heap}
theorem dpOnes {H : Hp} : ∀ l : List Nat, DpAll K H (l.map fun ch => V.str (one ch)) ((l.map one).map PyData.str)
  | [] => .nil
  | a :: r => .cons (.str _) (dpOnes r)
theorem in16 (n : Nat) : (if true = true then !inV (.int (n : Int)) [.int 1, .int 2, .int 3, .int 4, .int 5, .int 6] else inV (.int (n : Int)) [.int 1, .int 2, .int 3, .int 4, .int 5, .int 6]) = !decide (1 ≤ n ∧ n ≤ 6) := by
  rw [if_pos rfl]
  congr 1
  match n with
  | 0 | 1 | 2 | 3 | 4 | 5 | 6 => rfl
  | n + 7 =>
    rw [decide_eq_false (by omega)]
    have ne : ∀ k : Int, k ≤ 6 → eqV (.int k) (.int ((n + 7 : Nat) : Int)) = false := fun k hk => by
      have q : ¬ k = ((n + 7 : Nat) : Int) := by omega
      show (k == ((n + 7 : Nat) : Int)) = false
      exact beq_eq_false_iff_ne.mpr q
    simp only [inV, List.any_cons, List.any_nil, ne 1 (by decide), ne 2 (by decide), ne 3 (by decide), ne 4 (by decide), ne 5 (by decide), ne 6 (by decide), Bool.or_false]
theorem ok_lis {f : Addr} {fd : FuncData} (F : Fun K "_law_is_name" "_law_is_name" sLIs f fd) (T : TxtB mg) : FnOk P w K mg base CX0 1 f fd ["_law_value"] (spLIs K) := by
  refine F.ok scLIs (fun vs H Q E h => ?_) (fun cdv A outer s H vs Q E hr h => ?_)
  · obtain ⟨v, rfl, _⟩ := h
    rfl
  · obtain ⟨v, rfl, h⟩ := h
    refine ⟨_, (pss_cons (ps_if (PW.pt (pw_or (pt_not (pt_val (pe_callB call_isi (by rfl) T.bisinstance (by decide +kernel) (pa_cons (pv 0) (pa_cons (pe_bltn (v := .ty "str") (by rfl) T.bstr (by decide +kernel) rfl) pa_nil))))) (pw_or1 (pt_cmpR op_notIn_seq (pe_callB call_len_str (by rfl) T.blen (by decide +kernel) (pa_cons (pv 0) pa_nil)) (pe_tup (pa_cons pe_int (pa_cons pe_int (pa_cons pe_int (pa_cons pe_int (pa_cons pe_int (pa_cons pe_int pa_nil))))))) rfl)))) (pss_one (ps_ret pe_bl)) pss_nil)
      (pss_one (ps_ret (pe_cmpR (op_eqD hr.units) (pe_lc (own := [("_law_sign", 1)]) (g := gName 1) rfl scLIs.nd (pi_str (pv 0)) (blkOk_by (own := [("_law_sign", 1)]) (N := ["_law_value", "_law_sign"]) (sc := defScope sLIs) (by decide +kernel)) (fun _ _ _ _ _ => (pg_name (i := 1) scLIs.nd rfl (Or.inl rfl))) (fun _ _ _ _ _ => (pts_one (pt_cmpR op_notIn_sign (pv 1) pe_str rfl))) (fun _ _ _ _ _ => (pv 1))) (pe_lst pa_nil) (nomark _))))), ?_⟩
    rcases h with ⟨z, rfl, hz, ho, q⟩ | ⟨⟨t, ty, k⟩, q⟩
    · refine ⟨_, rfl, _, _, _, _, true, rfl, .ty "str", .base (.str z), kit_ty (by decide +kernel), true, rfl, iteF ?_⟩
      refine ⟨_, rfl, z, rfl, Nat.le_of_lt (small1000 hz), by show 6 ≤ sizeLine; decide, fun p hp => ?_⟩
      have s1 : Same H (upd H p (.tup [.int 1, .int 2, .int 3, .int 4, .int 5, .int 6])) := Same.new hp
      refine ⟨p, _, rfl, .inr (SqT.of upd_same), rfl, rfl, _, rfl, ?_⟩
      rw [in16]
      by_cases few : 1 ≤ z.length ∧ z.length ≤ 6
      · rw [decide_eq_true few]
        refine iteF ⟨_, rfl, z, rfl, fun D hD => ?_⟩
        refine lcTxt (fun i H' => Same H H' ∧ ∃ l : List Nat, l = ((z.cps.toList.take i).filter fun ch => !lett ch) ∧ H' D = some (.lst (l.map fun ch => V.str (one ch)))) ?_ ?_ ?_
        · exact ⟨s1.trans (Same.new hD), [], rfl, upd_same⟩
        · intro i ch H' hc hP
          obtain ⟨s', l, hl, hD'⟩ := hP
          have hD0 : H D = none := sameNone s1 hD
          have hin : decide (ch ∈ (Str.ofString "abcdefghijklmnopqrstuvwxyz").cps.toList) = lett ch := by
            rw [Bool.eq_iff_iff, decide_eq_true_eq]
            exact letters_mem ch
          have ht : z.cps.toList.take (i + 1) = z.cps.toList.take i ++ [ch] := by
            rw [List.take_succ, Array.getElem?_toList, hc]
            rfl
          have hf : (z.cps.toList.take (i + 1)).filter (fun ch => !lett ch) = l ++ (if lett ch = true then [] else [ch]) := by
            rw [ht, List.filter_append, hl, List.filter_cons, List.filter_nil]
            cases lett ch <;> rfl
          refine ⟨rfl, _, rfl, ch, _, rfl, rfl, _, rfl, ?_⟩
          rw [hin]
          cases hlt : lett ch with
          | true =>
            refine iteF ⟨s', l, ?_, hD'⟩
            rw [hf, hlt]
            simp
          | false =>
            refine iteT ⟨_, rfl, _, hD', ?_, samePut s' hD0, l ++ [ch], ?_, ?_⟩
            · rw [List.length_map, hl]
              refine Nat.lt_of_le_of_lt (List.length_filter_le _ _) (Nat.lt_of_le_of_lt (List.length_take_le' _ _) ?_)
              rw [Array.length_toList]
              exact Nat.lt_of_le_of_lt (show z.length ≤ 1000 from hz) (by decide)
            · rw [hf, hlt]
              simp
            · rw [upd_same, List.map_append]
              rfl
        · intro H' hP
          obtain ⟨s', l, hl, hD'⟩ := hP
          have hl : l = z.cps.toList.filter fun ch => !lett ch := by
            rw [hl, ← Array.length_toList, List.take_length]
          refine ⟨by show 0 ≤ sizeLine; decide, fun r hr2 => ?_⟩
          refine ⟨_, _, .lst (SqL.of (by rw [upd_ne (ne_of_none hD' hr2)]; exact hD')) (dpOnes l), .lst (SqL.of upd_same) .nil, shapedOnes l (fun c hc => ho c (List.mem_filter.mp (hl ▸ hc)).1), by decide +kernel, ?_⟩
          rw [strEqv]
          have e : l.isEmpty = nm z := by
            unfold nm
            rw [decide_eq_true few.1, decide_eq_true few.2, hl, Bool.eq_iff_iff, List.isEmpty_iff, List.filter_eq_nil_iff, Bool.true_and, Bool.true_and, List.all_eq_true]
            simp
          rw [e]
          exact q _ (s'.trans (Same.new hr2))
      · rw [decide_eq_false few]
        have e : nm z = false := by
          unfold nm
          by_cases a : 1 ≤ z.length
          · rw [decide_eq_false (fun b => few ⟨a, b⟩ : ¬ z.length ≤ 6)]
            simp
          · rw [decide_eq_false a]
            rfl
        have q := q _ s1
        rw [e] at q
        exact iteT q
    · exact ⟨_, rfl, _, _, _, _, false, rfl, .ty "str", ty, k, false, rfl, iteT (iteT q)⟩
end
end K07

set_option Elab.async false
set_option linter.all false
set_option maxRecDepth 100000
set_option maxHeartbeats 4000000
/-! A rule of my own: isinstance of a kept error that has no fields. -/
namespace NZ
open PySem PySem.Spec PyProof.Rows L2 NX
def rBare (K : PySem.W.Frag) : List V → Hp → VK → Prop := fun xs H Q => ∃ (a D : Addr) (c : V) (u : Value) (b : Bool), xs = [.ref a, c] ∧ ClsV c u ∧ H a = some (Kept a (.ref D) none) ∧ ExcC K D ∧ PySem.W.kitOne K (.ref D) u = some b ∧ Q (.bl b) H
section
variable {X : Cx}
theorem call_isBare : CallR X (.builtin "isinstance") (rBare X.K) := by
  intro pins s σ H xs us Q I r h
  obtain ⟨a, D, c, u, b, rfl, hc, ha, E, k, q⟩ := h
  obtain ⟨w1, w2, rfl, r1, r2⟩ := vals2 r
  have same := hc.eq r2
  subst same
  obtain rfl : w1 = Value.ref a := r1
  have x : ObjOk X.prog X.w H s.heap a (.ext fun h => ∃ o vs, h.get? a = some o ∧ o.cls = .ref D ∧ o.dict = none ∧ o.data = .fields vs) := I.hok a _ ha
  obtain ⟨⟨o, vs, e1, e2, e3, e4⟩, _, _⟩ := x
  have J : PySem.W.InstAt s.heap a o D none := ⟨e1, e2, by unfold PySem.W.notCls; rw [e4] <;> rfl, by rw [e3]; exact trivial⟩
  have hcl : (PySem.W.clsIn X.K D).isSome = true := by
    cases z : PySem.W.clsIn X.K D with
    | some cd => rfl
    | none =>
      have y := E.hd
      unfold PySem.W.hasDictIn at y
      rw [z] at y
      cases y
  exact PySem.W.kia_one (PySem.W.kitx_exc hcl E.hg E.hk E.hs E.ha E.hn E.ht E.hm) I.kIn J k (fun z => nomatch z) fun tk => ⟨.bl b, H, I.tok tk, rfl, q⟩
end
end NZ

set_option Elab.async false
set_option linter.all false
set_option maxRecDepth 100000
set_option maxHeartbeats 4000000
/-! xs.count(x) of a list of flat values. -/
namespace NC
open PySem PySem.Spec PyProof.Rows L2
/-- is the value equal to x -/
def like (x : V) (u : Value) : Bool := match absV u with
  | some y => eqV y x
  | none => false
theorem abs_flat {y : V} {u : Value} (r : RelV y u) (f : flatV y = true) : absV u = some y := by
  cases y with
  | non => cases r; rfl
  | bl b => cases r; rfl
  | int i => obtain ⟨t, rfl⟩ := r; rfl
  | str s => obtain ⟨t, rfl⟩ := r; rfl
  | _ => cases f
theorem like_at {x y : V} {u : Value} (r : RelV y u) (f : flatV y = true) : like x u = eqV y x := by
  unfold like
  rw [abs_flat r f]
theorem vals_has : ∀ {ys : List V} {us : List Value}, Vals ys us → ∀ {u : Value}, u ∈ us → ∃ y ∈ ys, RelV y u
  | _, _, .nil, _, h => by cases h
  | _, _, .cons r t, u, h => by
    rcases List.mem_cons.mp h with e | e
    · exact ⟨_, List.mem_cons_self, e ▸ r⟩
    · obtain ⟨y, hy, q⟩ := vals_has t e
      exact ⟨y, List.mem_cons_of_mem _ hy, q⟩
theorem like_count {x : V} : ∀ {ys : List V} {us : List Value}, Vals ys us → ys.all flatV = true → us.countP (like x) = ys.countP fun y => eqV y x
  | _, _, .nil, _ => rfl
  | _, _, .cons r t, f => by
    rw [List.all_cons, Bool.and_eq_true] at f
    rw [List.countP_cons, List.countP_cons, like_count t f.2, like_at r f.1]
def rCnt (K : PySem.W.Frag) : V → List V → Hp → VK → Prop := fun o xs H Q => ∃ (p : Addr) (ys : List V) (x : V), o = .ref p ∧ xs = [x] ∧ SqL K H p ys ∧ ys.all flatV = true ∧ flatV x = true ∧ Q (.int ((ys.countP fun y => eqV y x : Nat) : Int)) H
section
variable {X : Cx}
theorem mt_cnt : MtR X "list.count" (rCnt X.K) := by
  intro pins s σ H o xs v us Q I ro rxs h
  obtain ⟨p, ys, x, rfl, rfl, at_, fl, fx, q⟩ := h
  cases ro
  obtain ⟨u, rfl, ru⟩ := rxs.one
  obtain ⟨its, rv, ⟨⟨cls, dd, data, sl⟩, n, ho, hc, hdn, hd⟩, low⟩ := I.list at_
  simp only at hc hd
  subst hc hd
  have each : ∀ (A : Around) (t : Shared), ∀ y ∈ its, SeqAt.EqAt A t y u (like x y) := fun A t y hy => by
    obtain ⟨z, hz, rz⟩ := vals_has rv hy
    have fz := List.all_eq_true.mp fl z hz
    rw [like_at rz fz]
    exact eqAt_V rz ru fz fx
  refine call_meets PySem.F.slot_list_count ⟨_, ho, rfl⟩ PySem.F.entry_list_count (PySem.F.args_list_count_2 _ _)
    (SeqAt.list_countAt p its.toArray n dd sl u (like x)) ⟨ho, fun y hy => each _ _ y (by simpa using hy), ?_⟩
  refine ⟨.int ((ys.countP fun y => eqV y x : Nat) : Int), H, I.tok _, ⟨s.toks, ?_⟩, q⟩
  show Value.int ((its.toArray.toList.countP (like x) : Nat) : Int) s.toks = _
  rw [show its.toArray.toList = its from rfl, like_count rv fl]
end
end NC

set_option Elab.async false
set_option linter.all false
set_option maxRecDepth 100000
set_option maxHeartbeats 4000000
/-! _law_heard. -/
namespace K07
open PySem L2 NX NU LamX
open PyProof.Rows (sortedS)
abbrev sHeard : Stmt := top 84
abbrev NHeard : List Str := ["_law_ask", "_law_caught", "error"]
theorem scHeard : FnScope NHeard ["_law_ask"] (defScope sHeard) := ⟨rfl, rfl, rfl, by decide +kernel, rfl, by decide +kernel, by decide +kernel⟩
/-- what the written part says of an error class -/
structure KErr7 (K : PySem.W.Frag) (c : C7) (CS C : Addr) (b0 b1 : Bool) : Prop where
  e : PySem.W.exmOne K (.ref C) (.ref CS) = some true
  ec : ExcC K C
  k0 : PySem.W.kitOne K (.ref C) (.ref c.n) = some b0
  k1 : PySem.W.kitOne K (.ref C) (.ref c.t) = some b1
  ve : PySem.W.kitOne K (.ref C) (.type "ValueError") = some true
structure ErrK7 (K : PySem.W.Frag) (mg : Str → Option Value) (c : C7) (CS : Addr) : Prop where
  gS : mg "StowError" = some (.ref CS)
  gN : mg "BadName" = some (.ref c.n)
  gT : mg "Twice" = some (.ref c.t)
  n : KErr7 K c CS c.n true false
  t : KErr7 K c CS c.t false true
  xn : XfC K c.n
  xt : XfC K c.t
  vn : PySem.W.findIn K (.ref c.n) "value" = some none
  vt : PySem.W.findIn K (.ref c.t) "name" = some none
  ve : mg "ValueError" = none
def F7.word : F7 → Str
  | .nam _ => "name"
  | .twi _ => "twice"
def F7.val : F7 → V
  | .nam v => v
  | .twi z => .str z
def ErrIs (c : C7) : F7 → Value → Option Addr → Hp → Prop
  | .nam v, cls, d, H => cls = .ref c.n ∧ ∃ dd, d = some dd ∧ H dd = some (.xd [("value", v)])
  | .twi z, cls, d, H => cls = .ref c.t ∧ ∃ dd, d = some dd ∧ H dd = some (.xd [("name", .str z)])
def HErr7 (c : C7) (Q : VK) : XK := fun cls d H' => ∃ f : F7, ErrIs c f cls d H' ∧ ∀ p H'', Same H' H'' → H'' p = some (.tup [.str f.word, f.val]) → Q (.ref p) H''
/-- what _law_heard makes of what it asks -/
def THeard7 (c : C7) : (XK → Hp → VK → Prop) → Hp → VK → Prop := fun tl H Q => ∀ R : VK, (∀ v H1, Q .non H1 → R v H1) → tl (HErr7 c Q) H R
theorem ends_heard {c : C7} {H : Hp} {Q : VK} {ok : Prop} {r : Option F7} (k0 : r = none → ok) (k1 : ∀ f, r = some f → ∀ p H'', Same H H'' → H'' p = some (.tup [.str f.word, f.val]) → Q (.ref p) H'') : Ends7 c H (HErr7 c Q) ok r := by
  cases r with
  | none => exact k0 rfl
  | some f =>
    have k1 := k1 f rfl
    cases f with
    | nam v => exact fun d H' t => ⟨.nam v, ⟨rfl, d, rfl, t.2.2⟩, fun p H'' s g => k1 p H'' (t.1.trans s) g⟩
    | twi z => exact fun d H' t => ⟨.twi z, ⟨rfl, d, rfl, t.2.2⟩, fun p H'' s g => k1 p H'' (t.1.trans s) g⟩
section
variable {X : Cx}
theorem takesLen {X : Cx} {W : WX} (h : Takes X W) : Takes X (fun cls d σ H => σ.length = X.N.length → W cls d σ H) := fun u s' ⟨a, B, sI, pins, σ, H, cls, d, e1, I, e2, e3, e4, e5, e6, e7, w⟩ => h u s' ⟨a, B, sI, pins, σ, H, cls, d, e1, I, e2, e3, e4, e5, e6, e7, w I.len⟩
theorem heard_gives {q : Str} {g CS : Addr} {c : C7} {cdg : Value} (T : TxtB X.mg) (E : ErrK7 X.K X.mg c CS) :
    GivesTo X NHeard "_law_heard" (defScope sHeard) g cdg (defBody sHeard) "_law_ask" q (THeard7 c) := by
  intro f c' s H Q tl act hc h
  refine ⟨_, (pss_cons (ps_set (i := 1) scHeard.nd rfl (Or.inl rfl) pe_non)
      (pss_cons (ps_try_keep (X := (cxOf C8.CX0 X.prog X.w X.K X.mg X.base NHeard "_law_heard" (defScope sHeard) g cdg X.A X.stack s H C8.E0).nox) (c := .ref CS) (i := 2)
      (tb := fun W D σ H => ∃ Ech : XK, (∀ cls d σ' H', Ech cls d H' → σ'.length = 3 → W cls d σ' H') ∧ σ[0]? = some (some (.ref f)) ∧ H c' = some (CodeO c' q) ∧ tl Ech H fun _ H1 => D.nx σ H1)
      rfl rfl scHeard.nd rfl rfl rfl ⟨rfl, by decide, .inl E.gS⟩ L2.takes0 (fun W pn xe tk _ => ?_) (fun a oe cls d pn _ _ => pss_one (ps_set (i := 1) scHeard.nd rfl (Or.inl rfl) (pv 2))))
      (pss_cons (ps_if (pt_cmpR op_isN (pv 1) pe_non (nomark _)) (pss_one (ps_ret pe_non)) pss_nil)
      (pss_cons (ps_if (PW.pt (pw_or (pt_cmpR op_eq (pe_callB (CallR.or call_isKept NZ.call_isBare) (by rfl) T.bisinstance (by decide +kernel) (pa_cons (pv 1) (pa_cons (C8.pe_gc (v := .ref c.n) rfl ⟨_, E.gN, rfl⟩) pa_nil))) (pe_callB (CallR.or call_isKept NZ.call_isBare) (by rfl) T.bisinstance (by decide +kernel) (pa_cons (pv 1) (pa_cons (C8.pe_gc (v := .ref c.t) rfl ⟨_, E.gT, rfl⟩) pa_nil))) (nomark _)) (pw_or1 (pt_not (pt_val (pe_callB (CallR.or call_isKept NZ.call_isBare) (by rfl) T.bisinstance (by decide +kernel) (pa_cons (pv 1) (pa_cons (pe_bltn (v := .ty "ValueError") (by rfl) E.ve (by decide +kernel) rfl) pa_nil)))))))) (pss_one (ps_ret (pe_tup (pa_cons pe_str (pa_cons pe_non pa_nil))))) pss_nil)
      (pss_one (ps_ret (pe_ifExp (pt_val (pe_callB (CallR.or call_isKept NZ.call_isBare) (by rfl) T.bisinstance (by decide +kernel) (pa_cons (pv 1) (pa_cons (C8.pe_gc (v := .ref c.n) rfl ⟨_, E.gN, rfl⟩) pa_nil)))) (pe_tup (pa_cons pe_str (pa_cons (pe_kept (pv 1)) pa_nil))) (pe_tup (pa_cons pe_str (pa_cons (pe_kept (pv 1)) pa_nil)))))))))), ?_⟩
  · refine ⟨fun pins s' σ H' D I h' => ?_⟩
    obtain ⟨Ech, hW, h1, h2, h3⟩ := h'
    exact (pss_one (ps_expr (act (fun cls d σ H => σ.length = 3 → W cls d σ H) pn xe Ech _ _ (takesLen tk) hW))).run pins s' σ H' D I ⟨h1, h2, h3⟩
  · refine ⟨HErr7 c Q, fun cls d σ' H' hx hlen => ?_, rfl, hc, ?_⟩
    · obtain ⟨fa, er, k⟩ := hx
      match σ', hlen with
      | [x0, x1, x2], _ =>
      cases fa with
      | nam u0 =>
        obtain ⟨rfl, dd, rfl, hdd⟩ := er
        refine ⟨true, E.n.e, (fun h => by cases h), fun _ a ha => ?_⟩
        have hd' : upd H' a (Kept a (.ref c.n) (some dd)) dd = some (.xd [("value", u0)]) := (upd_ne (ne_of_none hdd ha)).trans hdd
        have s1 : Same H' (upd H' a (Kept a (.ref c.n) (some dd))) := Same.new ha
        have hk : upd H' a (Kept a (.ref c.n) (some dd)) a = some (Kept a (.ref c.n) (some dd)) := upd_same
        refine ⟨_, rfl, _, rfl, rfl, _, rfl, iteF ?_⟩
        refine ⟨_, rfl, .inl ⟨a, _, dd, _, _, _, true, rfl, .own c.n, hk, hd', E.n.ec, E.n.k0, ?_⟩⟩
        refine ⟨_, rfl, .inl ⟨a, _, dd, _, _, _, false, rfl, .own c.t, hk, hd', E.n.ec, E.n.k1, ?_⟩⟩
        refine ⟨rfl, _, rfl, iteF ?_⟩
        refine ⟨_, rfl, .inl ⟨a, _, dd, _, _, _, true, rfl, .ty "ValueError", hk, hd', E.n.ec, E.n.ve, ?_⟩⟩
        refine ⟨true, rfl, iteF ?_⟩
        exact ⟨_, rfl, .inl ⟨a, _, dd, _, _, _, true, rfl, .own c.n, hk, hd', E.n.ec, E.n.k0, true, rfl, iteT ⟨_, rfl, a, _, dd, _, _, rfl, hk, hd', E.xn, E.vn, rfl, by show 2 ≤ sizeLine; decide, fun p hp => k p _ (s1.trans (Same.new hp)) upd_same⟩⟩⟩
      | twi z =>
        obtain ⟨rfl, dd, rfl, hdd⟩ := er
        refine ⟨true, E.t.e, (fun h => by cases h), fun _ a ha => ?_⟩
        have hd' : upd H' a (Kept a (.ref c.t) (some dd)) dd = some (.xd [("name", .str z)]) := (upd_ne (ne_of_none hdd ha)).trans hdd
        have s1 : Same H' (upd H' a (Kept a (.ref c.t) (some dd))) := Same.new ha
        have hk : upd H' a (Kept a (.ref c.t) (some dd)) a = some (Kept a (.ref c.t) (some dd)) := upd_same
        refine ⟨_, rfl, _, rfl, rfl, _, rfl, iteF ?_⟩
        refine ⟨_, rfl, .inl ⟨a, _, dd, _, _, _, false, rfl, .own c.n, hk, hd', E.t.ec, E.t.k0, ?_⟩⟩
        refine ⟨_, rfl, .inl ⟨a, _, dd, _, _, _, true, rfl, .own c.t, hk, hd', E.t.ec, E.t.k1, ?_⟩⟩
        refine ⟨rfl, _, rfl, iteF ?_⟩
        refine ⟨_, rfl, .inl ⟨a, _, dd, _, _, _, true, rfl, .ty "ValueError", hk, hd', E.t.ec, E.t.ve, ?_⟩⟩
        refine ⟨true, rfl, iteF ?_⟩
        exact ⟨_, rfl, .inl ⟨a, _, dd, _, _, _, false, rfl, .own c.n, hk, hd', E.t.ec, E.t.k0, false, rfl, iteF ⟨_, rfl, a, _, dd, _, _, rfl, hk, hd', E.xt, E.vt, rfl, by show 2 ≤ sizeLine; decide, fun p hp => k p _ (s1.trans (Same.new hp)) upd_same⟩⟩⟩
    · exact h _ fun v H1 k => ⟨_, rfl, rfl, _, rfl, iteT k⟩
end
end K07

set_option Elab.async false
set_option linter.all false
set_option maxRecDepth 100000
set_option maxHeartbeats 4000000
/-! _law_due. -/
namespace K07
open PySem PySem.Spec L2 NX NU
open PyProof.Rows (sortedS risingS)
abbrev sDue : Stmt := top 87
abbrev NDue : List Str := ["_law_site_here", "_law_table_so", "_law_word", "_law_fresh", "_law_at", "_law_one"]
theorem scDue : FnScope NDue ["_law_site_here", "_law_table_so"] (defScope sDue) := ⟨rfl, rfl, rfl, by decide +kernel, rfl, by decide +kernel, by decide +kernel⟩
/-- the keys of a table that is locked, each told -/
theorem lcKt {H : Hp} {dd : Addr} {l : List (Str × V)} {v : Nat} {σ : L2.St} {td te : TE} {g : Str × V → V} {Q : VK} (few : l.length ≤ 1000) (hd : H dd = some (.dK (tbK l)))
    (he : ∀ od R, R (.ref dd) (upd H dd (.frz od (.dK (tbK l)))) → td σ (upd H dd (.frz od (.dK (tbK l)))) R)
    (elt : ∀ od H' q (R : VK), q ∈ l → Same (upd H dd (.frz od (.dK (tbK l)))) H' → R (g q) H' → te ((wipe σ [v]).set v (some (.str q.1))) H' R)
    (k : ∀ D H', Same H H' → H D = none → H' D = some (.lst (l.map g)) → Q (.ref D) H') : tLockE (tLc (iKeys td) (gName v) tYes te [v]) σ H Q := by
  have low : (2000 : Nat) ≤ sizeLine := by decide
  refine ⟨dd, _, hd, trivial, fun od => ?_⟩
  refine he od _ ⟨dd, od, rfl, .inl ⟨tbK l, upd_same, fun D hD => ?_⟩⟩
  have nD : D ≠ dd := fun e => by rw [e, upd_same] at hD; cases hD
  have hD0 : H D = none := by rw [upd_ne nD] at hD; exact hD
  have lenK : (tbK l).length = l.length := by unfold tbK; rw [List.length_map]
  refine lc_it walk_keys (fun i H' => Same (upd H dd (.frz od (.dK (tbK l)))) H' ∧ H' D = some (.lst ((l.take i).map g))) ⟨Same.new hD, upd_same⟩ (fun i H' _ z => z.1 _ _ upd_same) ?_ ?_
  · rintro i x H' H'' hi ⟨sP, dP⟩ ⟨rfl, ky, w, hk, rfl⟩
    unfold tbK at hk
    rw [List.getElem?_map] at hk
    obtain ⟨q, hq, e⟩ := Option.map_eq_some_iff.mp hk
    cases e
    refine ⟨?_, yesT (elt od _ q _ (List.mem_of_getElem? hq) sP ⟨_, dP, by rw [List.length_map, List.length_take]; omega, samePut sP hD, ?_⟩)⟩
    · show ((σ.set v none).set v _).set v none = σ.set v none
      rw [List.set_set, List.set_set]
    · rw [upd_same, List.take_add_one, hq, List.map_append]
      rfl
  · rintro H' ⟨sP, dP⟩
    rw [lenK, List.take_length] at dP
    refine ⟨sP _ _ upd_same, ?_⟩
    refine k D _ (fun b o hb => ?_) hD0 ?_
    · by_cases e : b = dd
      · rw [e] at hb ⊢
        rw [upd_same, ← hd, hb]
      · rw [upd_ne e]
        exact sP _ _ (by rw [upd_ne e]; exact hb)
    · rw [upd_ne nD]
      exact dP
theorem sqFL {K : PySem.W.Frag} {te : TE} {g : TG} {tb tr : TS} {D : L2.Ends} {σ : L2.St} {H : Hp} (h : te σ H fun x H1 => ∃ a, x = .ref a ∧ (∃ xs, SqL K H1 a xs) ∧ tSeq (tFor (fun _ H R => R (Itl K a) H) g tb) tr D σ H1) : tSeq (tFor (iList K te) g tb) tr D σ H := h
theorem uniq_ex : ∀ ws : List Str, ∃ us : List Str, us.Nodup ∧ ∀ y, y ∈ us ↔ y ∈ ws
  | [] => ⟨[], List.nodup_nil, fun _ => Iff.rfl⟩
  | z :: r => by
    obtain ⟨us, nd, h⟩ := uniq_ex r
    by_cases c : z ∈ us
    · refine ⟨us, nd, fun y => ?_⟩
      rw [List.mem_cons, ← h y]
      exact ⟨.inr, fun q => q.elim (fun e => e ▸ c) id⟩
    · refine ⟨z :: us, List.nodup_cons.mpr ⟨c, nd⟩, fun y => ?_⟩
      rw [List.mem_cons, List.mem_cons, h y]
theorem asc_ex (ws : List Str) : ∃ ns, Asc ns ws := by
  obtain ⟨us, nd, h⟩ := uniq_ex ws
  exact ⟨srt us, srt_sorted _, (srt_perm _).nodup_iff.mpr nd, fun y => (srt_perm _).mem_iff.trans (h y)⟩
theorem asc_few {t : Tol} {ns : List Str} (ok : t.Ok) (h : Asc ns t.words) : ns.length ≤ 6 := by
  obtain ⟨pool, hp1, hp2⟩ := ok.six
  exact Nat.le_trans (nodupLen h.2.1 fun z hz => hp1 z ((h.2.2 z).mp hz)) hp2
/-- texts of small signs -/
def TbS (l : List (Str × V)) : Prop := ∀ q ∈ l, ∀ z, q.2 = .str z → okS z
/-- None, or the word and the value of a fault -/
def Due7 (H : Hp) (Q : VK) (r : Option F7) : Prop := (r = none → ∀ H', Same H H' → Q .non H') ∧ ∀ f, r = some f → ∀ p H', Same H H' → H' p = some (.tup [.str f.word, f.val]) → Q (.ref p) H'
def spDue (K : PySem.W.Frag) : Sp := fun vs H Q _ => ∃ (S tn : Addr) (t : Tol) (l : List (Str × V)), vs = [.ref S, .ref tn] ∧ SiteG H S t ∧ t.Ok ∧ H tn = some (.dK (tbK l)) ∧ TbOk K H l ∧ TbS l ∧ ∀ ns, Asc ns t.words → Due7 H Q (fault7 l ns)
section
variable {P : Program} {w : World} {K : PySem.W.Frag} {mg : Str → Option Value} {base : Heap}
theorem ok_due {f : Addr} {fd : FuncData} (F : Fun K "_law_due" "_law_due" sDue f fd) (T : TxtB mg) (TA : TxtA mg) (cLis : C8.Cal P w K mg base 1 "_law_is_name" (spLIs K) []) (cAl : C8.Cal P w K mg base 2 "_law_all_names" spWoG []) : FnOk P w K mg base CX0 3 f fd ["_law_site_here", "_law_table_so"] (spDue K) := by
  refine F.ok scDue (fun vs H Q E h => ?_) (fun cdv A outer s H vs Q E hr h => ?_)
  · obtain ⟨S, tn, t, l, rfl, _⟩ := h
    rfl
  · obtain ⟨S, tn, t, l, rfl, hS, ok, gt, tb, ts, k⟩ := h
    have hu := hu_of hr
    refine ⟨_, (pss_cons (ps_for PassesOwn.never rfl (pi_list (pe_callB cr_sortedS (by rfl) TA.bsorted (by decide +kernel) (pa_cons (pe_lock (pe_lc (own := [("_law_one", 5)]) (g := gName 5) rfl scDue.nd (pi_keys (pv 1)) (blkOk_by (own := [("_law_one", 5)]) (N := NDue) (sc := defScope sDue) (by decide +kernel)) (fun _ _ _ _ _ => pg_name (i := 5) scDue.nd rfl (Or.inl rfl)) (fun _ _ _ _ _ => pts_nil)
          (fun _ _ _ _ _ => pe_callTy SkE.call_str_str (by rfl) T.bstr (by decide +kernel) (pa_cons (pv 5) pa_nil)))) pa_nil))) (pg_name (i := 2) scDue.nd rfl (Or.inl rfl))
        (pss_one (ps_if (pt_not (pt_val (C8.pe_c cLis hr (by decide) rfl (pa_cons (pe_dget hu (pv 1) (pv 2) (fun _ _ => rfl)) pa_nil)))) (pss_one (ps_ret (pe_tup (pa_cons pe_str (pa_cons (pe_dget hu (pv 1) (pv 2) (fun _ _ => rfl)) pa_nil))))) pss_nil)))
      (pss_cons (ps_set (i := 3) scDue.nd rfl (Or.inl rfl) (pe_callB cr_sortedS (by rfl) TA.bsorted (by decide +kernel) (pa_cons (pe_lc (own := [("_law_word", 2)]) (g := gName 2) rfl scDue.nd (pi_list (C8.pe_c cAl hr (by decide) rfl (pa_cons (pv 0) pa_nil))) (blkOk_by (own := [("_law_word", 2)]) (N := NDue) (sc := defScope sDue) (by decide +kernel)) (fun _ _ _ _ _ => pg_name (i := 2) scDue.nd rfl (Or.inl rfl)) (fun _ _ _ _ _ => pts_nil)
          (fun _ _ _ _ _ => show PE _ _ (tCB (fun xs H Q => ∃ a, xs = [V.str a] ∧ Q (V.str a) H) (tCons (tDGet2 (tVar 1) (tVar 2) (tVar 2)) tNil)) from pe_callTy SkE.call_str_str (by rfl) T.bstr (by decide +kernel) (pa_cons (pe_dget2 hu (pv 1) (pv 2) (pv 2) ⟨rfl, rfl, rfl, rfl⟩) pa_nil))) pa_nil)))
      (pss_cons (ps_for PassesOwn.never rfl (pi_range2 (by rfl) T.brange (pa_cons pe_int (pa_cons (pe_callB call_len_seq (by rfl) T.blen (by decide +kernel) (pa_cons (pv 3) pa_nil)) pa_nil))) (pg_name (i := 4) scDue.nd rfl (Or.inl rfl))
        (pss_one (ps_if (pt_cmpR op_eq (pe_ix ix_list (pv 3) (pv 4) (fun _ _ => rfl)) (pe_ix ix_list (pv 3) (pe_op op_sub (pv 4) pe_int) (fun _ _ => rfl)) (nomark _)) (pss_one (ps_ret (pe_tup (pa_cons pe_str (pa_cons (pe_ix ix_list (pv 3) (pv 4) (fun _ _ => rfl)) pa_nil))))) pss_nil)))
      (pss_one (ps_ret pe_non))))), ?_⟩
    have tfew : l.length ≤ 1000 := by have := tb.few; omega
    refine sqFL (cb1 (lcKt (g := fun q => .str q.1) tfew gt (fun od R r => ⟨_, rfl, r⟩) (fun od H' q R hq s2 r => ⟨_, rfl, q.1, rfl, r⟩) (fun L H1 s1 nL gL => ?_)))
    have gL : H1 L = some (.lst ((l.map (·.1)).map V.str)) := by rw [gL, List.map_map]; rfl
    refine ⟨L, l.map (·.1), rfl, SqL.of gL, by rw [List.length_map]; exact tb.few, fun ys p pm so hp => ?_⟩
    obtain rfl := srt_of so pm
    have s2 := s1.trans (Same.new (o := .lst ((srt (l.map (·.1))).map V.str)) hp)
    have gp : (upd H1 p (.lst ((srt (l.map (·.1))).map V.str))) p = some (.lst ((srt (l.map (·.1))).map V.str)) := upd_same
    generalize (upd H1 p (.lst ((srt (l.map (·.1))).map V.str))) = H2 at *
    refine ⟨p, rfl, ⟨_, SqL.of gp⟩, ?_⟩
    refine for_list (xs := (srt (l.map (·.1))).map V.str) (fun i σ H' => Same H2 H' ∧ bad1 l ((srt (l.map (·.1))).drop i) = bad1 l (srt (l.map (·.1))) ∧ ∃ y, σ = [some (.ref S), some (.ref tn), y, none, none, none]) ⟨Same.refl H2, by rw [List.drop_zero], _, rfl⟩ (fun i σ H' _ z => SqL.of (z.1 _ _ gp)) (fun i x0 σ H' hx ⟨s3, ed, y, eσ⟩ => ?_) (fun σ H' ⟨s3, ed, y, eσ⟩ => ?_)
    · subst eσ
      rw [List.getElem?_map] at hx
      obtain ⟨z, hz, rfl⟩ := Option.map_eq_some_iff.mp hx
      obtain ⟨q, hq, rfl⟩ := List.mem_map.mp ((srt_perm _).mem_iff.mp (List.mem_of_getElem? hz))
      have st := bad1_step (l := l) hz
      have tq := tv_at tb.nd hq
      rw [ed, tq] at st
      have t3 := s2.trans s3
      have dg : ∀ {H'}, Same H H' → DGet H' tn (.str q.1) (some q.2) := fun s => by
        rw [← tq]
        exact DGet.k (k := .inr q.1) (s _ _ gt)
      have k1 : bad1 l (srt (l.map (·.1))) = some q.2 → ∀ p H', Same H H' → H' p = some (.tup [.str "name", q.2]) → Q (.ref p) H' := fun e => by
        obtain ⟨ns, hn⟩ := asc_ex t.words
        exact (k ns hn).2 (.nam q.2) (fault_bad e)
      refine ⟨_, rfl, _, rfl, tn, q.2, rfl, dg t3, ?_⟩
      cases cn : nmV q.2 with
      | true =>
        rw [show (some q.2).getD V.non = q.2 from rfl, cn, if_pos rfl] at st
        rcases (tb.same t3).vals q hq with ⟨z, ez, lz⟩ | hn
        · rw [ez] at cn
          have cn : nm z = true := cn
          refine ⟨_, rfl, .inl ⟨z, ez, lz, ts q hq z ez, fun H4 s4 => ?_⟩⟩
          rw [cn]
          exact ⟨_, rfl, iteF ⟨s3.trans s4, st.symm, _, rfl⟩⟩
        · cases eq : q.2 with
          | str z => exact (noStr_str (eq ▸ hn _ (Same.refl _))).elim
          | _ => rw [eq] at cn; cases cn
      | false =>
        rw [show (some q.2).getD V.non = q.2 from rfl, cn, if_neg (by decide)] at st
        have k1 := k1 st
        rcases (tb.same t3).vals q hq with ⟨z, ez, lz⟩ | hn
        · rw [ez] at cn
          have cn : nm z = false := cn
          refine ⟨_, rfl, .inl ⟨z, ez, lz, ts q hq z ez, fun H4 s4 => ?_⟩⟩
          rw [cn]
          exact ⟨_, rfl, iteT ⟨_, rfl, _, rfl, tn, q.2, rfl, dg (t3.trans s4), by show 2 ≤ sizeLine; decide, fun p2 hp2 => k1 p2 _ ((t3.trans s4).trans (Same.new hp2)) upd_same⟩⟩
        · exact ⟨_, rfl, .inr ⟨hn _ (Same.refl _), _, rfl, iteT ⟨_, rfl, _, rfl, tn, q.2, rfl, dg t3, by show 2 ≤ sizeLine; decide, fun p2 hp2 => k1 p2 _ (t3.trans (Same.new hp2)) upd_same⟩⟩⟩
    · subst eσ
      rw [List.length_map, List.drop_length] at ed
      have hb : bad1 l (srt (l.map (·.1))) = none := ed.symm
      have t3 := s2.trans s3
      dsimp only
      refine sqA (cb1 (lcOf ⟨_, rfl, S, t, rfl, hS.same t3, ok, fun ns pN H4 s4 gN asc => ⟨pN, rfl, ⟨_, SqL.of gN⟩, ?_⟩⟩))
      have t4 := t3.trans s4
      have lns := asc_few ok asc
      have k := k ns asc
      rw [fault_twi hb] at k
      refine lcLs (g := fun z => .str (tf l z)) (SqL.of gN) (by omega) (show 2 < 6 by decide) (fun z hz H' R s5 q => ⟨_, rfl, tn, rfl, .inl ⟨_, .inl (s5 _ _ (t4 _ _ gt))⟩, _, rfl, _, rfl, tv l z, DGet.k (k := .inr z) (s5 _ _ (t4 _ _ gt)), by rw [tv_or tb.nd hb z]; exact ⟨tf l z, rfl, q⟩⟩) (fun G H5 s5 nG gG => ?_)
      have gG : H5 G = some (.lst ((ns.map (tf l)).map V.str)) := by rw [gG, List.map_map]; rfl
      refine ⟨G, ns.map (tf l), rfl, SqL.of gG, by rw [List.length_map]; omega, fun us p2 pm2 so2 hp2 => ?_⟩
      obtain rfl := srt_of so2 pm2
      have lus : (srt (ns.map (tf l))).length ≤ 6 := by rw [(srt_perm _).length_eq, List.length_map]; exact lns
      generalize srt (ns.map (tf l)) = us at *
      have s6 := (t4.trans s5).trans (Same.new (o := .lst (us.map V.str)) hp2)
      have gp2 : (upd H5 p2 (.lst (us.map V.str))) p2 = some (.lst (us.map V.str)) := upd_same
      generalize (upd H5 p2 (.lst (us.map V.str))) = H6 at *
      refine ⟨_, rfl, p2, _, rfl, .inl (SqL.of gp2), _, _, rfl, by rw [List.length_map]; omega, ?_⟩
      have en : (((us.map V.str).length : Int) - 1).toNat = us.length - 1 := by rw [List.length_map]; omega
      rw [en]
      refine for_range (lo := 1) (n := us.length - 1) (fun i σ H' => Same H6 H' ∧ dup1 (us.drop i) = dup1 us ∧ ∃ x4, σ = [some (.ref S), some (.ref tn), y, some (.ref p2), x4, none]) ⟨Same.refl H6, by rw [List.drop_zero], _, rfl⟩ (fun i σ H7 hi ⟨s7, ed, x4, eσ⟩ => ?_) (fun σ H7 ⟨s7, ed, x4, eσ⟩ => ?_)
      · subst eσ
        have e1 : (1 : Int) + (i : Int) = ((i + 1 : Nat) : Int) := by omega
        rw [e1]
        have ha : us[i]? = some us[i] := List.getElem?_eq_getElem (by omega)
        have hb : us[i + 1]? = some us[i + 1] := List.getElem?_eq_getElem (by omega)
        have st := dup1_step ha hb
        rw [ed] at st
        have gp3 := s7 _ _ gp2
        refine ⟨_, rfl, _, rfl, p2, _, ((i + 1 : Nat) : Int), .str us[i + 1], rfl, rfl, SqL.of gp3, atI_nat (by rw [List.getElem?_map, hb]; rfl), ?_⟩
        refine ⟨_, rfl, _, rfl, _, _, rfl, rfl, p2, _, ((i : Nat) : Int), .str us[i], rfl, congrArg V.int (show ((i + 1 : Nat) : Int) - 1 = ((i : Nat) : Int) by omega), SqL.of gp3, atI_nat (by rw [List.getElem?_map, ha]; rfl), rfl, _, rfl, ?_⟩
        by_cases eq : us[i + 1] = us[i]
        · rw [if_pos eq] at st
          rw [decide_eq_true (congrArg V.str eq)]
          refine iteT ⟨_, rfl, _, rfl, p2, _, ((i + 1 : Nat) : Int), .str us[i + 1], rfl, rfl, SqL.of gp3, atI_nat (by rw [List.getElem?_map, hb]; rfl), by show 2 ≤ sizeLine; decide, fun p3 hp3 => ?_⟩
          exact k.2 (.twi us[i + 1]) (by rw [st]; rfl) p3 _ ((s6.trans s7).trans (Same.new hp3)) upd_same
        · rw [if_neg eq] at st
          rw [decide_eq_false (fun z => eq (by injection z))]
          exact iteF ⟨s7, st.symm, _, rfl⟩
      · subst eσ
        have z : dup1 us = none := by rw [← ed]; exact dup1_end (by omega)
        exact k.1 (by rw [z]; rfl) H7 (s6.trans s7)
end
end K07

set_option Elab.async false
set_option linter.all false
set_option maxRecDepth 100000
set_option maxHeartbeats 4000000
/-! d.get(y, x), y may be None. -/
namespace NZ8
open PySem PySem.Spec PyProof.Rows L2
section
variable {X : Cx} {pins : List (Addr × Obj)} {σ : L2.St} {H : Hp} {s : Shared} {a : Addr} {d : V} {r : Value} {kvs : List (Key × V)} {A : Around} {E : Value → Shared → Prop}
theorem getNone {Q : Value → Shared → Prop} (I : Inv X pins σ H s) (e : Rd H a (.dK kvs)) (rd : RelV d r) (h : ∀ w' s', Inv X pins σ H s' → RelV d w' → Q w' s') :
    wpAny (model X.prog X.w) A (call (.builtin "dict.get") [.ref a, .none, r]) Q E s := by
  obtain ⟨z, hd, vs, rel, dd⟩ := dk_rd I.hok e
  obtain ⟨f, hm, hf⟩ := none_map dd
  refine call_meetsIn PySem.F.slot_dict_get dd.typeIs PySem.F.entry_dict_get (PySem.F.args_dict_get_3 _ _ _) (meets_dict_get_default (noneKind X.prog X.w) a (k := none) rfl hd r) ⟨f, hm, h _ _ (I.tok _) ?_⟩
  rw [hf]
  exact rd
end
def tDGetN (td ty tx : TE) : TE := fun σ H Q => td σ H fun x H1 => ∃ a, x = .ref a ∧ IsD H1 a ∧ ty σ H1 fun y H2 => tx σ H2 fun z H3 => (∃ o, DGet H3 a y o ∧ Q (o.getD z) H3) ∨ ∃ kvs, y = .non ∧ Rd H3 a (.dK kvs) ∧ Q z H3
section
variable {X : Cx} {o e f : Expr} {apos cpos : Pos} {td ty tx : TE}
theorem pe_dgetN (hu : X.A.units + 1 < cLine) (ho : PE X o td) (he : PE X e ty) (hf : PE X f tx) (m : M2 X o "get" apos e f cpos) : PE X (.Call (.Attribute o "get" apos) [e, f] [] cpos) (tDGetN td ty tx) := by
  refine ⟨fun pins s σ H Q I h => ?_⟩
  refine wpAny_Call_method m.base m.few m.line PySem.F.plainAttrs_dict PySem.F.slot_dict_get PySem.F.type_dict_get (thn (ho.run pins s σ H _ I h) fun u s1 ⟨x, H1, I1, rx, a, ex, d, q1⟩ => ?_)
  subst ex
  obtain rfl : u = Value.ref a := rx
  obtain ⟨t1, t2, _⟩ := isD_at I1 d
  refine ⟨t1, t2, ?_⟩
  rw [m.trees]
  refine Calls.callWith_builtin rfl (Calls.evalArgs_plain (Calls.spliced_cons (thn (he.run pins s1 σ H1 _ I1 q1) fun iv s2 ⟨y, H2, I2, ry, q2⟩ =>
    Calls.spliced_cons (thn (hf.run pins s2 σ H2 _ I2 q2) fun fv s3 ⟨z, H3, I3, rz, q3⟩ => Calls.spliced_nil ?_))))
  rcases q3 with ⟨ov, g, q3⟩ | ⟨kvs, ey, g, q3⟩
  · exact d_get2 hu I3 g ry rz fun w' s4 I4 rw' => ⟨_, H3, I4, rw', q3⟩
  · subst ey
    obtain rfl : iv = Value.none := ry
    exact getNone I3 g rz fun w' s4 I4 rw' => ⟨_, H3, I4, rw', q3⟩
end
end NZ8

set_option Elab.async false
set_option linter.all false
set_option maxRecDepth 100000
set_option maxHeartbeats 4000000
/-! _law_led. -/
namespace K07
open PySem PySem.Spec L2 NX NU
open PyProof.Rows (sortedS risingS)
abbrev sLed : Stmt := top 88
abbrev NLed : List Str := ["_law_site_here", "_law_table_so", "_law_found", "_law_part", "_law_lots", "_law_made", "_law_used", "_law_word"]
theorem scLed : FnScope NLed ["_law_site_here", "_law_table_so"] (defScope sLed) := ⟨rfl, rfl, rfl, by decide +kernel, rfl, by decide +kernel, by decide +kernel⟩
theorem tpA {t : TA} {σ : L2.St} {H : Hp} {Q : VK} (h : t σ H fun vs H1 => vs.length ≤ sizeLine ∧ ∀ p, H1 p = none → Q (.ref p) (upd H1 p (.tup vs))) : tTup t σ H Q := h
theorem getW {l : List (Str × V)} {σ : L2.St} {H : Hp} {Q : VK} {tn : Addr} {i j : Nat} {z : Str} (hi : σ[i]? = some (some (.ref tn))) (hj : σ[j]? = some (some (.str z))) (gt : Rd H tn (.dK (tbK l))) (nd : (l.map (·.1)).Nodup) (hb : bad1 l (srt (l.map (·.1))) = none) (q : Q (.str (tf l z)) H) : tDGet2 (tVar i) (tVar j) (tVar j) σ H Q :=
  ⟨_, hi, tn, rfl, .inl ⟨_, gt⟩, _, hj, _, hj, tv l z, .inl ⟨_, .inr z, gt, rfl, rfl⟩, by rw [tv_or nd hb z]; exact q⟩
theorem getMk {l : List (Str × V)} {σ : L2.St} {H : Hp} {Q : VK} {tn : Addr} {i j : Nat} {mk : Option Str} (hi : σ[i]? = some (some (.ref tn))) (hj : σ[j]? = some (some (mkV mk))) (gt : H tn = some (.dK (tbK l))) (nd : (l.map (·.1)).Nodup) (hb : bad1 l (srt (l.map (·.1))) = none) (q : Q (mkV (mk.map (tf l))) H) : NZ8.tDGetN (tVar i) (tVar j) (tVar j) σ H Q := by
  refine ⟨_, hi, tn, rfl, .inl ⟨_, .inl gt⟩, _, hj, _, hj, ?_⟩
  cases mk with
  | none => exact .inr ⟨_, rfl, .inl gt, q⟩
  | some z => exact .inl ⟨tv l z, DGet.k (k := .inr z) gt, by rw [show mkV (some z) = .str z from rfl, tv_or nd hb z]; exact q⟩
theorem dgSame {H H' : Hp} {a : Addr} {y : V} {r : Option V} (s : Same H H') (h : DGet H a y r) : DGet H' a y r :=
  h.imp (fun ⟨kvs, k, rd, ey, er⟩ => ⟨kvs, k, rd.imp (s _ _) (fun ⟨o, q⟩ => ⟨o, s _ _ q⟩), ey, er⟩) fun ⟨kvs, k, b, rd, ey, eb, er⟩ => ⟨kvs, k, b, rd.imp (s _ _) (fun ⟨o, q⟩ => ⟨o, s _ _ q⟩), ey, s _ _ eb, er⟩
theorem LotsX.same {L N : Addr} {H H' : Hp} {ts : List Addr} {as : List Act} (s : Same H H') (h : LotsX L N H ts as) : LotsX L N H' ts as :=
  ⟨h.1, fun i t a e1 e2 => (h.2 i t a e1 e2).imp fun _ q => ⟨q.1, q.2.1, s _ _ q.2.2.1, s _ _ q.2.2.2⟩⟩
/-- a site, its parts by their places -/
def skF (gv ag r : V) (wv : Nat → V) : List (Key × V) := sk8 gv ag (wv 1) (wv 2) (wv 3) (wv 4) (wv 0) r
theorem skF_put {gv ag r : V} {wv : Nat → V} {i : Nat} {z : Str} (v : V) (h : partN[i]? = some z) : putK (skF gv ag r wv) (.inr z) v = skF gv ag r fun j => if j = i then v else wv j := by
  match i, h with
  | 0, h => cases h; rfl
  | 1, h => cases h; rfl
  | 2, h => cases h; rfl
  | 3, h => cases h; rfl
  | 4, h => cases h; rfl
  | n + 5, h => cases h
/-- the pairs (f(k), d[k]) of a dict that is locked -/
theorem lcAg {H : Hp} {ag : Addr} {l : List (Str × Int)} {f : Str → Str} {v : Nat} {σ : L2.St} {td t1 t2 : TE} {Q : VK} (ea : AgD H ag l) (few : l.length ≤ 1000)
    (he : ∀ od R, R (.ref ag) (upd H ag (.frz od (.dK (agK l)))) → td σ (upd H ag (.frz od (.dK (agK l)))) R)
    (elt : ∀ od H' q (R : VK), q ∈ l → Same (upd H ag (.frz od (.dK (agK l)))) H' → R (.str (f q.1)) H' → t1 ((wipe σ [v]).set v (some (.str q.1))) H' R)
    (elv : ∀ od H' q (R : VK), q ∈ l → Same (upd H ag (.frz od (.dK (agK l)))) H' → R (.int q.2) H' → t2 ((wipe σ [v]).set v (some (.str q.1))) H' R)
    (k : ∀ D H' (ps : List Addr), Same H H' → H D = none → H' D = some (.lst (ps.map V.ref)) → PrT H' ps (l.map fun q => (f q.1, q.2)) → Q (.ref D) H') :
    tLockE (tLc (iKeys td) (gName v) tYes (tTup (tCons t1 (tCons t2 tNil))) [v]) σ H Q := by
  have low : (2000 : Nat) ≤ sizeLine := by decide
  refine ⟨ag, _, ea, trivial, fun od => ?_⟩
  refine he od _ ⟨ag, od, rfl, .inl ⟨agK l, upd_same, fun D hD => ?_⟩⟩
  have nD : D ≠ ag := fun e => by rw [e, upd_same] at hD; cases hD
  have hD0 : H D = none := by rw [upd_ne nD] at hD; exact hD
  refine lc_it walk_keys (fun i H' => Same (upd H ag (.frz od (.dK (agK l)))) H' ∧ ∃ ps : List Addr, ps.length = i ∧ H' D = some (.lst (ps.map V.ref)) ∧ PrT H' ps ((l.take i).map fun q => (f q.1, q.2))) ⟨Same.new hD, [], rfl, upd_same, by rw [List.take_zero]; trivial⟩ (fun i H' _ z => z.1 _ _ upd_same) ?_ ?_
  · rintro i x H' H'' hi ⟨sP, ps, lp, dP, pr⟩ ⟨rfl, ky, w, hk, rfl⟩
    unfold agK at hk hi
    rw [List.getElem?_map] at hk
    rw [List.length_map] at hi
    obtain ⟨q, hq, e⟩ := Option.map_eq_some_iff.mp hk
    cases e
    have mq := List.mem_of_getElem? hq
    refine ⟨?_, yesT (tpA (csA (elt od _ q _ mq sP (csA (elv od _ q _ mq sP ⟨by show 2 ≤ sizeLine; omega, fun t ht => ?_⟩)))))⟩
    · show ((σ.set v none).set v _).set v none = σ.set v none
      rw [List.set_set, List.set_set]
    · have s5 := Same.new (o := .tup [.str (f q.1), .int q.2]) ht
      have g5 : (upd H'' t (.tup [.str (f q.1), .int q.2])) t = some (.tup [.str (f q.1), .int q.2]) := upd_same
      have dP5 := s5 _ _ dP
      have pr5 := (pr.keep fun t q e => s5 _ _ e).snoc g5
      have sP5 := sP.trans s5
      show ∃ acc, (upd H'' t (.tup [.str (f q.1), .int q.2])) D = _ ∧ _
      generalize (upd H'' t (.tup [.str (f q.1), .int q.2])) = H5 at *
      refine ⟨_, dP5, by rw [List.length_map]; omega, samePut sP5 hD, ps ++ [t], by rw [List.length_append, lp]; rfl, by rw [upd_same, List.map_append]; rfl, ?_⟩
      rw [List.take_add_one, hq, List.map_append]
      exact pr5.keep fun t q e => (upd_ne (fun n => by rw [n, dP5] at e; cases e)).trans e
  · rintro H' ⟨sP, ps, lp, dP, pr⟩
    rw [agK_len, List.take_length] at pr
    refine ⟨sP _ _ upd_same, ?_⟩
    have gag := sP _ _ upd_same
    refine k D _ ps (fun b o hb => ?_) hD0 ?_ (pr.keep fun t q e => (upd_ne (fun n => by rw [n, gag] at e; cases e)).trans e)
    · by_cases e : b = ag
      · have ea : H ag = some (.dK (agK l)) := ea
        rw [e] at hb ⊢
        rw [upd_same, ← ea, hb]
      · rw [upd_ne e]
        exact sP _ _ (by rw [upd_ne e]; exact hb)
    · rw [upd_ne nD]
      exact dP
def spLed : Sp := fun vs H Q _ => ∃ (S tn : Addr) (t : Tol) (l : List (Str × V)) (ws : List Str), vs = [.ref S, .ref tn] ∧ SiteG H S t ∧ t.Ok ∧ H tn = some (.dK (tbK l)) ∧ (l.map (·.1)).Nodup ∧ bad1 l (srt (l.map (·.1))) = none ∧ RnOk ws (tf l) ∧ (∀ z ∈ t.words, z ∈ ws) ∧ ∀ S' H', Same H H' → SiteG H' S' (t.rn (tf l)) → Q (.ref S') H'
section
variable {P : Program} {w : World} {K : PySem.W.Frag} {mg : Str → Option Value} {base : Heap}
theorem ok_led {f : Addr} {fd : FuncData} (F : Fun K "_law_led" "_law_led" sLed f fd) (T : TxtB mg) (N : TxtP mg) (cOr : C8.Cal P w K mg base 1 "_law_order" spOr []) : FnOk P w K mg base CX0 3 f fd ["_law_site_here", "_law_table_so"] spLed := by
  refine F.ok scLed (fun vs H Q E h => ?_) (fun cdv A outer s H vs Q E hr h => ?_)
  · obtain ⟨S, tn, t, l, ws, rfl, _⟩ := h
    rfl
  · obtain ⟨S, tn, t, l, ws, rfl, hS, ok, gt, nd, hb, ro, hin, k⟩ := h
    have hu := hu_of hr
    refine ⟨_, (pss_cons (ps_set (i := 2) scLed.nd rfl (Or.inl rfl) (pe_callTy call_dictD (by rfl) N.bdict (by decide +kernel) (pa_cons (pv 0) pa_nil)))
      (pss_cons (ps_for PassesOwn.never rfl (pi_list (pe_c0 cOr hr (by decide) rfl)) (pg_name (i := 3) scLed.nd rfl (Or.inl rfl))
        (pss_one (ps_if (pt_cmpR op_notN (pe_dget hu (pv 0) (pv 3) (fun _ _ => rfl)) pe_non (nomark _))
          (pss_cons (ps_set (i := 4) scLed.nd rfl (Or.inl rfl) (pe_lst pa_nil))
          (pss_cons (ps_for PassesOwn.never rfl (pi_list (pe_dget hu (pv 0) (pv 3) (fun _ _ => rfl))) (pg_tup rfl (pgs_cons (pg_name (i := 5) scLed.nd rfl (Or.inl rfl)) (pgs_cons (pg_name (i := 6) scLed.nd rfl (Or.inl rfl)) pgs_nil)))
            (pss_one (ps_expr (pe_bm PySem.F.plainAttrs_list PySem.F.slot_list_append PySem.F.type_list_append mt_append (pv 4) (pa_cons (pe_tup (pa_cons (NZ8.pe_dgetN hu (pv 1) (pv 5) (pv 5) ⟨rfl, rfl, rfl, rfl⟩) (pa_cons (pe_lc (own := [("_law_word", 7)]) (g := gName 7) rfl scLed.nd (pi_list (pv 6)) (blkOk_by (own := [("_law_word", 7)]) (N := NLed) (sc := defScope sLed) (by decide +kernel)) (fun _ _ _ _ _ => pg_name (i := 7) scLed.nd rfl (Or.inl rfl)) (fun _ _ _ _ _ => pts_nil)
              (fun _ _ _ _ _ => show PE _ _ (tDGet2 (tVar 1) (tVar 7) (tVar 7)) from pe_dget2 hu (pv 1) (pv 7) (pv 7) ⟨rfl, rfl, rfl, rfl⟩)) pa_nil))) pa_nil)))))
          (pss_one (ps_dput hu (pv 2) (pv 3) (pv 4) rfl)))) pss_nil)))
      (pss_cons (ps_dput hu (pv 2) pe_str (pe_lc (own := [("_law_word", 7)]) (g := gName 7) rfl scLed.nd (pi_list (pe_dget hu (pv 0) pe_str (fun _ _ => rfl))) (blkOk_by (own := [("_law_word", 7)]) (N := NLed) (sc := defScope sLed) (by decide +kernel)) (fun _ _ _ _ _ => pg_name (i := 7) scLed.nd rfl (Or.inl rfl)) (fun _ _ _ _ _ => pts_nil)
              (fun _ _ _ _ _ => show PE _ _ (tDGet2 (tVar 1) (tVar 7) (tVar 7)) from pe_dget2 hu (pv 1) (pv 7) (pv 7) ⟨rfl, rfl, rfl, rfl⟩)) rfl)
      (pss_cons (ps_dput hu (pv 2) pe_str (pe_lc (own := [("_law_word", 7)]) (g := gName 7) rfl scLed.nd (pi_list (pe_dget hu (pv 0) pe_str (fun _ _ => rfl))) (blkOk_by (own := [("_law_word", 7)]) (N := NLed) (sc := defScope sLed) (by decide +kernel)) (fun _ _ _ _ _ => pg_name (i := 7) scLed.nd rfl (Or.inl rfl)) (fun _ _ _ _ _ => pts_nil)
              (fun _ _ _ _ _ => show PE _ _ (tDGet2 (tVar 1) (tVar 7) (tVar 7)) from pe_dget2 hu (pv 1) (pv 7) (pv 7) ⟨rfl, rfl, rfl, rfl⟩)) rfl)
      (pss_cons (ps_dput hu (pv 2) pe_str (pe_callTy (call_dictP rfl) (by rfl) N.bdict (by decide +kernel) (pa_cons (pe_lock (pe_lc (own := [("_law_word", 7)]) (g := gName 7) rfl scLed.nd (pi_keys (pe_dget hu (pv 0) pe_str (fun _ _ => rfl))) (blkOk_by (own := [("_law_word", 7)]) (N := NLed) (sc := defScope sLed) (by decide +kernel)) (fun _ _ _ _ _ => pg_name (i := 7) scLed.nd rfl (Or.inl rfl)) (fun _ _ _ _ _ => pts_nil)
              (fun _ _ _ _ _ => show PE _ _ (tTup (tCons (tDGet2 (tVar 1) (tVar 7) (tVar 7)) (tCons (tDGet (tDGet (tVar 0) (tC (.str "again"))) (tVar 7)) tNil))) from pe_tup (pa_cons (pe_dget2 hu (pv 1) (pv 7) (pv 7) ⟨rfl, rfl, rfl, rfl⟩) (pa_cons (pe_dget hu (pe_dget hu (pv 0) pe_str (fun _ _ => rfl)) (pv 7) (fun _ _ => rfl)) pa_nil))))) pa_nil)) rfl)
      (pss_one (ps_ret (pv 2)))))))), ?_⟩
    obtain ⟨gv, ag, r, vl, vb, vx, vh, vL, e, e1, e2, e6, p1, p2, p3, p4, p5⟩ := id hS.ex
    have hsz := ok.size
    have low : (2000 : Nat) ≤ sizeLine := by decide
    obtain ⟨wv0, ew, hw0⟩ : ∃ wv : Nat → V, sk8 (.ref gv) (.ref ag) vl vb vx vh vL (.ref r) = skF (.ref gv) (.ref ag) (.ref r) wv ∧ ∀ j, j < 5 → PtI H (wv j) (t.g.at j) := ⟨fun j => match j with
      | 0 => vL
      | 1 => vl
      | 2 => vb
      | 3 => vx
      | _ => vh, rfl, fun j j5 => by
        rcases five j5 with rfl | rfl | rfl | rfl | rfl
        · exact p1
        · exact p2
        · exact p3
        · exact p4
        · exact p5⟩
    rw [ew] at e
    refine ⟨_, rfl, S, _, rfl, .inl e, fun F hF => ?_⟩
    have s1 : Same H (upd H F (.dK (skF (.ref gv) (.ref ag) (.ref r) wv0))) := Same.new hF
    have gF : (upd H F (.dK (skF (.ref gv) (.ref ag) (.ref r) wv0))) F = some (.dK (skF (.ref gv) (.ref ag) (.ref r) wv0)) := upd_same
    generalize (upd H F (.dK (skF (.ref gv) (.ref ag) (.ref r) wv0))) = H1 at *
    have hw1 : ∀ j, j < 5 → PtI H1 (wv0 j) (t.g.at j) := fun j j5 => (hw0 j j5).same s1
    refine ⟨rfl, fun o H2 s2 ho go => ⟨o, rfl, ⟨_, SqL.of go⟩, ?_⟩⟩
    have t2 := s1.trans s2
    refine for_list (xs := partN.map V.str) (fun i σ H' => Same H H' ∧ (∃ wv : Nat → V, H' F = some (.dK (skF (.ref gv) (.ref ag) (.ref r) wv)) ∧ ∀ j, j < 5 → PtI H' (wv j) (if j < i then (t.g.rn (tf l)).at j else t.g.at j)) ∧ H' o = some (.lst (partN.map V.str)) ∧ ∃ x3 x4 x5 x6, σ = [some (.ref S), some (.ref tn), some (.ref F), x3, x4, x5, x6, none])
      ⟨t2, ⟨wv0, s2 _ _ gF, fun j j5 => by rw [if_neg (Nat.not_lt_zero j)]; exact (hw1 j j5).same s2⟩, go, _, _, _, _, rfl⟩ (fun i σ H' _ z => SqL.of z.2.2.1) (fun i x0 σ H' hx ⟨s3, ⟨wv, gF3, hw⟩, go3, x3, x4, x5, x6, eσ⟩ => ?_) (fun σ H' ⟨s3, ⟨wv, gF3, hw⟩, go3, x3, x4, x5, x6, eσ⟩ => ?_)
    · subst eσ
      rw [List.getElem?_map] at hx
      obtain ⟨z, hz, rfl⟩ := Option.map_eq_some_iff.mp hx
      have i5 := (partF hz).1
      obtain ⟨v, dg, pi⟩ := (hS.same s3).part ok hz
      refine ⟨_, rfl, _, rfl, S, v, rfl, dg, rfl, _, rfl, ?_⟩
      cases hat : t.g.at i with
      | none =>
        rw [hat] at pi
        obtain rfl : v = .non := pi
        refine iteF ⟨s3, ⟨wv, gF3, fun j j5 => ?_⟩, go3, _, _, _, _, rfl⟩
        have h := hw j j5
        by_cases c1 : j < i
        · rw [if_pos c1] at h
          rw [if_pos (by omega)]
          exact h
        · rw [if_neg c1] at h
          by_cases c2 : j = i
          · rw [if_pos (by omega), rn_at, c2, hat]
            rw [c2, hat] at h
            exact h
          · rw [if_neg (by omega)]
            exact h
      | some as =>
        rw [hat] at pi
        obtain ⟨L, rfl, ⟨ts, gT, lt⟩, h200, lo⟩ := pi
        refine iteT ?_
        refine ⟨by show 0 ≤ sizeLine; omega, fun Lx hLx => ?_⟩
        have s4 : Same H' (upd H' Lx (.lst [])) := Same.new hLx
        have gL : (upd H' Lx (.lst [])) Lx = some (.lst []) := upd_same
        generalize (upd H' Lx (.lst [])) = H4 at *
        refine ⟨_, rfl, _, rfl, S, .ref L, rfl, dgSame s4 dg, L, rfl, ⟨_, SqL.of (s4 _ _ gT)⟩, ?_⟩
        refine for_list (xs := ts.map V.ref) (fun j σ H5 => Same H' H5 ∧ (∃ xs : List Addr, H5 Lx = some (.lst (xs.map V.ref)) ∧ LotsX Lx Lx H5 xs ((as.take j).map (rnA (tf l)))) ∧ ∃ x5 x6, σ = [some (.ref S), some (.ref tn), some (.ref F), some (.str z), some (.ref Lx), x5, x6, none])
          ⟨s4, ⟨[], gL, by rw [List.take_zero]; exact ⟨rfl, nofun⟩⟩, _, _, rfl⟩ (fun j σ H5 _ z => SqL.of (z.1 _ _ gT)) (fun j x1 σ H5 hx ⟨s5, ⟨xs, gx, lx⟩, x5, x6, eσ⟩ => ?_) (fun σ H5 ⟨s5, ⟨xs, gx, lx⟩, x5, x6, eσ⟩ => ?_)
        · subst eσ
          rw [List.getElem?_map] at hx
          obtain ⟨t1, ht, rfl⟩ := Option.map_eq_some_iff.mp hx
          have hj : j < as.length := by rw [← lt.1]; exact (List.getElem?_eq_some_iff.mp ht).1
          obtain ⟨a, ha⟩ : ∃ a, as[j]? = some a := ⟨_, List.getElem?_eq_getElem hj⟩
          obtain ⟨u, g1, g2⟩ := lt.2 j t1 a ht ha
          have la := lo a (List.mem_of_getElem? ha)
          have t5 := s3.trans s5
          refine ⟨t1, _, rfl, SqT.of (s5 _ _ g1), rfl, _, _, rfl, _, _, rfl, rfl, ?_⟩
          refine ⟨_, rfl, .inl ⟨rfl, _, SqL.of gx⟩, csA (tpA (csA (getMk (mk := a.1) rfl rfl (t5 _ _ gt) nd hb (csA (lcOf ⟨_, rfl, u, rfl, ⟨_, SqL.of (s5 _ _ g2)⟩, ?_⟩)))))⟩
          refine lcLs (g := fun z => .str (tf l z)) (SqL.of (s5 _ _ g2)) (by have := la.few; omega) (show 7 < 8 by decide) (fun w hw H6 R s6 q => getW rfl rfl (.inl (s6 _ _ (t5 _ _ gt))) nd hb q) (fun U H6 s6 nU gU => ?_)
          have gU : H6 U = some (.lst ((a.2.map (tf l)).map V.str)) := by rw [gU, List.map_map]; rfl
          refine ⟨by show 2 ≤ sizeLine; omega, fun q hq => ?_⟩
          have UL : U ≠ Lx := fun e => by rw [e, gx] at nU; cases nU
          have s7 := s6.trans (Same.new (o := .tup [mkV (a.1.map (tf l)), .ref U]) hq)
          have gq : (upd H6 q (.tup [mkV (a.1.map (tf l)), .ref U])) q = some (.tup [mkV (a.1.map (tf l)), .ref U]) := upd_same
          have gU := (Same.new (o := .tup [mkV (a.1.map (tf l)), .ref U]) hq) _ _ gU
          generalize (upd H6 q (.tup [mkV (a.1.map (tf l)), .ref U])) = H7 at *
          have gx7 := s7 _ _ gx
          have lx7 := (lx.same s7).snoc UL UL gq gU
          have xl := lx.1
          rw [List.length_map, List.length_take] at xl
          refine ⟨Lx, _, _, rfl, rfl, gx7, by rw [List.length_map]; omega, samePut (s5.trans s7) hLx, ⟨xs ++ [q], by rw [upd_same, List.map_append]; rfl, ?_⟩, _, _, rfl⟩
          rw [takeSnoc ha, List.map_append]
          exact lx7.put (.inl rfl) gx7
        · subst eσ
          rw [List.length_map, lt.1, List.take_length] at lx
          have t5 := s3.trans s5
          have gF5 := s5 _ _ gF3
          refine ⟨_, rfl, _, rfl, _, rfl, F, _, rfl, DPut.k (k := .inr z) gF5 (by show 8 < sizeLine; omega), ?_⟩
          have mi : ∀ a ∈ as, a ∈ t.g.acts := fun a ha => at_sub i5 (by rw [hat]; exact ha)
          refine ⟨sameUpd t5 hF, ⟨_, by rw [upd_same, skF_put _ hz], fun j j5 => ?_⟩, ?_, _, _, _, _, rfl⟩
          · refine PtI.putD gF5 ?_
            by_cases c2 : j = i
            · rw [if_pos c2, if_pos (by omega), c2, rn_at, hat]
              refine ⟨Lx, rfl, ⟨xs, gx, lx.toT⟩, by rw [rn_len]; exact h200, fun b hb2 => ?_⟩
              obtain ⟨a, ha, rfl⟩ := List.mem_map.mp hb2
              refine LotOk.rn ro (lo a ha) fun y hy => hin y ?_
              unfold Tol.words
              exact List.mem_append_right _ (actsN_at (mi a ha) hy)
            · rw [if_neg c2]
              have h := (hw j j5).same s5
              by_cases c1 : j < i
              · rw [if_pos c1] at h
                rw [if_pos (by omega)]
                exact h
              · rw [if_neg c1] at h
                rw [if_neg (by omega)]
                exact h
          · have go5 := s5 _ _ go3
            rw [upd_ne (fun e => by rw [e, gF5] at go5; cases go5)]
            exact go5
    · subst eσ
      have hw : ∀ j, j < 5 → PtI H' (wv j) ((t.g.rn (tf l)).at j) := fun j j5 => by
        have h := hw j j5
        rw [if_pos (show j < (partN.map V.str).length from j5)] at h
        exact h
      have wds : ∀ {z : Str}, z ∈ t.us ∨ z ∈ t.rs → z ∈ t.words := fun {z} h => by
        unfold Tol.words
        rw [List.mem_append, List.mem_append, List.mem_append]
        rcases h with h | h
        · exact .inl (.inl (.inl h))
        · exact .inl (.inr h)
      have lus := ok.us.few
      have lrs := ok.rs.few
      have lag := ok.ag.few
      dsimp only
      refine sdp (lcOf ⟨_, rfl, S, _, rfl, DGet.k (k := .inr "given") (s3 _ _ e), gv, rfl, ⟨_, SqL.of (s3 _ _ e1)⟩, ?_⟩)
      refine lcLs (g := fun z => .str (tf l z)) (SqL.of (s3 _ _ e1)) (by omega) (show 7 < 8 by decide) (fun w hw H6 R s6 q => getW rfl rfl (.inl (s6 _ _ (s3 _ _ gt))) nd hb q) (fun G1 H4 s4 nG1 gG1 => ?_)
      have gG1 : H4 G1 = some (.lst ((t.us.map (tf l)).map V.str)) := by rw [gG1, List.map_map]; rfl
      have gF4 := s4 _ _ gF3
      have G1F : G1 ≠ F := fun z => by rw [z, gF3] at nG1; cases nG1
      refine ⟨_, rfl, F, _, rfl, DPut.k (k := .inr "given") gF4 (by show 8 < sizeLine; omega), ?_⟩
      have t5 : Same H (upd H4 F (.dK (putK (skF (.ref gv) (.ref ag) (.ref r) wv) (.inr "given") (.ref G1)))) := sameUpd (s3.trans s4) hF
      have gF5 : (upd H4 F (.dK (putK (skF (.ref gv) (.ref ag) (.ref r) wv) (.inr "given") (.ref G1)))) F = some (.dK (skF (.ref G1) (.ref ag) (.ref r) wv)) := upd_same
      have gG5 : (upd H4 F (.dK (putK (skF (.ref gv) (.ref ag) (.ref r) wv) (.inr "given") (.ref G1)))) G1 = some (.lst ((t.us.map (tf l)).map V.str)) := (upd_ne G1F).trans gG1
      have hw5 : ∀ j, j < 5 → PtI (upd H4 F (.dK (putK (skF (.ref gv) (.ref ag) (.ref r) wv) (.inr "given") (.ref G1)))) (wv j) ((t.g.rn (tf l)).at j) := fun j j5 => ((hw j j5).same s4).putD gF4
      generalize (upd H4 F (.dK (putK (skF (.ref gv) (.ref ag) (.ref r) wv) (.inr "given") (.ref G1)))) = H5 at *
      refine sdp (lcOf ⟨_, rfl, S, _, rfl, DGet.k (k := .inr "results") (t5 _ _ e), r, rfl, ⟨_, SqL.of (t5 _ _ e6)⟩, ?_⟩)
      refine lcLs (g := fun z => .str (tf l z)) (SqL.of (t5 _ _ e6)) (by omega) (show 7 < 8 by decide) (fun w hw H6 R s6 q => getW rfl rfl (.inl (s6 _ _ (t5 _ _ gt))) nd hb q) (fun G2 H6 s6 nG2 gG2 => ?_)
      have gG2 : H6 G2 = some (.lst ((t.rs.map (tf l)).map V.str)) := by rw [gG2, List.map_map]; rfl
      have gF6 := s6 _ _ gF5
      have G2F : G2 ≠ F := fun z => by rw [z, gF5] at nG2; cases nG2
      refine ⟨_, rfl, F, _, rfl, DPut.k (k := .inr "results") gF6 (by show 8 < sizeLine; omega), ?_⟩
      have t7 : Same H (upd H6 F (.dK (putK (skF (.ref G1) (.ref ag) (.ref r) wv) (.inr "results") (.ref G2)))) := sameUpd (t5.trans s6) hF
      have gF7 : (upd H6 F (.dK (putK (skF (.ref G1) (.ref ag) (.ref r) wv) (.inr "results") (.ref G2)))) F = some (.dK (skF (.ref G1) (.ref ag) (.ref G2) wv)) := upd_same
      have gG7 : (upd H6 F (.dK (putK (skF (.ref G1) (.ref ag) (.ref r) wv) (.inr "results") (.ref G2)))) G1 = some (.lst ((t.us.map (tf l)).map V.str)) := (upd_ne G1F).trans (s6 _ _ gG5)
      have gH7 : (upd H6 F (.dK (putK (skF (.ref G1) (.ref ag) (.ref r) wv) (.inr "results") (.ref G2)))) G2 = some (.lst ((t.rs.map (tf l)).map V.str)) := (upd_ne G2F).trans gG2
      have hw7 : ∀ j, j < 5 → PtI (upd H6 F (.dK (putK (skF (.ref G1) (.ref ag) (.ref r) wv) (.inr "results") (.ref G2)))) (wv j) ((t.g.rn (tf l)).at j) := fun j j5 => ((hw5 j j5).same s6).putD gF6
      generalize (upd H6 F (.dK (putK (skF (.ref G1) (.ref ag) (.ref r) wv) (.inr "results") (.ref G2)))) = H7 at *
      have ag7 : AgD H7 ag t.ag := t7 _ _ e2
      have nS : S ≠ ag := fun z => by
        have e2 : H ag = some (.dK (agK t.ag)) := e2
        rw [z, e2] at e
        injection e with e
        injection e with e
        cases q : t.ag with
        | nil => rw [q] at e; cases e
        | cons a b =>
          rw [q] at e
          have e : ((Sum.inr a.1 : Key), V.int a.2) :: agK b = ((Sum.inr "given" : Key), V.ref gv) :: _ := e
          injection e with e1 _
          injection e1 with _ e3
          cases e3
      have rt : ∀ {od : Obj} {H8 : Hp}, Same (upd H7 ag (.frz od (.dK (agK t.ag)))) H8 → Rd H8 tn (.dK (tbK l)) := fun {od H8} s => by
        by_cases c : tn = ag
        · refine .inr ⟨od, ?_⟩
          have e2 : H ag = some (.dK (agK t.ag)) := e2
          have e3 : agK t.ag = tbK l := by
            rw [← c, gt] at e2
            injection e2 with e2
            injection e2 with e2
            exact e2.symm
          rw [← e3, c]
          exact s _ _ upd_same
        · exact .inl (s _ _ ((upd_ne c).trans (t7 _ _ gt)))
      have nda : ((t.ag.map fun q => (tf l q.1, q.2)).map (·.1)).Nodup := by
        have := nodup_inj ro.inj ok.ag.nd fun z hz => hin z (by
          unfold Tol.words
          rw [List.mem_append, List.mem_append, List.mem_append]
          exact .inl (.inl (.inr hz)))
        rw [List.map_map] at this ⊢
        exact this
      refine sdp (cb1 (lcAg (f := tf l) ag7 (by omega) (fun od R q => ⟨_, rfl, S, _, rfl, .inl ⟨_, .inr "again", .inl ((upd_ne nS).trans (t7 _ _ e)), rfl, rfl⟩, q⟩) (fun od H8 q R hq s8 rr => getW rfl rfl (rt s8) nd hb rr)
        (fun od H8 q R hq s8 rr => ⟨_, rfl, S, _, rfl, .inl ⟨_, .inr "again", .inl (s8 _ _ ((upd_ne nS).trans (t7 _ _ e))), rfl, rfl⟩, _, rfl, ag, .int q.2, rfl, .inl ⟨_, .inr q.1, .inr ⟨od, s8 _ _ upd_same⟩, rfl, (val_nodup (agK_nd ok.ag.nd) _ (List.mem_map_of_mem (f := fun q : Str × Int => ((Sum.inr q.1 : Key), V.int q.2)) hq)).symm⟩, rr⟩) (fun D H8 ps s8 nD gD pr => ?_)))
      refine ⟨D, ps, _, rfl, SqL.of gD, pr.paired, fun A hA => ?_⟩
      have em : mergeK [] (agK (t.ag.map fun q => (tf l q.1, q.2))) = agK (t.ag.map fun q => (tf l q.1, q.2)) := merge_ag (l0 := []) nda
      rw [em]
      have s9 := s8.trans (Same.new (o := .dK (agK (t.ag.map fun q => (tf l q.1, q.2)))) hA)
      have gA : (upd H8 A (.dK (agK (t.ag.map fun q => (tf l q.1, q.2))))) A = some (.dK (agK (t.ag.map fun q => (tf l q.1, q.2)))) := upd_same
      have AF : A ≠ F := fun z => by rw [z, s8 _ _ gF7] at hA; cases hA
      generalize (upd H8 A (.dK (agK (t.ag.map fun q => (tf l q.1, q.2))))) = H9 at *
      have gF9 := s9 _ _ gF7
      refine ⟨_, rfl, F, _, rfl, DPut.k (k := .inr "again") gF9 (by show 8 < sizeLine; omega), ?_⟩
      refine ⟨_, rfl, k F _ (sameUpd (t7.trans s9) hF) ⟨G1, A, G2, wv 1, wv 2, wv 3, wv 4, wv 0, upd_same, (upd_ne G1F).trans (s9 _ _ gG7), (upd_ne AF).trans gA, (upd_ne G2F).trans (s9 _ _ gH7), ?_, ?_, ?_, ?_, ?_⟩⟩
      · exact ((hw7 0 (by decide)).same s9).putD gF9
      · exact ((hw7 1 (by decide)).same s9).putD gF9
      · exact ((hw7 2 (by decide)).same s9).putD gF9
      · exact ((hw7 3 (by decide)).same s9).putD gF9
      · exact ((hw7 4 (by decide)).same s9).putD gF9
end
end K07

set_option Elab.async false
set_option linter.all false
set_option maxRecDepth 100000
set_option maxHeartbeats 4000000
/-! _law_table. -/
namespace K07
open PySem PySem.Spec L2 NX NU
open PyProof.Rows (sortedS risingS)
abbrev sTab : Stmt := top 89
abbrev NTab : List Str := ["_law_pen_here", "_law_site_here", "_law_known", "_law_way", "_law_found", "_law_mixed", "_law_word", "_law_other", "_law_lap"]
theorem scTab : FnScope NTab ["_law_pen_here", "_law_site_here"] (defScope sTab) := ⟨rfl, rfl, rfl, by decide +kernel, rfl, by decide +kernel, by decide +kernel⟩
/-- what the law puts into its tables -/
inductive Tv (H : Hp) : V → Prop
  | str (z : Str) : z.length ≤ 10 → okS z → Tv H (.str z)
  | non : Tv H .non
  | i7 : Tv H (.int 7)
  | bt : Tv H (.bl true)
  | tup (p : Addr) : H p = some (.tup [.str "a"]) → Tv H (.ref p)
  | lst (p : Addr) : H p = some (.lst [.str "a"]) → Tv H (.ref p)
theorem Tv.same {H H' : Hp} {v : V} (s : Same H H') (h : Tv H v) : Tv H' v := by
  cases h with
  | str z a b => exact .str z a b
  | non => exact .non
  | i7 => exact .i7
  | bt => exact .bt
  | tup p e => exact .tup p (s _ _ e)
  | lst p e => exact .lst p (s _ _ e)
theorem Tv.keep {H H' : Hp} {v : V} (s : ∀ b o, H b = some o → (o = .tup [.str "a"] ∨ o = .lst [.str "a"]) → H' b = some o) (h : Tv H v) : Tv H' v := by
  cases h with
  | str z a b => exact .str z a b
  | non => exact .non
  | i7 => exact .i7
  | bt => exact .bt
  | tup p e => exact .tup p (s _ _ e (.inl rfl))
  | lst p e => exact .lst p (s _ _ e (.inr rfl))
theorem Tv.tb {K : PySem.W.Frag} {H : Hp} {v : V} (h : Tv H v) : (∃ z, v = .str z ∧ z.length ≤ 1000) ∨ ∀ H', Same H H' → NoStr K H' v := by
  cases h with
  | str z a b => exact .inl ⟨z, rfl, by omega⟩
  | non => exact .inr fun H' s => ⟨_, .base .non, kit_ty (by decide +kernel)⟩
  | i7 => exact .inr fun H' s => ⟨_, .base (.int _), kit_ty (by decide +kernel)⟩
  | bt => exact .inr fun H' s => ⟨_, .base (.bl _), kit_ty (by decide +kernel)⟩
  | tup p e => exact .inr fun H' s => ⟨_, .base (.tup (s _ _ e)), kit_ty (by decide +kernel)⟩
  | lst p e => exact .inr fun H' s => ⟨_, .base (.lst (s _ _ e)), kit_ty (by decide +kernel)⟩
theorem Tv.oks {H : Hp} {z : Str} (h : Tv H (.str z)) : okS z := by
  cases h with
  | str z a b => exact b
/-- a short word of small signs -/
def Wd (z : Str) : Prop := z.length ≤ 10 ∧ okS z
theorem wd_nm {z : Str} (h : nm z = true) : Wd z := by
  refine ⟨by have := (nm_le h).2; omega, fun ch hc => ?_⟩
  unfold nm at h
  rw [Bool.and_eq_true, Bool.and_eq_true, List.all_eq_true] at h
  have := h.2.2 ch hc
  unfold lett at this
  rw [Bool.and_eq_true, decide_eq_true_eq, decide_eq_true_eq] at this
  omega
theorem put_tb (l : List (Str × V)) (z : Str) (v : V) : ∃ l', putK (tbK l) (.inr z) v = tbK l' ∧ ((l.map (·.1)).Nodup → (l'.map (·.1)).Nodup) ∧ l'.length ≤ l.length + 1 ∧ ∀ q ∈ l', q ∈ l ∨ q.1 = z ∧ q.2 = v := by
  by_cases c : z ∈ l.map (·.1)
  · refine ⟨l.map fun q => if q.1 = z then (q.1, v) else q, ?_, fun h => ?_, by rw [List.length_map]; omega, fun q hq => ?_⟩
    · have ha : ((tbK l).any fun kv => decide (kv.1 = Sum.inr z)) = true := by
        obtain ⟨q, hq, rfl⟩ := List.mem_map.mp c
        rw [List.any_eq_true]
        exact ⟨(.inr q.1, q.2), List.mem_map_of_mem (f := fun q : Str × V => ((Sum.inr q.1 : Key), q.2)) hq, decide_eq_true rfl⟩
      unfold putK
      rw [if_pos ha]
      unfold tbK
      rw [List.map_map, List.map_map]
      refine List.map_congr_left fun q _ => ?_
      show (if (Sum.inr q.1 : Key) = .inr z then ((Sum.inr q.1 : Key), v) else (Sum.inr q.1, q.2)) = ((Sum.inr (if q.1 = z then (q.1, v) else q).1 : Key), (if q.1 = z then (q.1, v) else q).2)
      by_cases e : q.1 = z
      · rw [if_pos e, if_pos (by rw [e])]
      · rw [if_neg e, if_neg (fun h => e (Sum.inr.inj h))]
    · rw [List.map_map]
      have e : (l.map ((fun q : Str × V => q.1) ∘ fun q => if q.1 = z then (q.1, v) else q)) = l.map (·.1) := List.map_congr_left fun q _ => by
        show (if q.1 = z then (q.1, v) else q).1 = q.1
        by_cases e : q.1 = z
        · rw [if_pos e]
        · rw [if_neg e]
      rw [e]
      exact h
    · obtain ⟨y, hy, rfl⟩ := List.mem_map.mp hq
      by_cases e : y.1 = z
      · rw [if_pos e]
        exact .inr ⟨e, rfl⟩
      · rw [if_neg e]
        exact .inl hy
  · refine ⟨l ++ [(z, v)], ?_, fun h => ?_, by rw [List.length_append]; exact Nat.le_refl _, fun q hq => ?_⟩
    · rw [putK_new v (tv_none c)]
      unfold tbK
      rw [List.map_append]
      rfl
    · rw [List.map_append, List.nodup_append]
      exact ⟨h, by simp, fun a ha b hb e => c (by
        have hb : b = z := List.mem_singleton.mp hb
        rw [← hb, ← e]
        exact ha)⟩
    · rcases List.mem_append.mp hq with h | h
      · exact .inl h
      · rw [List.mem_singleton.mp h]
        exact .inr ⟨rfl, rfl⟩
/-- a table at F, of at most n names -/
structure TbAt (H : Hp) (F : Addr) (l : List (Str × V)) (n : Nat) : Prop where
  at_ : H F = some (.dK (tbK l))
  nd : (l.map (·.1)).Nodup
  few : l.length ≤ n
  keys : ∀ q ∈ l, Wd q.1
  vals : ∀ q ∈ l, Tv H q.2
theorem TbAt.mono {H : Hp} {F : Addr} {l : List (Str × V)} {n m : Nat} (h : TbAt H F l n) (k : n ≤ m) : TbAt H F l m := { h with few := Nat.le_trans h.few k }
theorem TbAt.same {H H' : Hp} {F : Addr} {l : List (Str × V)} {n : Nat} (s : Same H H') (h : TbAt H F l n) : TbAt H' F l n := ⟨s _ _ h.at_, h.nd, h.few, h.keys, fun q hq => (h.vals q hq).same s⟩
theorem TbAt.but {H H' : Hp} {F p c : Addr} {ns : List Int} {x y : Int} {l : List (Str × V)} {n : Nat} (P : Pen H p c ns x y) (B : But p H H') (h : TbAt H F l n) : TbAt H' F l n :=
  ⟨B _ _ h.at_ (fun z => by have e := h.at_; rw [z, P.hp] at e; cases e), h.nd, h.few, h.keys, fun q hq => (h.vals q hq).keep fun b o e k => B b o e fun z => by
    rw [z, P.hp] at e
    rcases k with rfl | rfl <;> cases e⟩
theorem TbAt.put {H : Hp} {F : Addr} {l : List (Str × V)} {n : Nat} {z : Str} {v : V} (h : TbAt H F l n) (wz : Wd z) (hv : Tv H v) : ∃ l', TbAt (upd H F (.dK (putK (tbK l) (.inr z) v))) F l' (n + 1) := by
  obtain ⟨l', e, h1, h2, h3⟩ := put_tb l z v
  have kp : ∀ {x : V}, Tv H x → Tv (upd H F (.dK (putK (tbK l) (.inr z) v))) x := fun t => t.keep fun b o e k => (upd_ne (fun y => by
    rw [y, h.at_] at e
    rcases k with rfl | rfl <;> cases e)).trans e
  refine ⟨l', by rw [upd_same, e], h1 h.nd, by have := h.few; omega, fun q hq => ?_, fun q hq => ?_⟩
  · rcases h3 q hq with k | ⟨k, _⟩
    · exact h.keys q k
    · rw [k]; exact wz
  · rcases h3 q hq with k | ⟨_, k⟩
    · exact kp (h.vals q k)
    · rw [k]; exact kp hv
theorem TbAt.ok {K : PySem.W.Frag} {H : Hp} {F : Addr} {l : List (Str × V)} (h : TbAt H F l 12) : TbOk K H l := ⟨h.nd, by have := h.few; omega, fun q hq => (h.vals q hq).tb⟩
theorem TbAt.s {H : Hp} {F : Addr} {l : List (Str × V)} {n : Nat} (h : TbAt H F l n) : TbS l := fun q hq z e => by
  have := h.vals q hq
  rw [e] at this
  exact this.oks
/-- while a table is drawn -/
structure TbI (H0 H : Hp) (p c : Addr) (ns : List Int) (F pN : Addr) (ws : List Str) (n : Nat) (m : Int) : Prop where
  tb : ∃ l, TbAt H F l n
  kn : H pN = some (.lst (ws.map V.str))
  pen : ∃ a r, Pen H p c ns a r ∧ a ≤ m
  but : But p H0 H
  f0 : H0 F = none
section
variable {H0 H H' : Hp} {p c : Addr} {ns : List Int} {F pN : Addr} {ws : List Str} {n : Nat} {m m' : Int}
theorem TbI.same (h : TbI H0 H p c ns F pN ws n m) (s : Same H H') : TbI H0 H' p c ns F pN ws n m := by
  obtain ⟨l, t⟩ := h.tb
  obtain ⟨a, r, P, le⟩ := h.pen
  exact ⟨⟨l, t.same s⟩, s _ _ h.kn, ⟨a, r, P.same s, le⟩, h.but.trans (But.same s), h.f0⟩
theorem TbI.draw (h : TbI H0 H p c ns F pN ws n m) {x y : Int} (P : Pen H p c ns x y) (hd : Drawn H p c ns m' H') : TbI H0 H' p c ns F pN ws n m' := by
  obtain ⟨l, t⟩ := h.tb
  obtain ⟨a, r, P2, le, B⟩ := hd
  exact ⟨⟨l, t.but P B⟩, B _ _ h.kn (pen_ne P h.kn), ⟨a, r, P2, le⟩, h.but.trans B, h.f0⟩
theorem TbI.mono (h : TbI H0 H p c ns F pN ws n m) (le : m ≤ m') {k : Nat} (lk : n ≤ k) : TbI H0 H p c ns F pN ws k m' := by
  obtain ⟨l, t⟩ := h.tb
  obtain ⟨a, r, P, la⟩ := h.pen
  exact ⟨⟨l, t.mono lk⟩, h.kn, ⟨a, r, P, Int.le_trans la le⟩, h.but, h.f0⟩
theorem TbI.put (h : TbI H0 H p c ns F pN ws n m) {l : List (Str × V)} (e : H F = some (.dK (tbK l))) (t : TbAt H F l n) {z : Str} {v : V} (wz : Wd z) (hv : Tv H v) : TbI H0 (upd H F (.dK (putK (tbK l) (.inr z) v))) p c ns F pN ws (n + 1) m := by
  obtain ⟨a, r, P, la⟩ := h.pen
  have np : F ≠ p := fun z => by rw [z, P.hp] at e; cases e
  have nc : F ≠ c := fun z => by rw [z, P.hc] at e; cases e
  exact ⟨t.put wz hv, (upd_ne (fun z => by have k := h.kn; rw [z, e] at k; cases k)).trans h.kn, ⟨a, r, P.put np nc, la⟩, butPut h.but h.f0, h.f0⟩
end
theorem sqFR {ta : TA} {g : TG} {tb tr : TS} {D : L2.Ends} {σ : L2.St} {H : Hp} (h : ta σ H fun vs H1 => ∃ j : Int, vs = [.int j] ∧ -(2 ^ 62) ≤ j ∧ j < 2 ^ 62 ∧ tSeq (tFor (fun _ H R => R (Itr 0 j.toNat) H) g tb) tr D σ H1) : tSeq (tFor (iRng1 ta) g tb) tr D σ H := h
/-- the value that is put, drawn -/
theorem sqPut {i k : Nat} {tv : TE} {D : L2.Ends} {σ : L2.St} {H : Hp} (h : tv σ H fun v H1 => tVar i σ H1 fun x H2 => tVar k σ H2 fun y H3 => ∃ a H4, x = .ref a ∧ DPut H3 a y v H4 ∧ D.nx σ H4) : sDPut (tVar i) (tVar k) tv D σ H := h
/-- a draw, or 0 -/
theorem ifDraw {σ : L2.St} {H : Hp} {Q : VK} {p c : Addr} {ns : List Int} {a r way : Int} (h0 : σ[0]? = some (some (.ref p))) (h3 : σ[3]? = some (some (.int way))) (P : Pen H p c ns a r) (ha : a ≤ 900000) (k : ∀ (n : Nat) H', n ≤ 3 → Drawn H p c ns (a + 1) H' → Q (.int (n : Int)) H') :
    tIf (tTest (tOp rNe (tVar 3) (tC (.int 2)))) (tCall spDraw [] C8.E0 (tCons (tVar 0) (tCons (tC (.int 4)) tNil))) (tC (.int 0)) σ H Q := by
  refine ⟨_, h3, rfl, _, rfl, ite2 (fun _ => ?_) (fun _ => k 0 H (by decide) ⟨a, r, P, by omega, But.refl⟩)⟩
  refine ⟨_, h0, p, c, ns, a, r, 4, rfl, P, by omega, by decide, by decide, fun d H' d0 d4 hd => ?_⟩
  obtain ⟨n, rfl⟩ := Int.eq_ofNat_of_zero_le d0
  exact k n H' (by omega) hd
/-- a pick of the names, or of words besides -/
theorem pickK {K : PySem.W.Frag} {σ : L2.St} {H0 H : Hp} {Q : VK} {te : TE} {p c : Addr} {ns : List Int} {F pN : Addr} {ws us : List Str} {n : Nat} {m : Int} (h0 : σ[0]? = some (some (.ref p))) (h2 : σ[2]? = some (some (.ref pN))) (I : TbI H0 H p c ns F pN ws n m) (hm : m ≤ 900000) (wws : ∀ z ∈ ws, Wd z) (lws : ws.length ≤ 6) (wus : ∀ z ∈ us, Wd z) (u0 : 0 < us.length) (u9 : us.length ≤ 9)
    (ht : ∀ R : VK, (∀ L, H L = none → R (.ref L) (upd H L (.lst (us.map V.str)))) → te σ H R) (k : ∀ z H', Wd z → TbI H0 H' p c ns F pN ws n (m + 1) → Q (.str z) H') :
    tCall (spPick K) [] C8.E0 (tCons (tVar 0) (tCons (tOp rCat (tVar 2) te) tNil)) σ H Q := by
  have low : (2000 : Nat) ≤ sizeLine := by decide
  refine ⟨_, h0, _, h2, ht _ fun L hL => ?_⟩
  have I1 := I.same (Same.new (o := .lst (us.map V.str)) hL)
  have gL : (upd H L (.lst (us.map V.str))) L = some (.lst (us.map V.str)) := upd_same
  generalize (upd H L (.lst (us.map V.str))) = H1 at *
  refine ⟨pN, L, _, _, rfl, rfl, I1.kn, gL, by rw [List.length_map, List.length_map]; omega, fun N hN => ?_⟩
  rw [← List.map_append]
  have I2 := I1.same (Same.new (o := .lst ((ws ++ us).map V.str)) hN)
  have gN : (upd H1 N (.lst ((ws ++ us).map V.str))) N = some (.lst ((ws ++ us).map V.str)) := upd_same
  generalize (upd H1 N (.lst ((ws ++ us).map V.str))) = H2 at *
  obtain ⟨a, r, P, la⟩ := I2.pen
  refine ⟨p, c, ns, a, r, .ref N, rfl, P, by omega, .inl ⟨N, _, rfl, SqL.of gN, pen_ne P gN, by rw [List.length_map, List.length_append]; omega, by rw [List.length_map, List.length_append]; omega, fun v H' hv hd => ?_⟩⟩
  obtain ⟨z, hz, rfl⟩ := List.mem_map.mp hv
  exact k z H' ((List.mem_append.mp hz).elim (wws z) (wus z)) ((I2.draw P hd).mono (by omega) (Nat.le_refl _))
theorem wds_ok {us : List Str} (h : us.all (fun z => decide (z.length ≤ 10) && z.cps.toList.all fun c => decide (c < 256)) = true) : ∀ z ∈ us, Wd z := fun z hz => by
  have q := List.all_eq_true.mp h z hz
  rw [Bool.and_eq_true, decide_eq_true_eq, List.all_eq_true] at q
  exact ⟨q.1, fun c hc => of_decide_eq_true (q.2 c hc)⟩
def spTab : Sp := fun vs H Q _ => ∃ (p c : Addr) (ns : List Int) (at_ rest : Int) (S : Addr) (t : Tol), vs = [.ref p, .ref S] ∧ Pen H p c ns at_ rest ∧ at_ ≤ 700000 ∧ SiteG H S t ∧ t.Ok ∧ (∀ z ∈ t.words, nm z = true) ∧ ∀ F l H', TbAt H' F l 12 → Drawn H p c ns (at_ + 40) H' → Q (.ref F) H'
section
variable {P : Program} {w : World} {K : PySem.W.Frag} {mg : Str → Option Value} {base : Heap}
theorem ok_tab {f : Addr} {fd : FuncData} (F : Fun K "_law_table" "_law_table" sTab f fd) (T : TxtB mg) (bzip : mg "zip" = none) (cAl : C8.Cal P w K mg base 2 "_law_all_names" spWoG []) (cDraw : C8.Cal P w K mg base 1 "_law_draw" spDraw []) (cPick : C8.Cal P w K mg base 2 "_law_pick" (spPick K) []) (cSome : C8.Cal P w K mg base 2 "_law_some" (spSome K) []) : FnOk P w K mg base CX0 3 f fd ["_law_pen_here", "_law_site_here"] spTab := by
  refine F.ok scTab (fun vs H Q E h => ?_) (fun cdv A outer s H vs Q E hr h => ?_)
  · obtain ⟨p, c, ns, a, r, S, t, rfl, _⟩ := h
    rfl
  · obtain ⟨p, c, ns, at_, rest, S, t, rfl, Pn, hat, hS, ok, wn, k⟩ := h
    have hu := hu_of hr
    refine ⟨_, (pss_cons (ps_set (i := 2) scTab.nd rfl (Or.inl rfl) (C8.pe_c cAl hr (by decide) rfl (pa_cons (pv 1) pa_nil)))
      (pss_cons (ps_par (i := 3) (j := 4) (by rfl) scTab.nd rfl rfl (by decide) rfl rfl (pa_cons (C8.pe_c cDraw hr (by decide) rfl (pa_cons (pv 0) (pa_cons pe_int pa_nil))) (pa_cons pe_dnewK pa_nil)) (by rfl))
      (C8.pss_cut (ps_if (pt_cmpR op_lt (pv 3) pe_int (nomark _))
        (pss_cons (ps_set (i := 5) scTab.nd rfl (Or.inl rfl) (C8.pe_c cSome hr (by decide) rfl (pa_cons (pv 0) (pa_cons (pv 2) (pa_cons (pe_callB call_len_seq (by rfl) T.blen (by decide +kernel) (pa_cons (pv 2) pa_nil)) (pa_cons (pe_callB call_len_seq (by rfl) T.blen (by decide +kernel) (pa_cons (pv 2) pa_nil)) pa_nil))))))
        (pss_one (ps_for PassesOwn.never rfl (pi_zip (by rfl) bzip (pa_cons (pv 2) (pa_cons (pv 5) pa_nil))) (pg_tup rfl (pgs_cons (pg_name (i := 6) scTab.nd rfl (Or.inl rfl)) (pgs_cons (pg_name (i := 7) scTab.nd rfl (Or.inl rfl)) pgs_nil))) (pss_one (ps_dput hu (pv 4) (pv 6) (pv 7) rfl))))) pss_nil)
      (pss_cons (ps_for PassesOwn.never rfl (pi_range1 (by rfl) T.brange (pa_cons (pe_ifExp (pt_cmpR op_ne (pv 3) pe_int (nomark _)) (C8.pe_c cDraw hr (by decide) rfl (pa_cons (pv 0) (pa_cons pe_int pa_nil))) pe_int) pa_nil)) (pg_name (i := 8) scTab.nd rfl (Or.inl rfl))
        (pss_cons (ps_set (i := 6) scTab.nd rfl (Or.inl rfl) (C8.pe_c cPick hr (by decide) rfl (pa_cons (pv 0) (pa_cons (pe_op op_cat (pv 2) (pe_lst (pa_cons pe_str (pa_cons pe_str pa_nil)))) pa_nil))))
        (pss_one (ps_dput hu (pv 4) (pv 6) (C8.pe_c cPick hr (by decide) rfl (pa_cons (pv 0) (pa_cons (pe_op op_cat (pv 2) (pe_lst (pa_cons pe_str (pa_cons pe_str (pa_cons pe_str (pa_cons pe_str (pa_cons pe_str pa_nil))))))) pa_nil))) rfl))))
      (C8.pss_cut (ps_if (pt_cmpR op_eq (pv 3) pe_int (nomark _))
        (pss_cons (ps_set (i := 6) scTab.nd rfl (Or.inl rfl) (C8.pe_c cPick hr (by decide) rfl (pa_cons (pv 0) (pa_cons (pe_op op_cat (pv 2) (pe_lst (pa_cons pe_str pa_nil))) pa_nil))))
        (pss_one (ps_dput hu (pv 4) (pv 6) (C8.pe_c cPick hr (by decide) rfl (pa_cons (pv 0) (pa_cons (pe_lst (pa_cons pe_non (pa_cons pe_str (pa_cons pe_str (pa_cons pe_str (pa_cons pe_int (pa_cons pe_bl (pa_cons (pe_tup (pa_cons pe_str pa_nil)) (pa_cons (pe_lst (pa_cons pe_str pa_nil)) (pa_cons pe_str pa_nil)))))))))) pa_nil))) rfl))) pss_nil)
      (pss_one (ps_ret (pv 4)))))))), ?_⟩
    have low : (2000 : Nat) ≤ sizeLine := by decide
    refine ⟨_, rfl, S, t, rfl, hS, ok, fun ws pN H1 s1 gN asc => ?_⟩
    have lws := asc_few ok asc
    have wws : ∀ z ∈ ws, Wd z := fun z hz => wd_nm (wn z ((asc.2.2 z).mp hz))
    have P1 := Pn.same s1
    refine ⟨_, rfl, p, c, ns, at_, rest, 6, rfl, P1, by omega, by decide, by decide, fun way H2 d0 d6 hd => ?_⟩
    obtain ⟨a2, r2, P2, l2, B2⟩ := hd
    have gN2 := B2 _ _ gN (pen_ne P1 gN)
    refine fun F hF => ?_
    have f0 : H F = none := fresh0 ((But.same s1).trans B2) hF (fun z => by rw [z, P2.hp] at hF; cases hF)
    have s3 : Same H2 (upd H2 F (.dK [])) := Same.new hF
    have I3 : TbI H (upd H2 F (.dK [])) p c ns F pN ws 0 (at_ + 1) := ⟨⟨[], upd_same, List.nodup_nil, Nat.le_refl _, nofun, nofun⟩, s3 _ _ gN2, ⟨a2, r2, P2.same s3, l2⟩, ((But.same s1).trans B2).trans (But.same s3), f0⟩
    generalize (upd H2 F (.dK [])) = H3 at *
    clear P1 gN2 s3 B2 P2 hF gN hS
    refine ⟨_, _, rfl, ?_⟩
    refine ⟨fun σ H' => (∃ x5 x6 x7, σ = [some (.ref p), some (.ref S), some (.ref pN), some (.int way), some (.ref F), x5, x6, x7, none]) ∧ TbI H H' p c ns F pN ws 6 (at_ + 8), ?_, ?_⟩
    · refine ⟨_, rfl, _, _, rfl, rfl, _, rfl, ite2 (fun _ => ?_) (fun _ => ⟨⟨_, _, _, rfl⟩, I3.mono (by omega) (by decide)⟩)⟩
      obtain ⟨a3, r3, P3, l3⟩ := I3.pen
      refine ⟨_, rfl, _, rfl, _, rfl, pN, _, rfl, .inl (SqL.of I3.kn), _, rfl, pN, _, rfl, .inl (SqL.of I3.kn), ?_⟩
      refine ⟨p, c, ns, a3, r3, pN, ws, ws.length, ws.length, by rw [List.length_map]; rfl, P3, by omega, SqL.of I3.kn, by omega, Nat.le_refl _, Nat.le_refl _, fun rr xs H4 hrr grr part x1 x2 hd => ?_⟩
      have I4 := I3.draw P3 hd
      have I4 := I4.mono (m' := at_ + 8) (by omega) (Nat.le_refl _)
      have wxs : ∀ z ∈ xs, Wd z := fun z hz => by
        obtain ⟨left, pm⟩ := part
        exact wws z (pm.mem_iff.mp (List.mem_append_left _ hz))
      refine ⟨_, rfl, _, rfl, pN, rr, _, _, rfl, SqL.of I4.kn, SqL.of grr, ?_⟩
      refine RZ.for_zipL (xs := ws.map V.str) (ys := xs.map V.str) (by rw [List.length_map, List.length_map]; omega) (fun i σ H' => (∃ x6 x7, σ = [some (.ref p), some (.ref S), some (.ref pN), some (.int way), some (.ref F), some (.ref rr), x6, x7, none]) ∧ TbI H H' p c ns F pN ws i (at_ + 8) ∧ H' rr = some (.lst (xs.map V.str)))
        ⟨⟨_, _, rfl⟩, I4, grr⟩ (fun i σ H' z => ⟨SqL.of z.2.1.kn, SqL.of z.2.2⟩) (fun i x y T0 σ H5 hx hy ⟨⟨x6, x7, eσ⟩, I5, grr5⟩ hT => ?_) (fun σ H5 ⟨⟨x6, x7, eσ⟩, I5, _⟩ => ⟨⟨_, _, _, eσ⟩, I5.mono (Int.le_refl _) (by rw [List.length_map]; exact lws)⟩)
      subst eσ
      rw [List.getElem?_map] at hx hy
      obtain ⟨z, hz, rfl⟩ := Option.map_eq_some_iff.mp hx
      obtain ⟨y, hy2, rfl⟩ := Option.map_eq_some_iff.mp hy
      have s6 := Same.new (H := H5) (o := .tup [V.str z, V.str y]) hT
      have gT0 : (upd H5 T0 (.tup [V.str z, V.str y])) T0 = some (.tup [.str z, .str y]) := upd_same
      have I6 := I5.same s6
      have grr6 := s6 _ _ grr5
      generalize (upd H5 T0 (.tup [V.str z, V.str y])) = H6 at *
      refine ⟨T0, _, rfl, SqT.of gT0, rfl, _, _, rfl, _, _, rfl, rfl, ?_⟩
      obtain ⟨l, tb⟩ := I6.tb
      have wy := wxs y (List.mem_of_getElem? hy2)
      refine ⟨_, rfl, _, rfl, _, rfl, F, _, rfl, DPut.k (k := .inr z) tb.at_ (by unfold tbK; rw [List.length_map]; have := tb.few; have := (List.getElem?_eq_some_iff.mp hz).1; omega), ⟨_, _, rfl⟩, I6.put tb.at_ tb (wws z (List.mem_of_getElem? hz)) (.str y wy.1 wy.2), ?_⟩
      rw [upd_ne (fun e => by rw [e, tb.at_] at grr6; cases grr6)]
      exact grr6
    · rintro σ H4 ⟨⟨x5, x6, x7, eσ⟩, I4⟩
      subst eσ
      obtain ⟨a4, r4, P4, l4⟩ := I4.pen
      refine sqFR (csA (ifDraw rfl rfl P4 (by omega) fun n H5 n3 hd => ?_))
      have I5 := (I4.draw P4 hd).mono (m' := at_ + 9) (by omega) (Nat.le_refl _)
      refine ⟨(n : Int), rfl, by omega, by omega, ?_⟩
      rw [Int.toNat_natCast]
      refine for_range (n := n) (fun i σ H' => (∃ x6 x8, σ = [some (.ref p), some (.ref S), some (.ref pN), some (.int way), some (.ref F), x5, x6, x7, x8]) ∧ TbI H H' p c ns F pN ws (6 + i) (at_ + 9 + 2 * i)) ⟨⟨_, _, rfl⟩, I5.mono (by omega) (Nat.le_refl _)⟩ (fun i σ H6 hi ⟨⟨x6, x8, eσ⟩, I6⟩ => ?_) (fun σ H6 ⟨⟨x6, x8, eσ⟩, I6⟩ => ?_)
      · subst eσ
        refine gNm ?_
        try dsimp only
        refine sqA (pickK (us := ["q", "qq"]) rfl rfl I6 (by omega) wws lws (wds_ok (by decide +kernel)) (by decide) (by decide) (fun R h => ⟨by show 2 ≤ sizeLine; omega, h⟩) (fun z H7 wz I7 => ?_))
        refine gNm (sqPut (pickK (us := ["m", "mm", "mmm", "zzzzzz", "use"]) rfl rfl I7 (by omega) wws lws (wds_ok (by decide +kernel)) (by decide) (by decide) (fun R h => ⟨by show 5 ≤ sizeLine; omega, h⟩) (fun y H8 wy I8 => ?_)))
        obtain ⟨l, tb⟩ := I8.tb
        refine ⟨_, rfl, _, rfl, F, _, rfl, DPut.k (k := .inr z) tb.at_ (by unfold tbK; rw [List.length_map]; have := tb.few; omega), ⟨_, _, rfl⟩, ?_⟩
        exact (I8.put tb.at_ tb wz (.str y wy.1 wy.2)).mono (by omega) (by omega)
      · subst eσ
        have I6 := I6.mono (m' := at_ + 16) (k := 9) (by omega) (by omega)
        refine ⟨fun σ H' => (∃ x6, σ = [some (.ref p), some (.ref S), some (.ref pN), some (.int way), some (.ref F), x5, x6, x7, x8]) ∧ TbI H H' p c ns F pN ws 10 (at_ + 18), ?_, ?_⟩
        · refine ⟨_, rfl, rfl, _, rfl, ite2 (fun _ => ?_) (fun _ => ⟨⟨_, rfl⟩, I6.mono (by omega) (by decide)⟩)⟩
          try dsimp only
          refine sqA (pickK (us := ["q"]) rfl rfl I6 (by omega) wws lws (wds_ok (by decide +kernel)) (by decide) (by decide) (fun R h => ⟨by show 1 ≤ sizeLine; omega, h⟩) (fun z H7 wz I7 => ?_))
          refine gNm (sqPut ⟨_, rfl, by show 1 ≤ sizeLine; omega, fun q1 hq1 => ⟨by show 1 ≤ sizeLine; omega, fun q2 hq2 => ⟨by show 9 ≤ sizeLine; omega, fun L hL => ?_⟩⟩⟩)
          have s8 := Same.new (o := .tup [.str "a"]) hq1
          have g1 : (upd H7 q1 (.tup [.str "a"])) q1 = some (.tup [.str "a"]) := upd_same
          have I8 := I7.same s8
          generalize (upd H7 q1 (.tup [.str "a"])) = H8 at *
          have s9 := Same.new (o := .lst [.str "a"]) hq2
          have g2 : (upd H8 q2 (.lst [.str "a"])) q2 = some (.lst [.str "a"]) := upd_same
          have I9 := I8.same s9
          have g1 := s9 _ _ g1
          generalize (upd H8 q2 (.lst [.str "a"])) = H9 at *
          have sA := Same.new (o := .lst [.non, .str "", .str "A", .str "abcdefg", .int 7, .bl true, .ref q1, .ref q2, .str "a b"]) hL
          have gA : (upd H9 L (.lst [.non, .str "", .str "A", .str "abcdefg", .int 7, .bl true, .ref q1, .ref q2, .str "a b"])) L = some (.lst [.non, .str "", .str "A", .str "abcdefg", .int 7, .bl true, .ref q1, .ref q2, .str "a b"]) := upd_same
          have IA := I9.same sA
          have g1 := sA _ _ g1
          have g2 := sA _ _ g2
          generalize (upd H9 L (.lst [.non, .str "", .str "A", .str "abcdefg", .int 7, .bl true, .ref q1, .ref q2, .str "a b"])) = HA at *
          obtain ⟨aA, rA, PA, lA⟩ := IA.pen
          have nL : L ≠ p := fun z => by rw [z, PA.hp] at gA; cases gA
          refine ⟨p, c, ns, aA, rA, .ref L, rfl, PA, by omega, .inl ⟨L, _, rfl, SqL.of gA, nL, by show 0 < 9; decide, by show 9 < 1000; decide, fun v HB hv hd => ?_⟩⟩
          have hv : v ∈ [V.non, .str "", .str "A", .str "abcdefg", .int 7, .bl true, .ref q1, .ref q2, .str "a b"] := hv
          have tv : Tv HA v := by
            have w4 : ∀ z ∈ (["", "A", "abcdefg", "a b"] : List Str), Wd z := wds_ok (by decide +kernel)
            simp only [List.mem_cons, List.not_mem_nil, or_false] at hv
            rcases hv with rfl | rfl | rfl | rfl | rfl | rfl | rfl | rfl | rfl
            · exact .non
            · exact .str _ (w4 _ (by simp)).1 (w4 _ (by simp)).2
            · exact .str _ (w4 _ (by simp)).1 (w4 _ (by simp)).2
            · exact .str _ (w4 _ (by simp)).1 (w4 _ (by simp)).2
            · exact .i7
            · exact .bt
            · exact .tup q1 g1
            · exact .lst q2 g2
            · exact .str _ (w4 _ (by simp)).1 (w4 _ (by simp)).2
          have IB := IA.draw PA hd
          obtain ⟨aB, rB, PB, lB, BB⟩ := hd
          have tv : Tv HB v := tv.keep fun b o e k => BB b o e fun z => by
            rw [z, PA.hp] at e
            rcases k with rfl | rfl <;> cases e
          obtain ⟨l, tb⟩ := IB.tb
          refine ⟨_, rfl, _, rfl, F, _, rfl, DPut.k (k := .inr z) tb.at_ (by unfold tbK; rw [List.length_map]; have := tb.few; omega), ⟨_, rfl⟩, ?_⟩
          exact (IB.put tb.at_ tb wz tv).mono (by omega) (by decide)
        · rintro σ H7 ⟨⟨x6, eσ⟩, I7⟩
          subst eσ
          obtain ⟨l, tb⟩ := I7.tb
          obtain ⟨a7, r7, P7, l7⟩ := I7.pen
          exact ⟨_, rfl, k F l H7 (tb.mono (by decide)) ⟨a7, r7, P7, by omega, I7.but⟩⟩
end
end K07

set_option Elab.async false
set_option linter.all false
set_option maxRecDepth 100000
set_option maxHeartbeats 4000000
/-! What stays while tables of code grow; calls that may raise; != of equal programs. -/
namespace K07
open PySem L2 NX NU LamX
open PyProof.Rows (sortedS)
theorem L2passOf {X : Cx} {E : XK} (tk : Takes X (fun cls d _ H => E cls d H)) : Passes (L2.CX X.prog X.w) X E := fun pins σ H s e s' I h => passAt tk σ pins H s e s' I h
section
variable {K : PySem.W.Frag} {d : D3} {H H' : Hp}
theorem Dd.ext {x C : Addr} {us ys : List Str} {v : V} (s : ExtN H H') (h : Dd H x C us v ys) : Dd H' x C us v ys := by
  obtain ⟨dx, p, q, a, b, c⟩ := h
  exact ⟨dx, p, q, s _ _ a nofun, s _ _ b nofun, s _ _ c nofun⟩
theorem IsD.ext {x : Addr} {mk : Option Str} {us ys : List Str} (s : ExtN H H') (h : IsD d H x mk us ys) : IsD d H' x mk us ys := ⟨h.dd.ext s, h.nu, h.nm_, h.few, h.asc⟩
theorem AllAt.ext {xs : List Addr} {as : List Act} (s : ExtN H H') (h : AllAt d H xs as) : AllAt d H' xs as := ⟨h.1, fun i x a e1 e2 => (h.2 i x a e1 e2).imp fun _ q => q.ext s⟩
theorem Deeds.ext {p : Addr} {as : List Act} (s : ExtN H H') (h : Deeds K d H p as) : Deeds K d H' p as := h.imp fun _ q => ⟨seqT_keep (s _) q.1, q.2.ext s⟩
theorem PartA.ext {v : V} (s : ExtN H H') : ∀ {o : Option (List Act)}, PartA K d H v o → PartA K d H' v o
  | none, h => h
  | some _, ⟨p, e, h⟩ => ⟨p, e, h.ext s⟩
theorem PartsD.ext {P : Addr} {g : Prg} (s : ExtN H H') (h : PartsD K d H P g) : PartsD K d H' P g := by
  obtain ⟨v0, v1, v2, v3, v4, e, h0, h1, h2, h3, h4⟩ := h
  exact ⟨v0, v1, v2, v3, v4, s _ _ e nofun, h0.ext s, h1.ext s, h2.ext s, h3.ext s, h4.ext s⟩
theorem IsP.ext {x C : Addr} {t : Tol} (s : ExtN H H') (h : IsP K d H x C t) : IsP K d H' x C t := by
  obtain ⟨dx, nt, P, gt, ag, rt, ns, gs, rs, a, b, c, e, f, g, h1, h2, h3⟩ := h.ex
  exact ⟨dx, nt, P, gt, ag, rt, ns, gs, rs, s _ _ a nofun, s _ _ b nofun, c.ext s, s _ _ e nofun, s _ _ f nofun, s _ _ g nofun, h1, h2, h3⟩
theorem LotsT.ext {ts : List Addr} {as : List Act} (s : ExtN H H') (h : LotsT H ts as) : LotsT H' ts as := ⟨h.1, fun i t a e1 e2 => (h.2 i t a e1 e2).imp fun _ q => ⟨s _ _ q.1 nofun, s _ _ q.2 nofun⟩⟩
theorem LotsAt.ext {L : Addr} {as : List Act} (s : ExtN H H') (h : LotsAt H L as) : LotsAt H' L as := h.imp fun _ q => ⟨s _ _ q.1 nofun, q.2.ext s⟩
theorem PtI.ext {v : V} (s : ExtN H H') : ∀ {o : Option (List Act)}, PtI H v o → PtI H' v o
  | none, h => h
  | some _, ⟨L, e, l, a, b⟩ => ⟨L, e, l.ext s, a, b⟩
theorem SiteG.ext {S : Addr} {t : Tol} (s : ExtN H H') (h : SiteG H S t) : SiteG H' S t := by
  obtain ⟨gv, ag, r, vl, vb, vx, vh, vL, e, e1, e2, e6, p1, p2, p3, p4, p5⟩ := h.ex
  exact ⟨gv, ag, r, vl, vb, vx, vh, vL, s _ _ e nofun, s _ _ e1 nofun, s _ _ e2 nofun, s _ _ e6 nofun, p1.ext s, p2.ext s, p3.ext s, p4.ext s, p5.ext s⟩
end
theorem pe_cW {X : Cx} {k j : Nat} {x : Str} {sp : Sp} {E : XK} {e : Expr} {es : List Expr} {t : TA} {p pos : Pos} (c : CalL X.prog X.w X.K X.mg X.base k x sp) (hr : Room j X.A) (hk : k ≤ j) (hg : Gl X x) (hx : Passes (L2.CX X.prog X.w) X E) (ha : PA X (e :: es) t)
    (hdb : (x == ("__debug__" : Str)) = false := by decide) (he : starEach (e :: es) X.env = (false, eval e X.env) :: starEach es X.env := by rfl) (hpl : (backTo pos (starEach es X.env)).any (·.1) = false := by rfl) :
    PE X (.Call (.Name x p) (e :: es) [] pos) (tCall sp [] E t) := by
  obtain ⟨f, fd, ps, F, hm, kp, b⟩ := c.ex
  exact pe_call (NN.fnOk_less F) (hr.mono hk) hg hm kp b .nil hx ha hdb he hpl
/-- a method of ours that may raise -/
structure MetW (P : Program) (w : World) (K : PySem.W.Frag) (mg : Str → Option Value) (base : Heap) (k : Nat) (C : Addr) (m : Str) (sp : Sp) (dvs : List V) : Prop where
  ex : ∃ (f : Addr) (fd : FuncData) (ps : List Str) (ds : List Value), Cls K C ∧ Meth K C m f ∧ FnOk P w K mg base (L2N.CX P w) k f fd ps sp ∧ Binds K fd ps ds ∧ Vals dvs ds
theorem pe_mW {X : Cx} {k j : Nat} {C : Addr} {m : Str} {sp : Sp} {dvs : List V} {E : XK} {o e : Expr} {es : List Expr} {ta : TE} {t : TA} {apos pos : Pos} {pl : Sem Bool} (c : MetW X.prog X.w X.K X.mg X.base k C m sp dvs) (hr : Room j X.A) (hk : k ≤ j) (hx : Passes (L2.CX X.prog X.w) X E) (he : PE X o ta) (ha : PA X (e :: es) t)
    (hst : starEach (e :: es) X.env = (false, eval e X.env) :: starEach es X.env := by rfl) (hpl : (backTo pos (starEach es X.env)).any (·.1) = false := by rfl)
    (ht : eval (.Call (.Attribute o m apos) (e :: es) [] pos) X.env = (do
      let ov ← eval o X.env
      standAt apos.atName
      let (f, first) ← holding [ov] (getMethod ov m pl)
      callWith pos f first (backTo pos (starEach (e :: es) X.env)) (backToKw pos (keywordEach [] X.env))) := by rfl) :
    PE X (.Call (.Attribute o m apos) (e :: es) [] pos) (tMeth C m sp dvs E ta t) := by
  obtain ⟨f, fd, ps, ds, hc, hm, F, b, d⟩ := c.ex
  exact pe_meth (pl := pl) he hc hm (NN.fnOk_less F) (hr.mono hk) b d hx ha hst hpl ht
theorem opE {r : R2} {ta tb : TE} {σ : L2.St} {H : Hp} {Q : VK} (h : ta σ H fun x H1 => tb σ H1 fun y H2 => r x y H2 Q) : tOp r ta tb σ H Q := h
theorem IsP.instL {K : PySem.W.Frag} {d : D3} {H : Hp} {x C : Addr} {t : Tol} {m : Str} (ip : IsP K d H x C t) (hm : ∀ v1 v2 v3 v4 v5 : V, [(("_names" : Str), v1), ("_parts", v2), ("_given", v3), ("_again", v4), ("_results", v5)].lookup m = none) : ∃ dx fs, H x = some (.ins C dx fs) ∧ fs.lookup m = none := by
  obtain ⟨dx, nt, P, gt, ag, rt, ns, gs, rs, a, _⟩ := ip.ex
  exact ⟨dx, _, a, hm _ _ _ _ _⟩
theorem dueSh {K : PySem.W.Frag} {H : Hp} {u : V} {z : Str} (h : ∀ Q : VK, Q (.str z) H → rReprD K [u] H Q) : ∃ dd : PyData, Dr K H u dd ∧ dd.showable = true ∧ dd.depth ≤ 50 ∧ dd.shown.length ≤ sizeLine ∧ (∀ i, dd = .int i → i.natAbs.log2 < 1920) ∧ dd.shown = z := by
  obtain ⟨v, dd, e, g1, g2, g3, g4, g5, g6⟩ := h (fun x _ => x = .str z) rfl
  cases e
  exact ⟨dd, g1, g2, g3, g4, g5, by injection g6⟩
theorem endsOk {c : C6} {H : Hp} {E : XK} {ok : Prop} {r : Option F6} (e : r = none) (h : ok) : Ends6 c H E ok r := by
  subst e
  exact h
theorem manyNo {m : Option Nat} (h : m = none) : m.map F6.many = none := by rw [h]; rfl
/-- != of programs of the same parts -/
theorem neSame {K : PySem.W.Frag} {d : D3} {C fEq x y : Addr} {t t' : Tol} {H : Hp} {Q : VK} {E : XK} (pc : PCls K C) (eq : NX.EqC K C fEq) (pty : PTy K C) (nf : PySem.W.notFirst K C (.ref C) = true) (ix : IsP K d H x C t) (iy : IsP K d H y C t') (lk : Like t t') (nm : t.Nm) (k : ∀ H', Same H H' → Q (.bl false) H') : rOwn K fEq (spPEq K d C) E true (.ref x) (.ref y) H Q := by
  obtain ⟨dx, fx, ex⟩ := ix.inst
  exact ⟨x, C, dx, fx, .ref C, rfl, ex, eq, nf, pty.ty pc iy, x, y, t, t', rfl, ix, iy, lk, nm, fun H' s => ⟨true, rfl, k H' s⟩⟩
theorem SiteG.but {H H' : Hp} {p c : Addr} {ns : List Int} {x y : Int} {S : Addr} {t : Tol} (P : Pen H p c ns x y) (B : But p H H') (h : SiteG H S t) : SiteG H' S t := by
  obtain ⟨gv, ag, r, vl, vb, vx, vh, vL, e, e1, e2, e6, p1, p2, p3, p4, p5⟩ := h.ex
  exact ⟨gv, ag, r, vl, vb, vx, vh, vL, B _ _ e (fun z => by rw [z, P.hp] at e; cases e), B _ _ e1 (pen_ne P e1), B _ _ e2 (agD_ne P e2), B _ _ e6 (pen_ne P e6), p1.but P B, p2.but P B, p3.but P B, p4.but P B, p5.but P B⟩
/-- what stands while the law goes on -/
structure LI (TT : List (Addr × Str)) (p c : Addr) (ns : List Int) (B : Int) (H : Hp) : Prop where
  pen : ∃ a r, Pen H p c ns a r ∧ a ≤ B
  tab : Tabs TT H
section
variable {TT : List (Addr × Str)} {p c : Addr} {ns : List Int} {B : Int} {H H' : Hp}
theorem LI.ext (h : LI TT p c ns B H) (s : ExtN H H') (t : Tabs TT H') : LI TT p c ns B H' := by
  obtain ⟨a, r, P, l⟩ := h.pen
  exact ⟨⟨a, r, { P with hp := s _ _ P.hp nofun, hc := s _ _ P.hc nofun }, l⟩, t⟩
theorem LI.same (h : LI TT p c ns B H) (s : Same H H') : LI TT p c ns B H' := h.ext (.of s) (h.tab.ext s)
theorem LI.mono {B' : Int} (h : LI TT p c ns B H) (l : B ≤ B') : LI TT p c ns B' H := by
  obtain ⟨a, r, P, e⟩ := h.pen
  exact ⟨⟨a, r, P, Int.le_trans e l⟩, h.tab⟩
theorem tabsBut {x y : Int} (t : Tabs TT H) (P : Pen H p c ns x y) (b : But p H H') : Tabs TT H' := fun e he => by
  obtain ⟨ps, g, q, k⟩ := t e he
  refine ⟨ps, b _ _ g (fun z => by rw [z, P.hp] at g; cases g), q, fun pos cv hc => (k pos cv hc).imp fun c0 w => ⟨w.1, b _ _ w.2 fun z => ?_⟩⟩
  have w2 := w.2
  rw [z, P.hp] at w2
  unfold CodeO at w2
  cases w2
theorem LI.drawn {x y m : Int} (t : Tabs TT H) (P : Pen H p c ns x y) (hd : Drawn H p c ns m H') : LI TT p c ns m H' ∧ But p H H' := by
  obtain ⟨a, r, P2, l, b⟩ := hd
  exact ⟨⟨⟨a, r, P2, l⟩, tabsBut t P b⟩, b⟩
end
end K07

set_option Elab.async false
set_option linter.all false
set_option maxRecDepth 100000
set_option maxHeartbeats 4000000
/-! What other names do to a program. -/
namespace K07
open PySem PySem.Spec L2 NX NU
open PyProof.Rows (sortedS risingS)
theorem dup1_nodup : ∀ {ts : List Str}, ts.Nodup → dup1 ts = none
  | [], _ => rfl
  | [_], _ => rfl
  | a :: b :: r, h => by
    rw [List.nodup_cons] at h
    show (if b = a then some b else dup1 (b :: r)) = none
    rw [if_neg (fun e => h.1 (by rw [e]; exact List.mem_cons_self))]
    exact dup1_nodup h.2
theorem fault_none {l : List (Str × V)} {ns : List Str} (hb : bad1 l (srt (l.map (·.1))) = none) (h : (ns.map (tf l)).Nodup) : fault7 l ns = none := by
  rw [fault_twi hb, dup1_nodup ((srt_perm _).nodup_iff.mpr h)]
  rfl
theorem fault_bad0 {l : List (Str × V)} {ns : List Str} (h : fault7 l ns = none) : bad1 l (srt (l.map (·.1))) = none := by
  cases hb : bad1 l (srt (l.map (·.1))) with
  | none => rfl
  | some v => rw [fault_bad hb] at h; cases h
theorem fault_sub {l : List (Str × V)} {ns us : List Str} (h : fault7 l ns = none) (ro : RnOk ns (tf l)) (nd : us.Nodup) (sub : ∀ z ∈ us, z ∈ ns) : fault7 l us = none :=
  fault_none (fault_bad0 h) (nodup_inj ro.inj nd sub)
theorem RnOk.sub {ws us : List Str} {f : Str → Str} (ro : RnOk ws f) (nd : us.Nodup) (sub : ∀ z ∈ us, z ∈ ws) : RnOk us f := ⟨nd, fun z hz => ro.nm_ z (sub z hz), fun y hy z hz => ro.inj y (sub y hy) z (sub z hz)⟩
theorem bad1_all {l : List (Str × V)} (nd : (l.map (·.1)).Nodup) (h : ∀ q ∈ l, nmV q.2 = true) : ∀ {ys : List Str}, (∀ y ∈ ys, y ∈ l.map (·.1)) → bad1 l ys = none
  | [], _ => rfl
  | y :: r, k => by
    obtain ⟨q, hq, rfl⟩ := List.mem_map.mp (k y List.mem_cons_self)
    show (if nmV ((tv l q.1).getD .non) = true then bad1 l r else some ((tv l q.1).getD .non)) = none
    rw [tv_at nd hq]
    rw [show (some q.2).getD V.non = q.2 from rfl, if_pos (h q hq)]
    exact bad1_all nd h fun z hz => k z (List.mem_cons_of_mem _ hz)
/-! the way home -/
def homeL (f : Str → Str) (ns : List Str) : List (Str × V) := ns.map fun z => (f z, .str z)
theorem home_keys (f : Str → Str) (ns : List Str) : (homeL f ns).map (·.1) = ns.map f := by
  unfold homeL
  rw [List.map_map]
  rfl
section
variable {f : Str → Str} {ns : List Str}
theorem home_nd (ro : RnOk ns f) : ((homeL f ns).map (·.1)).Nodup := by
  rw [home_keys]
  exact nodup_inj ro.inj ro.nd fun z hz => hz
theorem home_at (ro : RnOk ns f) {z : Str} (hz : z ∈ ns) : tf (homeL f ns) (f z) = z :=
  tf_at (tv_at (home_nd ro) (q := (f z, .str z)) (List.mem_map_of_mem (f := fun z => (f z, V.str z)) hz))
theorem home_bad (ro : RnOk ns f) (hn : ∀ z ∈ ns, nm z = true) : bad1 (homeL f ns) (srt ((homeL f ns).map (·.1))) = none :=
  bad1_all (home_nd ro) (fun q hq => by
    obtain ⟨z, hz, rfl⟩ := List.mem_map.mp hq
    exact hn z hz) fun y hy => (srt_perm _).mem_iff.mp hy
theorem home_fault (ro : RnOk ns f) (hn : ∀ z ∈ ns, nm z = true) {us : List Str} (nd : us.Nodup) (hu : ∀ y ∈ us, y ∈ ns.map f) : fault7 (homeL f ns) us = none := by
  refine fault_none (home_bad ro hn) (nodup_inj (ws := us) (fun y hy z hz e => ?_) nd fun z hz => hz)
  obtain ⟨y0, hy0, rfl⟩ := List.mem_map.mp (hu y hy)
  obtain ⟨z0, hz0, rfl⟩ := List.mem_map.mp (hu z hz)
  rw [home_at ro hy0, home_at ro hz0] at e
  rw [e]
end
/-! deeds -/
theorem rnA_comp (f h : Str → Str) (a : Act) : rnA h (rnA f a) = rnA (fun z => h (f z)) a := by
  obtain ⟨m, us⟩ := a
  show ((m.map f).map h, (us.map f).map h) = (m.map fun z => h (f z), us.map fun z => h (f z))
  rw [Option.map_map, List.map_map]
  rfl
theorem rnL_comp (f h : Str → Str) (as : List Act) : rnL h (rnL f as) = rnL (fun z => h (f z)) as := by
  unfold rnL
  rw [List.map_map]
  exact List.map_congr_left fun a _ => rnA_comp f h a
theorem rnP_comp (f h : Str → Str) (g : Prg) : (g.rn f).rn h = g.rn fun z => h (f z) := by
  have o : ∀ o : Option (List Act), (o.map (rnL f)).map (rnL h) = o.map (rnL fun z => h (f z)) := fun o => by
    cases o with
    | none => rfl
    | some as => exact congrArg some (rnL_comp f h as)
  show (⟨rnL h (rnL f g.a), (g.l.map (rnL f)).map (rnL h), rnL h (rnL f g.b), (g.s.map (rnL f)).map (rnL h), rnL h (rnL f g.h)⟩ : Prg) = ⟨_, _, _, _, _⟩
  rw [rnL_comp, rnL_comp, rnL_comp, o, o]
theorem map_fix {f : Str → Str} {us : List Str} (h : ∀ z ∈ us, f z = z) : us.map f = us := by
  have e : us.map f = us.map id := List.map_congr_left h
  rw [e, List.map_id]
theorem rnL_fix {f : Str → Str} {as : List Act} (h : ∀ z ∈ actsN as, f z = z) : rnL f as = as := by
  have e : as.map (rnA f) = as.map id := List.map_congr_left fun a ha => by
    obtain ⟨m, us⟩ := a
    have hm : m.map f = m := by
      cases m with
      | none => rfl
      | some z => exact congrArg some (h z (actsN_at ha List.mem_cons_self))
    have hu : us.map f = us := map_fix fun z hz => h z (actsN_at ha (List.mem_append_right _ hz))
    show (m.map f, us.map f) = (m, us)
    rw [hm, hu]
  unfold rnL
  rw [e, List.map_id]
theorem rnP_fix {f : Str → Str} {g : Prg} (h : ∀ z ∈ actsN g.acts, f z = z) : g.rn f = g := by
  have p : ∀ i, i < 5 → rnL f ((g.at i).getD []) = (g.at i).getD [] := fun i i5 => rnL_fix fun z hz => h z (actsN_mem (fun a ha => at_sub i5 ha) z hz)
  have o : ∀ i, i < 5 → (g.at i).map (rnL f) = g.at i := fun i i5 => by
    have q := p i i5
    cases e : g.at i with
    | none => rfl
    | some as =>
      rw [e] at q
      exact congrArg some q
  have h1 := o 1 (by decide)
  have h3 := o 3 (by decide)
  have h0 := p 0 (by decide)
  have h2 := p 2 (by decide)
  have h4 := p 4 (by decide)
  clear h p o
  obtain ⟨a, l, b, s, h⟩ := g
  show (⟨rnL f a, l.map (rnL f), rnL f b, s.map (rnL f), rnL f h⟩ : Prg) = ⟨a, l, b, s, h⟩
  have h1 : l.map (rnL f) = l := h1
  have h3 : s.map (rnL f) = s := h3
  have h0 : rnL f a = a := h0
  have h2 : rnL f b = b := h2
  have h4 : rnL f h = h := h4
  rw [h0, h1, h2, h3, h4]
theorem ag_fix {f : Str → Str} {l : List (Str × Int)} (h : ∀ q ∈ l, f q.1 = q.1) : (l.map fun q => (f q.1, q.2)) = l := by
  have e : (l.map fun q => (f q.1, q.2)) = l.map id := List.map_congr_left fun q hq => by
    show (f q.1, q.2) = q
    rw [h q hq]
  rw [e, List.map_id]
theorem Tol.words_us {t : Tol} : ∀ z ∈ t.us, z ∈ t.words := fun z hz => by unfold Tol.words; simp [hz]
theorem Tol.words_rs {t : Tol} : ∀ z ∈ t.rs, z ∈ t.words := fun z hz => by unfold Tol.words; simp [hz]
theorem Tol.words_ag {t : Tol} : ∀ q ∈ t.ag, q.1 ∈ t.words := fun q hq => by
  unfold Tol.words
  rw [List.mem_append, List.mem_append, List.mem_append]
  exact .inl (.inl (.inr (List.mem_map_of_mem hq)))
theorem Tol.words_g {t : Tol} : ∀ z ∈ actsN t.g.acts, z ∈ t.words := fun z hz => by
  unfold Tol.words
  exact List.mem_append_right _ hz
/-- back by h, a program is what it was -/
theorem like_home {t : Tol} {f h : Str → Str} (e : ∀ z ∈ t.words, h (f z) = z) : Like ((t.rn f).rn h) t := by
  have eu : (t.us.map f).map h = t.us := by rw [List.map_map]; exact map_fix fun z hz => e z (Tol.words_us z hz)
  have er : (t.rs.map f).map h = t.rs := by rw [List.map_map]; exact map_fix fun z hz => e z (Tol.words_rs z hz)
  refine ⟨?_, ?_, fun z => ?_, fun z => ?_⟩
  · show (t.g.rn f).rn h = t.g
    rw [rnP_comp]
    exact rnP_fix fun z hz => e z (Tol.words_g z hz)
  · show ((t.ag.map fun q => (f q.1, q.2)).map fun q => (h q.1, q.2)) = t.ag
    rw [List.map_map]
    exact ag_fix (f := fun z => h (f z)) fun q hq => e q.1 (Tol.words_ag q hq)
  · show z ∈ (t.us.map f).map h ↔ z ∈ t.us
    rw [eu]
  · show z ∈ (t.rs.map f).map h ↔ z ∈ t.rs
    rw [er]
theorem like_fix {t : Tol} {f : Str → Str} (e : ∀ z ∈ t.words, f z = z) : Like (t.rn f) t := by
  refine ⟨rnP_fix fun z hz => e z (Tol.words_g z hz), ag_fix fun q hq => e q.1 (Tol.words_ag q hq), fun z => ?_, fun z => ?_⟩
  · show z ∈ t.us.map f ↔ z ∈ t.us
    rw [map_fix fun z hz => e z (Tol.words_us z hz)]
  · show z ∈ t.rs.map f ↔ z ∈ t.rs
    rw [map_fix fun z hz => e z (Tol.words_rs z hz)]
theorem like_rfl (t : Tol) : Like t t := ⟨rfl, rfl, fun _ => Iff.rfl, fun _ => Iff.rfl⟩
/-! straight forms -/
theorem rnL_app (f : Str → Str) (as bs : List Act) : rnL f (as ++ bs) = rnL f as ++ rnL f bs := List.map_append
theorem rnL_rep (f : Str → Str) (as : List Act) : ∀ n : Nat, rnL f (rep n as) = rep n (rnL f as)
  | 0 => rfl
  | n + 1 => by rw [rep_succ, rep_succ, rnL_app, rnL_rep f as n]
theorem rn_flat (g : Prg) (f : Str → Str) (n m : Nat) : (g.rn f).flat n m = (g.flat n m).rn f := by
  show (⟨rnL f g.a ++ rep n ((g.l.map (rnL f)).getD []) ++ rnL f g.b ++ rep m ((g.s.map (rnL f)).getD []) ++ rnL f g.h, none, [], none, []⟩ : Prg) = ⟨rnL f (g.a ++ rep n (g.l.getD []) ++ g.b ++ rep m (g.s.getD []) ++ g.h), none, [], none, []⟩
  rw [rn_getD, rn_getD, rnL_app, rnL_app, rnL_app, rnL_app, rnL_rep, rnL_rep]
theorem flat_ok {t : Tol} {n m : Nat} (ok : t.Ok) (few : (t.g.flat n m).a.length ≤ 100) : (t.with_ (t.g.flat n m)).Ok ∧ (t.g.flat n m).many = none := by
  have mn : (t.g.flat n m).many = none := by rw [flat_many, if_pos (by omega)]
  obtain ⟨pool, hp, h6⟩ := ok.six
  have lu := ok.us.few
  have lr := ok.rs.few
  have la := ok.ag.few
  have ea : (t.g.flat n m).acts.length = (t.g.flat n m).a.length := by
    rw [acts_eq]
    show ((t.g.flat n m).a ++ [] ++ [] ++ [] ++ []).length = _
    simp only [List.append_nil]
  refine ⟨⟨⟨fun _ => ⟨rfl, rfl, rfl⟩, fun _ => rfl⟩, many_sizes mn, ok.us, ok.ag, ok.rs, ⟨pool, fun z hz => hp z ?_, h6⟩, ?_, flat_v ok.v n m⟩, mn⟩
  · unfold Tol.words at hz ⊢
    rw [List.mem_append] at hz ⊢
    exact hz.imp id fun h => actsN_mem flat_in z h
  · show t.us.length + t.ag.length + t.rs.length + 4 * (t.g.flat n m).acts.length ≤ 1000
    omega
theorem flat_words {t : Tol} {n m : Nat} : ∀ z ∈ (t.with_ (t.g.flat n m)).words, z ∈ t.words := fun z hz => by
  unfold Tol.words at hz ⊢
  rw [List.mem_append] at hz ⊢
  exact hz.imp id fun h => actsN_mem flat_in z h
theorem rn_with (t : Tol) (f : Str → Str) (n m : Nat) : (t.rn f).with_ ((t.rn f).g.flat n m) = (t.with_ (t.g.flat n m)).rn f := by
  show (⟨(t.g.rn f).flat n m, t.us.map f, _, t.rs.map f⟩ : Tol) = ⟨(t.g.flat n m).rn f, t.us.map f, _, t.rs.map f⟩
  rw [rn_flat]
  rfl
/-! rooms -/
theorem rooms_rn {ws : List Str} {f : Str → Str} (ro : ∀ y ∈ ws, ∀ z ∈ ws, f y = f z → y = z) {as : List Act} (hw : ∀ z ∈ actsN as, z ∈ ws) {ms ks : List Nat} (h : RoomsAt as ms) (k : RoomsAt (rnL f as) ks) : ms = ks := by
  have l1 := h.1
  have l2 := k.1
  rw [rn_len] at l2
  refine List.ext_getElem? fun i => ?_
  by_cases lt : i < as.length
  · have e1 : ms[i]? = some ms[i] := List.getElem?_eq_getElem (by omega)
    have e2 : ks[i]? = some ks[i] := List.getElem?_eq_getElem (by omega)
    have ea : as[i]? = some as[i] := List.getElem?_eq_getElem lt
    obtain ⟨ys, a1, n1⟩ := h.2 i as[i] _ ea e1
    obtain ⟨zs, a2, n2⟩ := k.2 i (rnA f as[i]) _ (by unfold rnL; rw [List.getElem?_map, ea]; rfl) e2
    have mem := List.getElem_mem lt
    generalize as[i] = a at *
    have yw : ∀ y ∈ ys, y ∈ ws := fun y hy => hw y (actsN_at mem ((a1.2.2 y).mp hy))
    have ny := nodup_inj ro a1.2.1 yw
    have ez : ∀ z, z ∈ (rnA f a).1.toList ++ (rnA f a).2 ↔ z ∈ (a.1.toList ++ a.2).map f := fun z => by
      rw [List.map_append]
      show z ∈ (a.1.map f).toList ++ a.2.map f ↔ _
      cases a.1 <;> exact Iff.rfl
    have le1 : (ys.map f).length ≤ zs.length := nodupLen ny fun z hz => by
      obtain ⟨y, hy, rfl⟩ := List.mem_map.mp hz
      exact (a2.2.2 _).mpr ((ez _).mpr (List.mem_map_of_mem ((a1.2.2 y).mp hy)))
    have le2 : zs.length ≤ (ys.map f).length := nodupLen a2.2.1 fun z hz => by
      obtain ⟨y, hy, rfl⟩ := List.mem_map.mp ((ez z).mp ((a2.2.2 z).mp hz))
      exact List.mem_map_of_mem ((a1.2.2 y).mpr hy)
    rw [List.length_map] at le1 le2
    rw [e1, e2, ← n1, ← n2]
    exact congrArg some (by omega)
  · rw [List.getElem?_eq_none (by omega), List.getElem?_eq_none (by omega)]
theorem room_rn {ws : List Str} {f : Str → Str} (ro : ∀ y ∈ ws, ∀ z ∈ ws, f y = f z → y = z) {as : List Act} (hw : ∀ z ∈ actsN as, z ∈ ws) {m k : Int} (h : IsRoom as m) (q : IsRoom (rnL f as) k) : k = m := by
  obtain ⟨ms, r1, z1, n1⟩ := h
  obtain ⟨ks, r2, z2, n2⟩ := q
  obtain rfl := rooms_rn ro hw r1 r2
  by_cases c : ms = []
  · rw [z1 c, z2 c]
  · obtain ⟨a1, b1⟩ := n1 c
    obtain ⟨a2, b2⟩ := n2 c
    have h1 := b1 _ a2
    have h2 := b2 _ a1
    omega
end K07

set_option Elab.async false
set_option linter.all false
set_option maxRecDepth 100000
set_option maxHeartbeats 4000000
/-! What is heard, what is due, and the tables, as text. -/
namespace K07
open PySem PySem.Spec L2 NX NU LamX
open PyProof.Rows (sortedS risingS)
def DueV7 (H : Hp) (u : V) : Option F7 → Prop
  | none => u = .non
  | some f => ∃ p, u = .ref p ∧ H p = some (.tup [.str f.word, f.val])
theorem DueV7.ext {H H' : Hp} {u : V} (s : ExtN H H') : ∀ {r : Option F7}, DueV7 H u r → DueV7 H' u r
  | none, h => h
  | some _, ⟨p, e, g⟩ => ⟨p, e, s _ _ g nofun⟩
theorem DueV7.isNon {H : Hp} {u : V} {r : Option F7} (h : DueV7 H u r) : decide (u = V.non) = r.isNone := by
  cases r with
  | none => rw [show u = .non from h]; rfl
  | some f =>
    obtain ⟨p, rfl, _⟩ := h
    exact decide_eq_false (fun e => nomatch e)
theorem due7 {H : Hp} {Q : VK} {r : Option F7} (k : ∀ u H', Same H H' → DueV7 H' u r → Q u H') : Due7 H Q r :=
  ⟨fun e H' s => k _ H' s (by rw [e]; rfl), fun f e p H' s g => k _ H' s (by rw [e]; exact ⟨p, rfl, g⟩)⟩
theorem askH7 {c : C7} {H : Hp} {Q R : VK} {φ : Addr → Hp → Prop} {r : Option F7} (hR : ∀ v H1, Q .non H1 → R v H1) (k : ∀ v H', Same H H' → DueV7 H' v r → Q v H') : Ends7 c H (HErr7 c Q) (∀ y H', Same H H' → φ y H' → R (.ref y) H') r :=
  ends_heard (fun e y H' s _ => hR _ _ (k .non H' s (by rw [e]; rfl))) (fun f e p H'' s g => k _ _ s (by rw [e]; exact ⟨p, rfl, g⟩))
theorem ends7 {c : C7} {H : Hp} {E : XK} {ok : Prop} {r : Option F7} (e : r = none) (h : ok) : Ends7 c H E ok r := by
  subst e
  exact h
theorem F7.word_ok (f : F7) : f.word.length ≤ 100 ∧ f.word.cps.toList.all (fun c => decide (c < 1114112)) = true := by
  have h : ∀ z : Str, (z = "name" ∨ z = "twice") → z.length ≤ 100 ∧ z.cps.toList.all (fun c => decide (c < 1114112)) = true := fun z h => by
    rcases h with rfl | rfl <;> exact ⟨by decide +kernel, by decide +kernel⟩
  cases f with
  | nam v => exact h _ (.inl rfl)
  | twi z => exact h _ (.inr rfl)
def SmO7 (K : PySem.W.Frag) (H : Hp) (r : Option F7) : Prop := ∀ f, r = some f → ∃ dv, SmD K H f.val dv
theorem dueText7 {K : PySem.W.Frag} {H : Hp} {r : Option F7} (sm : SmO7 K H r) : ∃ z : Str, ∀ H', ExtN H H' → ∀ u, DueV7 H' u r → ∀ Q : VK, Q (.str z) H' → rReprD K [u] H' Q := by
  cases r with
  | none =>
    refine ⟨PyData.shown .none, fun H' e u h Q q => ?_⟩
    obtain rfl : u = .non := h
    exact SmD.ask (d := .none) ⟨.non, rfl, by decide, by decide +kernel, nofun⟩ q
  | some f =>
    obtain ⟨dv, sd⟩ := sm f rfl
    refine ⟨(PyData.tuple [.str f.word, dv]).shown, fun H' e u h Q q => ?_⟩
    obtain ⟨p, rfl, g⟩ := h
    exact SmD.pair (sd.ext e) f.word_ok.1 f.word_ok.2 g q
theorem str_sh {z : Str} (h : Wd z) : (PyData.str z).shown.length ≤ 102 := by
  rw [PyData.shown.eq_def]
  have r := PySem.StrLaws.reprText_len z (fun c hc => Nat.lt_trans (h.2 c hc) (by decide))
  have := h.1
  exact Nat.le_trans r (by omega)
theorem str_sm {K : PySem.W.Frag} {H : Hp} {z : Str} (h : Wd z) : SmD K H (.str z) (.str z) := ⟨.str z, rfl, by show (0 : Nat) ≤ 3; decide, Nat.le_trans (str_sh h) (by decide), nofun⟩
/-- such values are short data -/
theorem Tv.sm {K : PySem.W.Frag} {H : Hp} {v : V} (h : Tv H v) : ∃ d, SmD K H v d ∧ d.depth ≤ 1 ∧ d.shown.length ≤ 102 := by
  cases h with
  | str z a b => exact ⟨_, str_sm ⟨a, b⟩, by show (0 : Nat) ≤ 1; decide, str_sh ⟨a, b⟩⟩
  | non => exact ⟨.none, ⟨.non, rfl, by decide, by decide +kernel, nofun⟩, by decide, by decide +kernel⟩
  | i7 => exact ⟨.int 7, ⟨.int 7, by decide +kernel, by decide +kernel, by decide +kernel, fun i e => by cases e; decide +kernel⟩, by decide +kernel, by decide +kernel⟩
  | bt => exact ⟨.bool true, ⟨.bl true, by decide +kernel, by decide +kernel, by decide +kernel, nofun⟩, by decide +kernel, by decide +kernel⟩
  | tup p e => exact ⟨.tuple [.str "a"], ⟨.tup (SqT.of e) (.cons (.str _) .nil), by decide +kernel, by decide +kernel, by decide +kernel, nofun⟩, by decide +kernel, by decide +kernel⟩
  | lst p e => exact ⟨.list [.str "a"], ⟨.lst (SqL.of e) (.cons (.str _) .nil), by decide +kernel, by decide +kernel, by decide +kernel, nofun⟩, by decide +kernel, by decide +kernel⟩
theorem tab_d {K : PySem.W.Frag} {H : Hp} : ∀ {l : List (Str × V)}, (∀ q ∈ l, Wd q.1) → (∀ q ∈ l, Tv H q.2) → ∃ ds, DrAll K H ((tbK l).map (·.2)) ds ∧ PyData.showableKv (((tbK l).map fun p => keyD p.1).zip ds) = true ∧ PyData.depthKv (((tbK l).map fun p => keyD p.1).zip ds) ≤ 1 ∧
    ((PyData.shownKv (((tbK l).map fun p => keyD p.1).zip ds)).map (·.length)).sum ≤ 206 * l.length ∧ (PyData.shownKv (((tbK l).map fun p => keyD p.1).zip ds)).length = l.length
  | [], _, _ => ⟨[], .nil, rfl, by decide, by decide, rfl⟩
  | q :: l, hk, hv => by
    obtain ⟨ds, i1, i2, i3, i4, i5⟩ := tab_d (K := K) (fun x hx => hk x (List.mem_cons_of_mem _ hx)) (fun x hx => hv x (List.mem_cons_of_mem _ hx))
    obtain ⟨d, ⟨h1, h2, _⟩, h3, h4⟩ := (hv q List.mem_cons_self).sm (K := K)
    have hs := str_sh (hk q List.mem_cons_self)
    have e : (((tbK (q :: l)).map fun p => keyD p.1).zip (d :: ds)) = (.str q.1, d) :: (((tbK l).map fun p => keyD p.1).zip ds) := rfl
    refine ⟨d :: ds, .cons h1 i1, ?_, ?_, ?_, ?_⟩
    · rw [e]
      show ((PyData.str q.1).showable && d.showable && PyData.showableKv _) = true
      rw [h2, i2]
      rfl
    · rw [e]
      show max (max (PyData.str q.1).depth d.depth) (PyData.depthKv _) ≤ 1
      exact Nat.max_le.mpr ⟨Nat.max_le.mpr ⟨by show (0 : Nat) ≤ 1; decide, h3⟩, i3⟩
    · rw [e]
      have e2 : PyData.shownKv ((PyData.str q.1, d) :: (((tbK l).map fun p => keyD p.1).zip ds)) = ((PyData.str q.1).shown ++ Str.ofString ": " ++ d.shown) :: PyData.shownKv (((tbK l).map fun p => keyD p.1).zip ds) := rfl
      rw [e2, List.map_cons, List.sum_cons, List.length_cons]
      repeat rw [Str.length_append]
      have c : (Str.ofString ": ").length = 2 := by decide +kernel
      omega
    · rw [e]
      have e2 : PyData.shownKv ((PyData.str q.1, d) :: (((tbK l).map fun p => keyD p.1).zip ds)) = ((PyData.str q.1).shown ++ Str.ofString ": " ++ d.shown) :: PyData.shownKv (((tbK l).map fun p => keyD p.1).zip ds) := rfl
      rw [e2, List.length_cons, List.length_cons, i5]
/-- a table as data -/
theorem TbAt.sm {K : PySem.W.Frag} {H : Hp} {F : Addr} {l : List (Str × V)} (h : TbAt H F l 12) : ∃ d, SmD K H (.ref F) d := by
  obtain ⟨ds, i1, i2, i3, i4, i5⟩ := tab_d (K := K) h.keys h.vals
  have few := h.few
  refine ⟨_, .dct h.at_ i1, i2, ?_, ?_, nofun⟩
  · show PyData.depthKv _ + 1 ≤ 3
    omega
  · have l := PySem.dictText_len_le (PyData.shownKv (((tbK l).map fun p => keyD p.1).zip ds))
    rw [i5] at l
    exact Nat.le_trans l (by omega)
theorem TbAt.ext {H H' : Hp} {F : Addr} {l : List (Str × V)} {n : Nat} (s : ExtN H H') (h : TbAt H F l n) : TbAt H' F l n := ⟨s _ _ h.at_ nofun, h.nd, h.few, h.keys, fun q hq => (h.vals q hq).keep fun b o e k => s b o e fun ps => by
  rcases k with rfl | rfl <;> exact nofun⟩
theorem bad1_some {l : List (Str × V)} {v : V} : ∀ {ys : List Str}, bad1 l ys = some v → ∃ z ∈ ys, v = (tv l z).getD .non
  | [], h => by cases h
  | y :: r, h => by
    unfold bad1 at h
    split at h
    · obtain ⟨z, hz, e⟩ := bad1_some h
      exact ⟨z, List.mem_cons_of_mem _ hz, e⟩
    · exact ⟨y, List.mem_cons_self, (Option.some.inj h).symm⟩
theorem dup1_some {z : Str} : ∀ {ts : List Str}, dup1 ts = some z → z ∈ ts
  | [], h => by cases h
  | [_], h => by cases h
  | a :: b :: r, h => by
    unfold dup1 at h
    split at h
    · cases h
      exact List.mem_cons_of_mem _ List.mem_cons_self
    · exact List.mem_cons_of_mem _ (dup1_some h)
/-- what is due is short -/
theorem smO_fault {K : PySem.W.Frag} {H : Hp} {F : Addr} {l : List (Str × V)} {n : Nat} {ns : List Str} (h : TbAt H F l n) (hn : ∀ z ∈ ns, nm z = true) : SmO7 K H (fault7 l ns) := fun f e => by
  cases hb : bad1 l (srt (l.map (·.1))) with
  | some v =>
    rw [fault_bad hb] at e
    cases e
    obtain ⟨z, hz, ev⟩ := bad1_some hb
    obtain ⟨q, hq, rfl⟩ := List.mem_map.mp ((srt_perm _).mem_iff.mp hz)
    rw [tv_at h.nd hq] at ev
    obtain ⟨d, sd, _⟩ := (h.vals q hq).sm (K := K)
    exact ⟨d, by show SmD K H v d; rw [ev]; exact sd⟩
  | none =>
    rw [fault_twi hb] at e
    obtain ⟨z, hz, rfl⟩ := Option.map_eq_some_iff.mp e
    obtain ⟨y, hy, rfl⟩ := List.mem_map.mp ((srt_perm _).mem_iff.mp (dup1_some hz))
    exact ⟨_, str_sm (wd_nm (tf_nm h.nd hb (hn y hy)))⟩
end K07

set_option Elab.async false
set_option linter.all false
set_option maxRecDepth 100000
set_option maxHeartbeats 16000000
/-! k07: the law. -/
namespace K07
open PySem PySem.Spec L2 NX NU LamX
open PyProof.Rows (sortedS risingS)
abbrev sLaw : Stmt := top 90
abbrev NLaw : List Str := ["_law_script", "_law_pen_here", "_law_lap", "_law_site_here", "_law_kept", "_law_due_here", "_law_other", "_law_home", "_law_n", "_law_table_so", "_law_thing", "_law_word"]
theorem scLaw : FnScope NLaw ["_law_script"] (defScope sLaw) := ⟨rfl, rfl, rfl, by decide +kernel, rfl, by decide +kernel, by decide +kernel⟩
theorem IsP.kl {K : PySem.W.Frag} {d : D3} {H H' : Hp} {x C : Addr} {t : Tol} (s : KL H H') (h : IsP K d H x C t) : IsP K d H' x C t := by
  obtain ⟨dx, nt, P, gt, ag, rt, ns, gs, rs, a, b, c, e, f, g, h1, h2, h3⟩ := h.ex
  obtain ⟨v0, v1, v2, v3, v4, q, q0, q1, q2, q3, q4⟩ := c
  exact ⟨dx, nt, P, gt, ag, rt, ns, gs, rs, s _ _ a (fun _ e => nomatch e), s _ _ b (fun _ e => nomatch e), ⟨v0, v1, v2, v3, v4, s _ _ q (fun _ e => nomatch e), q0.kl s, q1.kl s, q2.kl s, q3.kl s, q4.kl s⟩, s _ _ e (fun _ e => nomatch e), s _ _ f (fun _ e => nomatch e), s _ _ g (fun _ e => nomatch e), h1, h2, h3⟩
theorem But.kl {H H' : Hp} {p c : Addr} {ns : List Int} {x y : Int} (P : Pen H p c ns x y) (B : But p H H') : KL H H' := fun b o e n => B b o e fun z => by rw [z, P.hp] at e; exact n _ (Option.some.inj e).symm
theorem site_lot {H : Hp} {S : Addr} {t : Tol} (h : SiteG H S t) (ok : t.Ok) : ∀ a ∈ t.g.acts, LotOk a.1 a.2 := fun a ha => by
  have one : ∀ i, i < 5 → ∀ a ∈ (t.g.at i).getD [], LotOk a.1 a.2 := fun i i5 a ha => by
    obtain ⟨z, hz⟩ : ∃ z, partN[i]? = some z := by
      rcases five i5 with rfl | rfl | rfl | rfl | rfl <;> exact ⟨_, rfl⟩
    obtain ⟨v, _, pi⟩ := h.part ok hz
    cases e : t.g.at i with
    | none => rw [e] at ha; cases ha
    | some as =>
      rw [e] at pi ha
      obtain ⟨_, _, _, _, lo⟩ := pi
      exact lo a ha
  rw [acts_mem] at ha
  rcases ha with h | h | h | h | h
  · exact one 0 (by decide) a h
  · exact one 1 (by decide) a h
  · exact one 2 (by decide) a h
  · exact one 3 (by decide) a h
  · exact one 4 (by decide) a h
/-- pairs of a name and a value, each a tuple -/
def PrV (H : Hp) : List Addr → List (Str × V) → Prop
  | [], [] => True
  | p :: ps, q :: l => H p = some (.tup [.str q.1, q.2]) ∧ PrV H ps l
  | _, _ => False
theorem PrV.keep {H H' : Hp} (s : ∀ t q, H t = some (.tup q) → H' t = some (.tup q)) : ∀ {ps : List Addr} {l : List (Str × V)}, PrV H ps l → PrV H' ps l
  | [], [], _ => trivial
  | [], _ :: _, h => h.elim
  | _ :: _, [], h => h.elim
  | _ :: _, _ :: _, h => ⟨s _ _ h.1, h.2.keep s⟩
theorem PrV.snoc {H : Hp} {t : Addr} {q : Str × V} (g : H t = some (.tup [.str q.1, q.2])) : ∀ {ps : List Addr} {l : List (Str × V)}, PrV H ps l → PrV H (ps ++ [t]) (l ++ [q])
  | [], [], _ => ⟨g, trivial⟩
  | [], _ :: _, h => h.elim
  | _ :: _, [], h => h.elim
  | _ :: _, _ :: _, h => ⟨h.1, h.2.snoc g⟩
theorem PrV.paired {K : PySem.W.Frag} {H : Hp} : ∀ {ps : List Addr} {l : List (Str × V)}, PrV H ps l → Paired (fun p (kv : Key × V) => SqT K H p [kV kv.1, kv.2]) ps (tbK l)
  | [], [], _ => .nil
  | [], _ :: _, h => h.elim
  | _ :: _, [], h => h.elim
  | _ :: _, _ :: _, h => .cons (SqT.of h.1) h.2.paired
theorem merge_tb : ∀ {l l0 : List (Str × V)}, ((l0 ++ l).map (·.1)).Nodup → mergeK (tbK l0) (tbK l) = tbK (l0 ++ l)
  | [], l0, _ => by rw [List.append_nil]; rfl
  | q :: r, l0, h => by
    have e : putK (tbK l0) (Sum.inr q.1) q.2 = tbK (l0 ++ [q]) := by
      rw [putK_new _ (tv_none (fun hm => ?_))]
      · unfold tbK
        rw [List.map_append]
        rfl
      · rw [List.map_append, List.nodup_append] at h
        exact h.2.2 _ hm q.1 (by simp) rfl
    show mergeK (putK (tbK l0) (Sum.inr q.1) q.2) (tbK r) = _
    rw [e, merge_tb (by rw [List.append_assoc]; exact h), List.append_assoc]
    rfl
/-- [(f(w), w) for w in names] -/
theorem lcHome {K : PySem.W.Frag} {p : Addr} {ns : List Str} {f : Str → Str} {v : Nat} {σ : L2.St} {H : Hp} {t1 t2 : TE} {Q : VK} (hS : SqL K H p (ns.map V.str)) (few : ns.length ≤ 1000)
    (e1 : ∀ z ∈ ns, ∀ (H' : Hp) (R : VK), Same H H' → R (.str (f z)) H' → t1 ((wipe σ [v]).set v (some (.str z))) H' R) (e2 : ∀ z ∈ ns, ∀ (H' : Hp) (R : VK), Same H H' → R (.str z) H' → t2 ((wipe σ [v]).set v (some (.str z))) H' R)
    (k : ∀ D H' (ps : List Addr), Same H H' → H' D = some (.lst (ps.map V.ref)) → PrV H' ps (homeL f ns) → Q (.ref D) H') :
    tLc (fun _ H R => R (Itl K p) H) (gName v) tYes (tTup (tCons t1 (tCons t2 tNil))) [v] σ H Q := by
  intro D hD
  have low : (2000 : Nat) ≤ sizeLine := by decide
  refine lc_list (xs := ns.map V.str) (fun i H' => Same H H' ∧ ∃ ps : List Addr, ps.length = i ∧ H' D = some (.lst (ps.map V.ref)) ∧ PrV H' ps (homeL f (ns.take i))) ⟨Same.new hD, [], rfl, upd_same, by rw [List.take_zero]; trivial⟩ (fun i H' _ z => sqL_same z.1 hS) ?_ ?_
  · rintro i x H2 hx ⟨s2, ps, lp, gD, pr⟩
    rw [List.getElem?_map] at hx
    obtain ⟨z, hz, rfl⟩ := Option.map_eq_some_iff.mp hx
    have mz := List.mem_of_getElem? hz
    have li := (List.getElem?_eq_some_iff.mp hz).1
    refine ⟨?_, yesT (tpA (csA (e1 z mz H2 _ s2 (csA (e2 z mz H2 _ s2 ⟨by show 2 ≤ sizeLine; omega, fun t ht => ?_⟩)))))⟩
    · show ((σ.set v none).set v _).set v none = σ.set v none
      rw [List.set_set, List.set_set]
    · have s5 := Same.new (H := H2) (o := .tup [.str (f z), .str z]) ht
      have g5 : (upd H2 t (.tup [.str (f z), .str z])) t = some (.tup [.str (f z), .str z]) := upd_same
      have gD5 := s5 _ _ gD
      have pr5 := (pr.keep fun t q e => s5 _ _ e).snoc (q := (f z, .str z)) g5
      have s25 := s2.trans s5
      show ∃ acc, (upd H2 t (.tup [.str (f z), .str z])) D = _ ∧ _
      generalize (upd H2 t (.tup [.str (f z), .str z])) = H5 at *
      refine ⟨_, gD5, by rw [List.length_map]; omega, samePut s25 hD, ps ++ [t], by rw [List.length_append, lp]; rfl, by rw [upd_same, List.map_append]; rfl, ?_⟩
      have et : homeL f (ns.take (i + 1)) = homeL f (ns.take i) ++ [(f z, .str z)] := by
        unfold homeL
        rw [List.take_add_one, hz, List.map_append]
        rfl
      rw [et]
      exact pr5.keep fun t q e => (upd_ne (fun n => by rw [n, gD5] at e; cases e)).trans e
  · rintro H2 ⟨s2, ps, lp, gD, pr⟩
    rw [List.length_map, List.take_length] at pr
    exact k D H2 ps s2 gD pr
/-- the rounds that are asked about -/
theorem ifLoop {σ : L2.St} {H : Hp} {Q : VK} {p c Sx : Addr} {ns : List Int} {a r : Int} {t : Tol} (h1 : σ[1]? = some (some (.ref p))) (h3 : σ[3]? = some (some (.ref Sx))) (P : Pen H p c ns a r) (ha : a ≤ 900000) (hS : SiteG H Sx t) (ok : t.Ok)
    (k : ∀ (n : Nat) H', n ≤ 2 → (0 < n → t.g.l.isSome = true) → Drawn H p c ns (a + 1) H' → Q (.int (n : Int)) H') :
    tIf (tTest (tOp (fun x y H Q => y = V.non ∧ Q (.bl (!decide (x = V.non))) H) (tDGet (tVar 3) (tC (.str "loop"))) (tC .non))) (tCall spDraw [] C8.E0 (tCons (tVar 1) (tCons (tC (.int 3)) tNil))) (tC (.int 0)) σ H Q := by
  obtain ⟨v1, d1, p1⟩ := hS.part ok (j := 1) (z := "loop") rfl
  refine ⟨_, h3, Sx, v1, rfl, d1, rfl, _, rfl, ite2 (fun ne => ?_) (fun _ => k 0 H (by decide) (fun h => absurd h (Nat.lt_irrefl _)) ⟨a, r, P, by omega, But.refl⟩)⟩
  refine ⟨_, h1, p, c, ns, a, r, 3, rfl, P, by omega, by decide, by decide, fun d H' d0 d4 hd => ?_⟩
  obtain ⟨n, rfl⟩ := Int.eq_ofNat_of_zero_le d0
  refine k n H' (by omega) (fun _ => ?_) hd
  have p1 : PtI H v1 t.g.l := p1
  cases e : t.g.l with
  | some as => rfl
  | none =>
    rw [e] at p1
    obtain rfl : v1 = .non := p1
    cases ne
theorem bad_nil : bad1 [] (srt (([] : List (Str × V)).map (·.1))) = none := bad1_all (l := []) List.nodup_nil (fun q h => by cases h) (fun y hy => (srt_perm _).mem_iff.mp hy)
/-- what the law uses -/
structure LT7 (P : Program) (w : World) (K : PySem.W.Frag) (mg : Str → Option Value) (base : Heap) (d : D3) (c : C7) (c6 : C6) (C CS fEq fH pR fR gR : Addr) (fdEq fdH fdR gdR : FuncData) : Prop where
  T : TxtB mg
  N : TxtP mg
  S : SysB base
  E : ErrK7 K mg c CS
  FH : Fun K "_law_heard" "_law_heard" sHeard fH fdH
  gH : mg "_law_heard" = some (.ref fH)
  hbH : Binds K fdH ["_law_ask"] []
  rn : MetW P w K mg base 9 C "renamed" (spRnm K d C c) []
  mR : Meth K C "renamed" gR
  FR : FnOk P w K mg base (L2N.CX P w) 9 gR gdR ["self", "names"] (spRnm K d C c)
  kR : NZ.SelfKw gdR ["self", "names"] ["names"]
  st : MetW P w K mg base 7 C "straight" (spSt K d C c6) [.int 0]
  eq : NX.EqC K C fEq
  FEq : FnOk P w K mg base CX0 5 fEq fdEq ["self", "other"] (spPEq K d C)
  hbE : Binds K fdEq ["self", "other"] []
  ty : PTy K C
  nf : PySem.W.notFirst K C (.ref C) = true
  cl : PCls K C
  pr : PropOf K C "room" pR fR
  FP : FnOk P w K mg base CX0 5 fR fdR ["self"] (spPrm K d C)
  hbP : Binds K fdR ["self"] []
  pen : C8.Cal P w K mg base 1 "_law_pen" (spPen K) []
  draw : C8.Cal P w K mg base 1 "_law_draw" spDraw []
  si : C8.Cal P w K mg base 4 "_law_site" spSg []
  rl : C8.Cal P w K mg base 9 "_law_real" (spRlG K d C) []
  tb : C8.Cal P w K mg base 3 "_law_table" spTab []
  du : C8.Cal P w K mg base 3 "_law_due" (spDue K) []
  al : C8.Cal P w K mg base 2 "_law_all_names" spWoG []
  ld : C8.Cal P w K mg base 3 "_law_led" spLed []
def spLaw (K : PySem.W.Frag) (TT : List (Addr × Str)) : Sp := fun vs H Q _ => ∃ (a : Addr) (ns : List Int), vs = [.ref a] ∧ SqL K H a (ns.map V.int) ∧ Tabs TT H ∧ ∀ H', Q (.bl true) H'
section
variable {P : Program} {w : World} {K : PySem.W.Frag} {mg : Str → Option Value} {base : Heap}
theorem ok_law {d : D3} {c : C7} {c6 : C6} {C CS fEq fH pR fR gR : Addr} {fdEq fdH fdR gdR : FuncData} {TT : List (Addr × Str)} {f cc Pc : Addr} {fd : FuncData} (F : FunC K "law" sLaw f fd cc) (X : LT7 P w K mg base d c c6 C CS fEq fH pR fR gR fdEq fdH fdR gdR) (TB : TabB base mg cc Pc)
    (hmT : (Pc, Str.ofString "law.<locals>.<lambda>") ∈ TT) (hu2 : ∀ p ∈ TT, p.1 = Pc → p.2 = Str.ofString "law.<locals>.<lambda>") : FnG P w K mg base 14 f fd ["_law_script"] (spLaw K TT) := by
  obtain ⟨T, N, S, E, FH, gH, hbH, mRn, mR, FR, kR, mSt, eqC, FEq, hbE, pty, nf, pc, pr, FP, hbP, cPen, cDraw, cSi, cRl, cTb, cDu, cAl, cLd⟩ := X
  obtain ⟨oc, od, kV, doc, pm, an, ct, osl, rfl, lk, hcd⟩ := F.ex
  obtain ⟨ocH, odH, kVH, docH, pmH, anH, cdvH, ctH, oslH, rfl, lkH, hcH⟩ := FH.ex
  refine ⟨fun vs H Q E h => ?_, fun A st s H args us vs Q gd hr0 e0 hb rv h => ?_⟩
  · obtain ⟨a, ns, rfl, _⟩ := h
    rfl
  · obtain ⟨a, ns, rfl, hS, hTb, k⟩ := h
    refine run_ofS (k := 13) (N := NLaw) (ps := ["_law_script"]) lk hcd scLaw hr0 e0 hb rv rfl fun hr => ?_
    have gd : (A.deeper (PyProof.Rows.envOfC "law" (defScope sLaw) s.heap.objs.size f (.ref cc))).guards = some [] := gd
    have hu := hu_of hr
    refine ⟨_, PSs.nox (pss_cons (ps_set (i := 1) scLaw.nd rfl (Or.inl rfl) (C8.pe_c cPen hr (by decide) rfl (pa_cons (pv 0) pa_nil)))
      (pss_cons (ps_for PassesOwn.never rfl (pi_range1 (by rfl) T.brange (pa_cons pe_int pa_nil)) (pg_name (i := 2) scLaw.nd rfl (Or.inl rfl))
        (pss_cons (ps_set (i := 3) scLaw.nd rfl (Or.inl rfl) (C8.pe_c cSi hr (by decide) rfl (pa_cons (pv 1) (pa_cons (C8.pe_c cDraw hr (by decide) rfl (pa_cons (pv 1) (pa_cons pe_int pa_nil))) (pa_cons pe_int pa_nil)))))
        (pss_cons (ps_asg (pe_tup (pa_cons (C8.pe_c cRl hr (by decide) rfl (pa_cons (pv 3) pa_nil)) (pa_cons (C8.pe_c cTb hr (by decide) rfl (pa_cons (pv 1) (pa_cons (pv 3) pa_nil))) pa_nil))) (pg_tup rfl (pgs_cons (pg_name (i := 10) scLaw.nd rfl (Or.inr rfl)) (pgs_cons (pg_name (i := 9) scLaw.nd rfl (Or.inr rfl)) pgs_nil))))
        (pss_cons (ps_par (i := 4) (j := 5) (by rfl) scLaw.nd rfl rfl (by decide) rfl rfl (pa_cons (pe_callB (call_reprD gd hr.units S) (by rfl) T.brepr (by decide +kernel) (pa_cons (pv 9) pa_nil)) (pa_cons (C8.pe_c cDu hr (by decide) rfl (pa_cons (pv 3) (pa_cons (pv 9) pa_nil))) pa_nil)) (by rfl))
        (pss_cons (ps_if (PW.pt (pw_or (pt_cmpR op_ne (pe_callB (call_reprD gd hr.units S) (by rfl) T.brepr (by decide +kernel) (pa_cons (pe_lamcall (T := TT) (TT := THeard7 c) (c := cc) (P := Pc) (Ng := NHeard) (a := "_law_ask") (t := fun E => tMeth C "renamed" (spRnm K d C c) [] E (tVar 10) (tCons (tVar 9) tNil)) rfl gH FH.kp lkH hcH hbH scHeard rfl (Or.inl rfl) (heard_gives T E) TB rfl hmT hu2 (k := 9) (hr.mono (by decide)) (lamS_by (sc := defScope sLaw) (by decide +kernel)) rfl (fun _ _ _ _ _ => rfl)
              (fun A outer s H E f c2 hr2 => pe_mW mRn hr2 (by decide) (L2passOf (takes_of rfl rfl rfl rfl)) (pv 10) (pa_cons (pv 9) pa_nil))) pa_nil)) (pe_callB (call_reprD gd hr.units S) (by rfl) T.brepr (by decide +kernel) (pa_cons (pv 5) pa_nil)) (nomark _))
            (pw_or1 (pt_cmpR op_ne (pe_callB (call_reprD gd hr.units S) (by rfl) T.brepr (by decide +kernel) (pa_cons (pv 9) pa_nil)) (pv 4) (nomark _))))) (pss_one (ps_ret pe_bl)) pss_nil)
        (C8.pss_cut (ps_if (pt_cmpR op_isN (pv 5) pe_non (nomark _))
          (pss_cons (ps_set (i := 6) scLaw.nd rfl (Or.inl rfl) (NZ.pe_methKw (E := C8.E0) (pv 10) pc.cl mR (NN.fnOk_less FR) (hr.mono (by decide)) kR passL (pk_cons (pv 9) pk_nil)))
          (pss_cons (ps_if (PW.pt (pw_or (pt_cmpR (op_neOwn (E := C8.E0) (n := 5) FEq hbE pass0 (hr.mono (by decide))) (pv 6) (C8.pe_c cRl hr (by decide) rfl (pa_cons (C8.pe_c cLd hr (by decide) rfl (pa_cons (pv 3) (pa_cons (pv 9) pa_nil))) pa_nil)) (nomark _))
              (pw_or1 (pt_cmpR (op_neOwn (E := C8.E0) (n := 5) FEq hbE pass0 (hr.mono (by decide))) (pv 10) (C8.pe_c cRl hr (by decide) rfl (pa_cons (pv 3) pa_nil)) (nomark _))))) (pss_one (ps_ret pe_bl)) pss_nil)
          (pss_cons (ps_set (i := 7) scLaw.nd rfl (Or.inl rfl) (pe_callTy (call_dictP rfl) (by rfl) N.bdict (by decide +kernel) (pa_cons (pe_lc (own := [("_law_word", 11)]) (g := gName 11) rfl scLaw.nd (pi_list (C8.pe_c cAl hr (by decide) rfl (pa_cons (pv 3) pa_nil))) (blkOk_by (own := [("_law_word", 11)]) (N := NLaw) (sc := defScope sLaw) (by decide +kernel)) (fun _ _ _ _ _ => pg_name (i := 11) scLaw.nd rfl (Or.inl rfl)) (fun _ _ _ _ _ => pts_nil)
              (fun _ _ _ _ _ => show PE _ _ (tTup (tCons (tDGet2 (tVar 9) (tVar 11) (tVar 11)) (tCons (tVar 11) tNil))) from pe_tup (pa_cons (pe_dget2 hu (pv 9) (pv 11) (pv 11) ⟨rfl, rfl, rfl, rfl⟩) (pa_cons (pv 11) pa_nil)))) pa_nil)))
          (pss_cons (ps_if (PW.pt (pw_or (pt_cmpR (op_neOwn (E := C8.E0) (n := 5) FEq hbE pass0 (hr.mono (by decide))) (pe_mW (E := C8.E0) mRn hr (by decide) passL (pv 6) (pa_cons (pv 7) pa_nil)) (pv 10) (nomark _))
              (pw_or1 (pt_cmpR op_ne (NX.pe_propG (pv 6) FP (hr.mono (by decide)) hbP pass0 rfl) (NX.pe_propG (pv 10) FP (hr.mono (by decide)) hbP pass0 rfl) (nomark _))))) (pss_one (ps_ret pe_bl)) pss_nil)
          (pss_cons (ps_set (i := 8) scLaw.nd rfl (Or.inl rfl) (pe_ifExp (pt_cmpR op_notN (pe_dget hu (pv 3) pe_str (fun _ _ => rfl)) pe_non (nomark _)) (C8.pe_c cDraw hr (by decide) rfl (pa_cons (pv 1) (pa_cons pe_int pa_nil))) pe_int))
          (pss_one (ps_if (pt_cmpR (op_neOwn (E := C8.E0) (n := 5) FEq hbE pass0 (hr.mono (by decide))) (pe_mW (E := C8.E0) mSt hr (by decide) passL (pv 6) (pa_cons (pv 8) pa_nil)) (pe_mW (E := C8.E0) mRn hr (by decide) passL (pe_mW (E := C8.E0) mSt hr (by decide) passL (pv 10) (pa_cons (pv 8) pa_nil)) (pa_cons (pv 9) pa_nil)) (nomark _)) (pss_one (ps_ret pe_bl)) pss_nil))))))) pss_nil)
        (pss_one (ps_if (pt_cmpR (op_neOwn (E := C8.E0) (n := 5) FEq hbE pass0 (hr.mono (by decide))) (pe_mW (E := C8.E0) mRn hr (by decide) passL (pv 10) (pa_cons pe_dnewK pa_nil)) (pv 10) (nomark _)) (pss_one (ps_ret pe_bl)) pss_nil))))))))
      (pss_one (ps_ret pe_bl)))), ?_⟩
    have z1000 : (100000 : Nat) < sizeLine := by decide
    refine ⟨_, rfl, a, ns, rfl, hS, fun p cp ms H1 hp Pn s1 => ?_⟩
    have I0 : LI TT p cp ms 0 H1 := ⟨⟨0, 0, Pn, Int.le_refl _⟩, hTb.ext s1⟩
    refine ⟨6, rfl, by decide, by decide, ?_⟩
    refine for_range (n := 6) (fun i σ H' => LI TT p cp ms (1100 * i) H' ∧ ∃ x2 x3 x4 x5 x6 x7 x8 x9 x10 : Option V, σ = [some (.ref a), some (.ref p), x2, x3, x4, x5, x6, x7, x8, x9, x10, none]) ⟨I0.mono (by omega), _, _, _, _, _, _, _, _, _, rfl⟩ (fun i σ H2 hi ⟨I2, x2, x3, x4, x5, x6, x7, x8, x9, x10, eσ⟩ => ?_) (fun σ H2 _ => k _)
    subst eσ
    clear I0 Pn hp s1
    obtain ⟨a2, r2, P2, l2⟩ := id I2.pen
    -- the site
    refine ⟨_, rfl, _, rfl, p, cp, ms, a2, r2, 3, rfl, P2, by omega, by decide, by decide, fun dn H3 d0 d3 hd => ?_⟩
    obtain ⟨I3, B3⟩ := LI.drawn I2.tab P2 hd
    obtain ⟨nl, rfl⟩ := Int.eq_ofNat_of_zero_le d0
    obtain ⟨a3, r3, P3, l3⟩ := id I3.pen
    refine ⟨p, cp, ms, a3, r3, nl, 5, rfl, P3, by omega, by omega, by decide, fun Sx t H4 hS ok un lo len hd => ?_⟩
    obtain ⟨I4, _⟩ := LI.drawn I3.tab P3 hd
    have n0 : t.g.a.length ≤ 5 := len 0 (by decide)
    have n1 : (t.g.l.getD []).length ≤ 5 := len 1 (by decide)
    have n2 : t.g.b.length ≤ 5 := len 2 (by decide)
    have n3 : (t.g.s.getD []).length ≤ 5 := len 3 (by decide)
    have n4 : t.g.h.length ≤ 5 := len 4 (by decide)
    have lot := site_lot hS ok
    have wn := words_nm ok lot
    have I4 := I4.mono (B' := 1100 * (i : Int) + 1001) (by omega)
    clear hd I3 B3 P3 P2 I2 len lo l3 l2
    -- the program and the table
    refine ⟨_, rfl, Sx, t, rfl, hS, ok, fun x H5 s5 ip => ?_⟩
    have hS := hS.same s5
    have I5 := I4.same s5
    obtain ⟨a5, r5, P5, l5⟩ := id I5.pen
    refine ⟨_, rfl, _, rfl, p, cp, ms, a5, r5, Sx, t, rfl, P5, by omega, hS, ok, wn, fun F l H6 tb hd => ?_⟩
    obtain ⟨I6, B6⟩ := LI.drawn I5.tab P5 hd
    have hS := hS.but P5 B6
    have ip := ip.kl (But.kl P5 B6)
    have I6 := I6.mono (B' := 1100 * (i : Int) + 1050) (by omega)
    clear hd B6 P5 l5 I5 s5 I4
    refine ⟨by show 2 ≤ sizeLine; omega, fun q hq => ?_⟩
    have s7 := Same.new (o := .tup [.ref x, .ref F]) hq
    have gq : (upd H6 q (.tup [.ref x, .ref F])) q = some (.tup [.ref x, .ref F]) := upd_same
    have I7 := I6.same s7
    have hS := hS.same s7
    have ip := ip.same s7
    have tb := tb.same s7
    generalize (upd H6 q (.tup [.ref x, .ref F])) = H7 at *
    refine ⟨q, _, rfl, SqT.of gq, rfl, _, _, rfl, _, _, rfl, rfl, ?_⟩
    clear hq s7 gq I6
    -- what is kept, what is due
    obtain ⟨dT, sdT⟩ := tb.sm (K := K)
    refine ⟨_, rfl, .ref F, dT, rfl, sdT.1, sdT.2.1, by have := sdT.2.2.1; omega, by have := sdT.2.2.2.1; omega, sdT.2.2.2.2, ?_⟩
    refine ⟨_, rfl, _, rfl, Sx, F, t, l, rfl, hS, ok, tb.at_, tb.ok, tb.s, fun ns asc => due7 fun u H8 s8 du => ?_⟩
    refine ⟨_, _, rfl, ?_⟩
    have I8 := I7.same s8
    have hS := hS.same s8
    have ip := ip.same s8
    have tb := tb.same s8
    have sdT := sdT.same s8
    have nns : ∀ z ∈ ns, nm z = true := fun z hz => wn z ((asc.2.2 z).mp hz)
    have hin : ∀ z ∈ t.words, z ∈ ns := fun z hz => (asc.2.2 z).mpr hz
    have lns := asc_few ok asc
    clear s8 I7
    -- what is heard
    obtain ⟨z, hz⟩ := dueText7 (K := K) (H := H8) (r := fault7 l ns) (smO_fault tb nns)
    refine ⟨I8.tab, fun H9 e9 t9 R hR => ?_⟩
    obtain ⟨dx, fx, ex, lx⟩ := (ip.ext e9).instL (m := "renamed") (fun _ _ _ _ _ => rfl)
    refine ⟨_, rfl, x, dx, fx, rfl, ex, lx, _, rfl, x, F, t, l, rfl, ip.ext e9, ok, lot, (tb.ext e9).at_, (tb.ext e9).ok, fun ns2 asc2 => ?_⟩
    rw [asc_same asc2 asc (fun _ => Iff.rfl)]
    refine askH7 hR fun v HA sA dv => ?_
    have eA := e9.trans (.of sA)
    obtain ⟨da, f1, f2, f3, f4, f5, f6⟩ := dueSh (hz HA eA v dv)
    obtain ⟨db, g1, g2, g3, g4, g5, g6⟩ := dueSh (hz HA eA u (du.ext eA))
    refine ⟨v, da, rfl, f1, f2, f3, f4, f5, _, rfl, u, db, rfl, g1, g2, g3, g4, g5, rfl, _, rfl, ite2 (fun hne => absurd hne (by rw [f6, g6]; simp)) (fun _ => ?_)⟩
    clear f1 f2 f3 f4 f5 f6 g1 g2 g3 g4 g5 g6 hz dv hR R asc2 ns2
    have sdA := sdT.ext eA
    refine ⟨_, rfl, .ref F, dT, rfl, sdA.1, sdA.2.1, by have := sdA.2.2.1; omega, by have := sdA.2.2.2.1; omega, sdA.2.2.2.2, ?_⟩
    refine ⟨_, rfl, rfl, _, rfl, ite2 (fun hne => absurd hne (by simp)) (fun _ => ?_)⟩
    have IA := I8.ext eA (t9.ext sA)
    have hS := hS.ext eA
    have ip := ip.ext eA
    have tb := tb.ext eA
    have du := du.ext eA
    clear sdA sdT eA sA e9 t9 I8 ex lx
    refine ⟨fun σ H' => (∃ x6 x7 x8 y4, σ = [some (.ref a), some (.ref p), some (.int (0 + (i : Int))), some (.ref Sx), y4, some u, x6, x7, x8, some (.ref F), some (.ref x), none]) ∧ LI TT p cp ms (1100 * (i : Int) + 1100) H' ∧ IsP K d H' x C t, ?_, ?_⟩
    · refine ⟨_, rfl, rfl, _, rfl, ?_⟩
      rw [du.isNon]
      cases hf : fault7 l ns with
      | some fa => exact iteF ⟨⟨_, _, _, _, rfl⟩, IA.mono (by omega), ip⟩
      | none =>
        refine iteT ?_
        have ro : RnOk ns (tf l) := fault_rn tb.nd hf asc.2.1 nns
        have hb := fault_bad0 hf
        have okr := ok_rn ok hin ro
        clear du
        -- by other names
        obtain ⟨dx, fx, ex, lx⟩ := ip.instL (m := "renamed") (fun _ _ _ _ _ => rfl)
        refine ⟨_, rfl, x, dx, fx, rfl, ex, lx, _, rfl, x, F, t, l, rfl, ip, ok, lot, tb.at_, tb.ok, fun ns2 asc2 => ends7 (by rw [asc_same asc2 asc (fun _ => Iff.rfl)]; exact hf) fun y HB sB iy => ?_⟩
        have hS := hS.same sB
        have ip := ip.same sB
        have tb := tb.same sB
        have IB := IA.same sB
        clear ex lx asc2 ns2 IA sB
        -- what the law leads itself
        refine ⟨_, rfl, _, rfl, _, rfl, Sx, F, t, l, ns, rfl, hS, ok, tb.at_, tb.nd, hb, ro, hin, fun S2 HC sC hS2 => ?_⟩
        refine ⟨S2, t.rn (tf l), rfl, hS2, okr, fun w2 HD sD iw => ?_⟩
        have sCD := sC.trans sD
        refine neSame pc eqC pty nf (iy.same sCD) iw (like_rfl _) okr.nms fun HE sE => ⟨_, rfl, iteF ?_⟩
        have sE := sCD.trans sE
        have hS := hS.same sE
        have ip := ip.same sE
        have iy := iy.same sE
        have tb := tb.same sE
        have IE := IB.same sE
        clear iw hS2 sC sD sCD sE IB
        refine ⟨_, rfl, _, rfl, Sx, t, rfl, hS, ok, fun w3 HG sG iw => ?_⟩
        refine neSame pc eqC pty nf (ip.same sG) iw (like_rfl _) ok.nms fun HH sH => ⟨_, rfl, iteF ?_⟩
        have sH := sG.trans sH
        have hS := hS.same sH
        have ip := ip.same sH
        have iy := iy.same sH
        have tb := tb.same sH
        have IH := IE.same sH
        clear iw sG sH IE
        -- home
        refine nxT ?_
        dsimp only
        refine sqA (cb1 (lcOf ⟨_, rfl, Sx, t, rfl, hS, ok, fun ns2 pN HI sI gN asc2 => ⟨pN, rfl, ⟨_, SqL.of gN⟩, ?_⟩⟩))
        obtain rfl := asc_same asc2 asc (fun _ => Iff.rfl)
        refine lcHome (f := tf l) (SqL.of gN) (by omega) (fun z hz H' R s6 q => getW rfl rfl (.inl (s6 _ _ (sI _ _ tb.at_))) tb.nd hb q) (fun z hz H' R s6 q => ⟨_, rfl, q⟩) (fun D HJ ps sJ gD pr => ?_)
        refine ⟨D, ps, _, rfl, SqL.of gD, pr.paired, fun Hm hHm => ?_⟩
        have em : mergeK [] (tbK (homeL (tf l) ns2)) = tbK (homeL (tf l) ns2) := merge_tb (l0 := []) (home_nd ro)
        rw [em]
        have sK := (sI.trans sJ).trans (Same.new (o := .dK (tbK (homeL (tf l) ns2))) hHm)
        have gH2 : (upd HJ Hm (.dK (tbK (homeL (tf l) ns2)))) Hm = some (.dK (tbK (homeL (tf l) ns2))) := upd_same
        generalize (upd HJ Hm (.dK (tbK (homeL (tf l) ns2)))) = HK at *
        have hS := hS.same sK
        have ip := ip.same sK
        have iy := iy.same sK
        have tb := tb.same sK
        have IK := IH.same sK
        clear pr gD gN sI sJ sK IH hHm em asc2
        have lotr : ∀ a ∈ (t.rn (tf l)).g.acts, LotOk a.1 a.2 := fun a ha => by
          have ha : a ∈ (t.g.rn (tf l)).acts := ha
          rw [rn_acts] at ha
          obtain ⟨b, hb2, rfl⟩ := List.mem_map.mp ha
          exact LotOk.rn ro (lot b hb2) fun z hz => hin z (Tol.words_g z (actsN_at hb2 hz))
        have inw : ∀ z ∈ (t.rn (tf l)).words, z ∈ ns2.map (tf l) := fun z hz => by
          obtain ⟨y, hy, rfl⟩ := List.mem_map.mp ((rn_words t (tf l) z).mp hz)
          exact List.mem_map_of_mem (hin y hy)
        have hok : TbOk K HK (homeL (tf l) ns2) := ⟨home_nd ro, by unfold homeL; rw [List.length_map]; omega, fun q hq => by
          obtain ⟨z, hz, rfl⟩ := List.mem_map.mp hq
          exact .inl ⟨z, rfl, Nat.le_trans (wd_nm (nns z hz)).1 (by decide)⟩⟩
        obtain ⟨dy, fy, ey, ly⟩ := iy.instL (m := "renamed") (fun _ _ _ _ _ => rfl)
        refine ⟨_, rfl, y, dy, fy, rfl, ey, ly, _, rfl, y, Hm, t.rn (tf l), homeL (tf l) ns2, rfl, iy, okr, lotr, gH2, hok, fun ns3 asc3 => ?_⟩
        have f3 : fault7 (homeL (tf l) ns2) ns3 = none := home_fault ro nns asc3.2.1 fun z hz => inw z ((asc3.2.2 z).mp hz)
        refine ends7 f3 fun w4 HL sL iw => ?_
        have nm3 : ∀ z ∈ ns3, nm z = true := fun z hz => words_nm okr lotr z ((asc3.2.2 z).mp hz)
        have ok3 := ok_rn okr (fun z hz => (asc3.2.2 z).mpr hz) (fault_rn (home_nd ro) f3 asc3.2.1 nm3)
        refine ⟨_, rfl, ?_⟩
        refine neSame pc eqC pty nf iw (ip.same sL) (like_home fun z hz => home_at ro (hin z hz)) ok3.nms fun HM sM => ⟨_, rfl, iteF ?_⟩
        have sM := sL.trans sM
        have hS := hS.same sM
        have ip := ip.same sM
        have iy := iy.same sM
        have tb := tb.same sM
        have IM := IK.same sM
        clear iw ok3 nm3 f3 asc3 sL sM gH2 hok IK ey ly
        -- rooms
        have ac : t.g.acts.length ≤ 1000 := by have := ok.size; omega
        obtain ⟨dy, fy, ey⟩ := iy.inst
        refine ⟨_, rfl, y, C, dy, fy, pR, rfl, ey, pc.cl, pr, y, t.rn (tf l), rfl, iy, by show (t.g.rn (tf l)).acts.length ≤ 1000; rw [rn_acts, rn_len]; exact ac, fun m1 HN sN r1 => ?_⟩
        obtain ⟨dx, fx, ex⟩ := (ip.same sN).inst
        refine ⟨_, rfl, x, C, dx, fx, pR, rfl, ex, pc.cl, pr, x, t, rfl, ip.same sN, ac, fun m2 HO sO r2 => ?_⟩
        have e12 : m1 = m2 := room_rn ro.inj (fun z hz => hin z (Tol.words_g z hz)) r2 (by rw [← rn_acts]; exact r1)
        refine ⟨rfl, _, rfl, ite2 (fun hne => absurd hne (by rw [e12]; simp)) (fun _ => ?_)⟩
        have sO := sN.trans sO
        have hS := hS.same sO
        have ip := ip.same sO
        have iy := iy.same sO
        have tb := tb.same sO
        have IO := IM.same sO
        clear ex ey r1 r2 e12 sN sO IM
        -- straight forms
        obtain ⟨aO, rO, PO, lO⟩ := id IO.pen
        refine nxT ?_
        dsimp only
        refine sqA (ifLoop rfl rfl PO (by omega) hS ok fun n HP n2' hl hd => ?_)
        obtain ⟨IP, BP⟩ := LI.drawn IO.tab PO hd
        have ip := ip.kl (But.kl PO BP)
        have iy := iy.kl (But.kl PO BP)
        have tb := tb.but PO BP
        have IP := IP.mono (B' := 1100 * (i : Int) + 1100) (by omega)
        clear hS hd BP PO lO IO
        have fl : (t.g.flat n 0).a.length ≤ 100 := by
          rw [flat_len]
          have : n * (t.g.l.getD []).length ≤ 2 * 5 := Nat.mul_le_mul n2' n1
          omega
        obtain ⟨okf, mf⟩ := flat_ok (m := 0) ok fl
        have mr : ((t.rn (tf l)).g.flat n 0).many = none := by
          show ((t.g.rn (tf l)).flat n 0).many = none
          rw [flat_many, rn_flat]
          show (if (rnL (tf l) (t.g.flat n 0).a).length ≤ 200 then none else some 200) = none
          rw [rn_len, if_pos (by omega)]
        have lotf : ∀ a ∈ (t.with_ (t.g.flat n 0)).g.acts, LotOk a.1 a.2 := fun a ha => lot a (flat_in a ha)
        obtain ⟨dy, fy, ey, ly⟩ := iy.instL (m := "straight") (fun _ _ _ _ _ => rfl)
        refine ⟨_, rfl, y, dy, fy, rfl, ey, ly, _, rfl, y, t.rn (tf l), n, 0, rfl, iy, okr, (fun h => by show (t.g.l.map (rnL (tf l))).isSome = true; rw [Option.isSome_map]; exact hl h), fun h => absurd h (Nat.lt_irrefl _), endsOk (manyNo mr) fun z1 HQ sQ i1 => ?_⟩
        obtain ⟨dx, fx, ex, lx⟩ := (ip.same sQ).instL (m := "straight") (fun _ _ _ _ _ => rfl)
        refine ⟨_, rfl, x, dx, fx, rfl, ex, lx, _, rfl, x, t, n, 0, rfl, ip.same sQ, ok, hl, fun h => absurd h (Nat.lt_irrefl _), endsOk (manyNo mf) fun z2 HS sS i2 => ?_⟩
        have tbS := (tb.same sQ).same sS
        obtain ⟨dz, fz, ez, lz⟩ := i2.instL (m := "renamed") (fun _ _ _ _ _ => rfl)
        refine ⟨z2, dz, fz, rfl, ez, lz, _, rfl, z2, F, t.with_ (t.g.flat n 0), l, rfl, i2, okf, lotf, tbS.at_, tbS.ok, fun ns4 asc4 => ?_⟩
        have sub4 : ∀ z ∈ ns4, z ∈ ns2 := fun z hz => hin z (flat_words z ((asc4.2.2 z).mp hz))
        refine ends7 (fault_sub hf ro asc4.2.1 sub4) fun w5 HT sT iw => ?_
        refine neSame pc eqC pty nf ((i1.same sS).same sT) iw (by rw [rn_with]; exact like_rfl _) ⟨okr.nms.us, okr.nms.rs, okr.nms.nd⟩ fun HU sU => ⟨_, rfl, iteF ⟨⟨_, _, _, _, rfl⟩, (((IP.same sQ).same sS).same sT).same sU, (((ip.same sQ).same sS).same sT).same sU⟩⟩
    · rintro σ HB ⟨⟨x6, x7, x8, y4, eσ⟩, IB, ip⟩
      subst eσ
      obtain ⟨dx, fx, ex, lx⟩ := ip.instL (m := "renamed") (fun _ _ _ _ _ => rfl)
      refine ⟨_, rfl, x, dx, fx, rfl, ex, lx, fun E0 hE0 => ?_⟩
      have sC := Same.new (o := .dK []) hE0
      have gE : (upd HB E0 (.dK [])) E0 = some (.dK (tbK [])) := upd_same
      have IC := IB.same sC
      have ip := ip.same sC
      generalize (upd HB E0 (.dK [])) = HC at *
      have fixed : ∀ z, tf [] z = z := fun z => rfl
      refine ⟨x, E0, t, [], rfl, ip, ok, lot, gE, ⟨List.nodup_nil, by decide, nofun⟩, fun ns5 asc5 => ends7 (fault_none bad_nil (by rw [map_fix fun z _ => fixed z]; exact asc5.2.1)) fun w HW sW iw => ?_⟩
      refine ⟨_, rfl, ?_⟩
      refine neSame pc eqC pty nf iw (ip.same sW) (like_fix fun z _ => fixed z) (ok_rn (ws := ns5) ok (fun z hz => (asc5.2.2 z).mpr hz) (fault_rn (l := []) List.nodup_nil (fault_none bad_nil (by rw [map_fix fun z _ => fixed z]; exact asc5.2.1)) asc5.2.1 fun z hz => wn z ((asc5.2.2 z).mp hz))).nms fun HX sX => ⟨_, rfl, iteF ⟨((IC.same sW).same sX).mono (by omega), _, _, _, _, _, _, _, _, _, rfl⟩⟩
end
end K07

set_option Elab.async false
set_option linter.all false
set_option maxRecDepth 100000
set_option maxHeartbeats 8000000
namespace K07
open PySem L2 NX NU LamX PySem.Spec PyProof.Rows
abbrev sErrB : Stmt := inClass (top 5) 0
theorem scErrB : FnScope ["self", "value"] ["self", "value"] (defScope sErrB) := ⟨rfl, rfl, rfl, by decide +kernel, rfl, by decide +kernel, by decide +kernel⟩
section
variable {P : Program} {w : World} {K : PySem.W.Frag} {mg : Str → Option Value} {base : Heap}
theorem ok_errB {f : Addr} {fd : FuncData} (F : Fun K "__init__" "BadNumber.__init__" sErrB f fd) : FnOk P w K mg base CX0 1 f fd ["self", "value"] (spErr K "value") := by
  refine F.ok scErrB (fun vs H Q E h => ?_) (fun cdv A outer s H vs Q E hr h => ?_)
  · obtain ⟨a, C, v, rfl, _⟩ := h
    rfl
  · obtain ⟨a, C, v, rfl, T, hf, ha, k⟩ := h
    exact ⟨_, (pss_one (ps_ost (pv 0) (pv 1))), _, rfl, _, rfl, a, C, rfl, T, hf, .inl ⟨ha, fun dx h1 h2 => k dx h1 h2⟩⟩
end
structure HeadF (K : PySem.W.Frag) (CS CD pNm pRm c0 c1 c4 c10 c11 dU dM dD cP i0 i1 i4 i10 i11 fU fM fD fNm fRm fEq g0 g1 g2 g3 g4 g5 g6 g7 g8 g9 g10 fRn fPE p0 p1 p2 p3 p4 p5 p6 p7 p8 p9 p10 fP fSt tPA tLO t0 t1 t2 t3 t4 fIs fNum fCnt fPri fCns fCun fAsc fCus fCp fCz fCt fAn fCv fCd fRep fRd fRpt fCr fPen fDraw fPick fSome fNames fReal fOr fDs fSi fRp fRl fHeard fAl fLis fDue fLed fTab fLaw cLaw pLaw : Addr) : Prop where
  n_int : PySem.W.nsIn K mainGlobals "int" = some none
  n_len : PySem.W.nsIn K mainGlobals "len" = some none
  n_abs : PySem.W.nsIn K mainGlobals "abs" = some none
  n_list : PySem.W.nsIn K mainGlobals "list" = some none
  n_str : PySem.W.nsIn K mainGlobals "str" = some none
  n_tuple : PySem.W.nsIn K mainGlobals "tuple" = some none
  n_isinstance : PySem.W.nsIn K mainGlobals "isinstance" = some none
  n_repr : PySem.W.nsIn K mainGlobals "repr" = some none
  n_range : PySem.W.nsIn K mainGlobals "range" = some none
  n_enumerate : PySem.W.nsIn K mainGlobals "enumerate" = some none
  n_ValueError : PySem.W.nsIn K mainGlobals "ValueError" = some none
  n_set : PySem.W.nsIn K mainGlobals "set" = some none
  n_sorted : PySem.W.nsIn K mainGlobals "sorted" = some none
  n_min : PySem.W.nsIn K mainGlobals "min" = some none
  n_bool : PySem.W.nsIn K mainGlobals "bool" = some none
  n_dict : PySem.W.nsIn K mainGlobals "dict" = some none
  n_reversed : PySem.W.nsIn K mainGlobals "reversed" = some none
  n_max : PySem.W.nsIn K mainGlobals "max" = some none
  n_zip : PySem.W.nsIn K mainGlobals "zip" = some none
  gLet : ∃ t, PySem.W.nsIn K mainGlobals "LETTERS" = some (some (.str "abcdefghijklmnopqrstuvwxyz" t))
  gMost : ∃ t, PySem.W.nsIn K mainGlobals "MOST_LETTERS" = some (some (.int 6 t))
  gPrice : ∃ t, PySem.W.nsIn K mainGlobals "MOST_PRICE" = some (some (.int 9 t))
  gAh : ∃ t, PySem.W.nsIn K mainGlobals "MOST_AHEAD" = some (some (.int 200 t))
  gIn : ∃ t, PySem.W.nsIn K mainGlobals "MOST_IN_PART" = some (some (.int 24 t))
  gNa : ∃ t, PySem.W.nsIn K mainGlobals "MOST_NAMES" = some (some (.int 6 t))
  gPA : PySem.W.nsIn K mainGlobals "PARTS" = some (some (.ref tPA))
  gLO : PySem.W.nsIn K mainGlobals "LOOPS" = some (some (.ref tLO))
  sPA : ∀ H : Hp, SqT K H tPA ((["ahead", "loop", "between", "second", "behind"] : List Str).map V.str)
  sLO : ∀ H : Hp, SqT K H tLO ((["loop", "second"] : List Str).map V.str)
  s_t1 : ∀ H : Hp, SqT K H t1 (([] : List Str).map V.str)
  s_t2 : ∀ H : Hp, SqT K H t2 (([] : List Str).map V.str)
  base : BaseF K CS
  e0 : ErrF K "BadName" "value" c0 i0 CS
  e1 : ErrF K "BadDeed" "value" c1 i1 CS
  e4 : ErrF K "BadNumber" "value" c4 i4 CS
  e10 : ErrF K "Twice" "name" c10 i10 CS
  e11 : ErrF K "TooMany" "most" c11 i11 CS
  k0_10 : PySem.W.kitOne K (.ref c0) (.ref c10) = some false
  k10_0 : PySem.W.kitOne K (.ref c10) (.ref c0) = some false
  kU : ClsF K "Use" dU fU
  kU_uses : PySem.W.findIn K (.ref dU) "uses" = some none
  kU_makes : PySem.W.findIn K (.ref dU) "makes" = some none
  kU_names : PySem.W.findIn K (.ref dU) "_names" = some none
  kU_nm : PySem.W.findIn K (.ref dU) "names" = some (some (.ref pNm))
  kU_rm : PySem.W.findIn K (.ref dU) "room" = some (some (.ref pRm))
  kU_CD : PySem.W.kitOne K (.ref dU) (.ref CD) = some true
  kU_eq : PySem.W.findIn K (.ref dU) "__eq__" = some (some (.ref fEq))
  kU_ne : PySem.W.findIn K (.ref dU) "__ne__" = some (some (.builtin "object.__ne__"))
  kU_cl : PySem.W.findIn K (.ref dU) "__class__" = some (some (.builtin "object.__class__"))
  kU_ob : PySem.W.mroIn K dU (.type "object") = some true
  kM : ClsF K "Make" dM fM
  kM_uses : PySem.W.findIn K (.ref dM) "uses" = some none
  kM_makes : PySem.W.findIn K (.ref dM) "makes" = some none
  kM_names : PySem.W.findIn K (.ref dM) "_names" = some none
  kM_nm : PySem.W.findIn K (.ref dM) "names" = some (some (.ref pNm))
  kM_rm : PySem.W.findIn K (.ref dM) "room" = some (some (.ref pRm))
  kM_CD : PySem.W.kitOne K (.ref dM) (.ref CD) = some true
  kM_eq : PySem.W.findIn K (.ref dM) "__eq__" = some (some (.ref fEq))
  kM_ne : PySem.W.findIn K (.ref dM) "__ne__" = some (some (.builtin "object.__ne__"))
  kM_cl : PySem.W.findIn K (.ref dM) "__class__" = some (some (.builtin "object.__class__"))
  kM_ob : PySem.W.mroIn K dM (.type "object") = some true
  kD : ClsF K "Do" dD fD
  kD_uses : PySem.W.findIn K (.ref dD) "uses" = some none
  kD_makes : PySem.W.findIn K (.ref dD) "makes" = some none
  kD_names : PySem.W.findIn K (.ref dD) "_names" = some none
  kD_nm : PySem.W.findIn K (.ref dD) "names" = some (some (.ref pNm))
  kD_rm : PySem.W.findIn K (.ref dD) "room" = some (some (.ref pRm))
  kD_CD : PySem.W.kitOne K (.ref dD) (.ref CD) = some true
  kD_eq : PySem.W.findIn K (.ref dD) "__eq__" = some (some (.ref fEq))
  kD_ne : PySem.W.findIn K (.ref dD) "__ne__" = some (some (.builtin "object.__ne__"))
  kD_cl : PySem.W.findIn K (.ref dD) "__class__" = some (some (.builtin "object.__class__"))
  kD_ob : PySem.W.mroIn K dD (.type "object") = some true
  kP : ClsF K "Program" cP fP
  kP_names : PySem.W.findIn K (.ref cP) "_names" = some none
  kP_parts : PySem.W.findIn K (.ref cP) "_parts" = some none
  kP_given : PySem.W.findIn K (.ref cP) "_given" = some none
  kP_again : PySem.W.findIn K (.ref cP) "_again" = some none
  kP_results : PySem.W.findIn K (.ref cP) "_results" = some none
  kP_eq : PySem.W.findIn K (.ref cP) "__eq__" = some (some (.ref fPE))
  kP_ne : PySem.W.findIn K (.ref cP) "__ne__" = some (some (.builtin "object.__ne__"))
  kP_cl : PySem.W.findIn K (.ref cP) "__class__" = some (some (.builtin "object.__class__"))
  kP_ob : PySem.W.mroIn K cP (.type "object") = some true
  a_p0 : PySem.W.findIn K (.ref cP) "ahead" = some (some (.ref p0))
  a_p1 : PySem.W.findIn K (.ref cP) "loop" = some (some (.ref p1))
  a_p2 : PySem.W.findIn K (.ref cP) "between" = some (some (.ref p2))
  a_p3 : PySem.W.findIn K (.ref cP) "second" = some (some (.ref p3))
  a_p4 : PySem.W.findIn K (.ref cP) "behind" = some (some (.ref p4))
  a_p5 : PySem.W.findIn K (.ref cP) "given" = some (some (.ref p5))
  a_p6 : PySem.W.findIn K (.ref cP) "again" = some (some (.ref p6))
  a_p7 : PySem.W.findIn K (.ref cP) "results" = some (some (.ref p7))
  a_p8 : PySem.W.findIn K (.ref cP) "names" = some (some (.ref p8))
  a_p9 : PySem.W.findIn K (.ref cP) "loops" = some (some (.ref p9))
  a_p10 : PySem.W.findIn K (.ref cP) "room" = some (some (.ref p10))
  pNm_g : PySem.W.specialIn K (.ref pNm) "__get__" = some (some (.builtin "property.__get__"))
  pNm_t : PySem.W.takesIn K (.ref pNm) = some true
  pNm_r : ∃ rest, PySem.W.recIn K pNm "property" = some (Value.ref fNm :: rest)
  pRm_g : PySem.W.specialIn K (.ref pRm) "__get__" = some (some (.builtin "property.__get__"))
  pRm_t : PySem.W.takesIn K (.ref pRm) = some true
  pRm_r : ∃ rest, PySem.W.recIn K pRm "property" = some (Value.ref fRm :: rest)
  p0_g : PySem.W.specialIn K (.ref p0) "__get__" = some (some (.builtin "property.__get__"))
  p0_t : PySem.W.takesIn K (.ref p0) = some true
  p0_r : ∃ rest, PySem.W.recIn K p0 "property" = some (Value.ref g0 :: rest)
  p1_g : PySem.W.specialIn K (.ref p1) "__get__" = some (some (.builtin "property.__get__"))
  p1_t : PySem.W.takesIn K (.ref p1) = some true
  p1_r : ∃ rest, PySem.W.recIn K p1 "property" = some (Value.ref g1 :: rest)
  p2_g : PySem.W.specialIn K (.ref p2) "__get__" = some (some (.builtin "property.__get__"))
  p2_t : PySem.W.takesIn K (.ref p2) = some true
  p2_r : ∃ rest, PySem.W.recIn K p2 "property" = some (Value.ref g2 :: rest)
  p3_g : PySem.W.specialIn K (.ref p3) "__get__" = some (some (.builtin "property.__get__"))
  p3_t : PySem.W.takesIn K (.ref p3) = some true
  p3_r : ∃ rest, PySem.W.recIn K p3 "property" = some (Value.ref g3 :: rest)
  p4_g : PySem.W.specialIn K (.ref p4) "__get__" = some (some (.builtin "property.__get__"))
  p4_t : PySem.W.takesIn K (.ref p4) = some true
  p4_r : ∃ rest, PySem.W.recIn K p4 "property" = some (Value.ref g4 :: rest)
  p5_g : PySem.W.specialIn K (.ref p5) "__get__" = some (some (.builtin "property.__get__"))
  p5_t : PySem.W.takesIn K (.ref p5) = some true
  p5_r : ∃ rest, PySem.W.recIn K p5 "property" = some (Value.ref g5 :: rest)
  p6_g : PySem.W.specialIn K (.ref p6) "__get__" = some (some (.builtin "property.__get__"))
  p6_t : PySem.W.takesIn K (.ref p6) = some true
  p6_r : ∃ rest, PySem.W.recIn K p6 "property" = some (Value.ref g6 :: rest)
  p7_g : PySem.W.specialIn K (.ref p7) "__get__" = some (some (.builtin "property.__get__"))
  p7_t : PySem.W.takesIn K (.ref p7) = some true
  p7_r : ∃ rest, PySem.W.recIn K p7 "property" = some (Value.ref g7 :: rest)
  p8_g : PySem.W.specialIn K (.ref p8) "__get__" = some (some (.builtin "property.__get__"))
  p8_t : PySem.W.takesIn K (.ref p8) = some true
  p8_r : ∃ rest, PySem.W.recIn K p8 "property" = some (Value.ref g8 :: rest)
  p9_g : PySem.W.specialIn K (.ref p9) "__get__" = some (some (.builtin "property.__get__"))
  p9_t : PySem.W.takesIn K (.ref p9) = some true
  p9_r : ∃ rest, PySem.W.recIn K p9 "property" = some (Value.ref g9 :: rest)
  p10_g : PySem.W.specialIn K (.ref p10) "__get__" = some (some (.builtin "property.__get__"))
  p10_t : PySem.W.takesIn K (.ref p10) = some true
  p10_r : ∃ rest, PySem.W.recIn K p10 "property" = some (Value.ref g10 :: rest)
  a_fSt : PySem.W.findIn K (.ref cP) "straight" = some (some (.ref fSt))
  f_fSt : PySem.W.isFn K (.ref fSt) = true
  a_fRn : PySem.W.findIn K (.ref cP) "renamed" = some (some (.ref fRn))
  f_fRn : PySem.W.isFn K (.ref fRn) = true
  f_fEq : PySem.W.isFn K (.ref fEq) = true
  f_fPE : PySem.W.isFn K (.ref fPE) = true
  nfP : PySem.W.notFirst K cP (.ref cP) = true
  gD : PySem.W.nsIn K mainGlobals "Deed" = some (some (.ref CD))
  rdCD : RdF K CD
  mostCD : ∃ t, PySem.W.findCls K (.ref CD) (.type "type") "MOST" = some (.val (.int 3 t))
  w_fP : ∃ fd, L2.FunD K "__init__" "Program.__init__" (defArgs sPi) (defBody sPi) (defScope sPi) (dvsP t0 t1 t2) (kwsP t3 t4) fP fd
  w_fSt : ∃ fd, L2.FunD K "straight" "Program.straight" (defArgs sSt) (defBody sSt) (defScope sSt) [.int 0, .int 0] [] fSt fd
  w_i0 : FnF K "__init__" "BadName.__init__" sErrN i0
  w_i1 : FnF K "__init__" "BadDeed.__init__" sErrD i1
  w_i4 : FnF K "__init__" "BadNumber.__init__" sErrB i4
  w_i10 : FnF K "__init__" "Twice.__init__" sErrT i10
  w_i11 : FnF K "__init__" "TooMany.__init__" sErrM i11
  w_fU : FnF K "__init__" "Use.__init__" sUse fU
  w_fM : FnF K "__init__" "Make.__init__" sMake fM
  w_fD : FnF K "__init__" "Do.__init__" sDo fD
  w_fNm : FnF K "names" "Deed.names" sNames fNm
  w_fRm : FnF K "room" "Deed.room" sRoom fRm
  w_fEq : FnF K "__eq__" "Deed.__eq__" sDEq fEq
  w_g0 : FnF K "ahead" "Program.ahead" (sPt 0) g0
  w_g1 : FnF K "loop" "Program.loop" (sPt 1) g1
  w_g2 : FnF K "between" "Program.between" (sPt 2) g2
  w_g3 : FnF K "second" "Program.second" (sPt 3) g3
  w_g4 : FnF K "behind" "Program.behind" (sPt 4) g4
  w_g5 : FnF K "given" "Program.given" (sPt 5) g5
  w_g6 : FnF K "again" "Program.again" (sPt 6) g6
  w_g7 : FnF K "results" "Program.results" (sPt 7) g7
  w_g8 : FnF K "names" "Program.names" (sPt 8) g8
  w_g9 : FnF K "loops" "Program.loops" (sPt 9) g9
  w_g10 : FnF K "room" "Program.room" (sPt 10) g10
  w_fRn : FnF K "renamed" "Program.renamed" sRnm fRn
  w_fPE : FnF K "__eq__" "Program.__eq__" sPEq fPE
  g_fIs : PySem.W.nsIn K mainGlobals "is_name" = some (some (.ref fIs))
  w_fIs : FnF K "is_name" "is_name" sIs fIs
  g_fNum : PySem.W.nsIn K mainGlobals "is_number" = some (some (.ref fNum))
  w_fNum : FnF K "is_number" "is_number" sNum fNum
  g_fCnt : PySem.W.nsIn K mainGlobals "is_count" = some (some (.ref fCnt))
  w_fCnt : FnF K "is_count" "is_count" sCnt fCnt
  g_fPri : PySem.W.nsIn K mainGlobals "is_price" = some (some (.ref fPri))
  w_fPri : FnF K "is_price" "is_price" sPri fPri
  g_fCns : PySem.W.nsIn K mainGlobals "check_names" = some (some (.ref fCns))
  w_fCns : FnF K "check_names" "check_names" sCns fCns
  g_fCun : PySem.W.nsIn K mainGlobals "check_unlike" = some (some (.ref fCun))
  w_fCun : FnF K "check_unlike" "check_unlike" sCun fCun
  g_fAsc : PySem.W.nsIn K mainGlobals "ascending" = some (some (.ref fAsc))
  w_fAsc : FnF K "ascending" "ascending" sAsc fAsc
  g_fCus : PySem.W.nsIn K mainGlobals "check_used" = some (some (.ref fCus))
  w_fCus : FnF K "check_used" "check_used" sCus fCus
  g_fCp : PySem.W.nsIn K mainGlobals "check_parts" = some (some (.ref fCp))
  w_fCp : FnF K "check_parts" "check_parts" sCp fCp
  g_fCz : PySem.W.nsIn K mainGlobals "check_sizes" = some (some (.ref fCz))
  w_fCz : FnF K "check_sizes" "check_sizes" sCz fCz
  g_fCt : PySem.W.nsIn K mainGlobals "check_told_names" = some (some (.ref fCt))
  w_fCt : FnF K "check_told_names" "check_told_names" sCt fCt
  g_fAn : PySem.W.nsIn K mainGlobals "all_names" = some (some (.ref fAn))
  w_fAn : FnF K "all_names" "all_names" sAn fAn
  g_fCv : PySem.W.nsIn K mainGlobals "check_values" = some (some (.ref fCv))
  w_fCv : FnF K "check_values" "check_values" sCv fCv
  g_fCd : PySem.W.nsIn K mainGlobals "check_deed_partchecks" = some (some (.ref fCd))
  w_fCd : FnF K "check_deed" "check_deed" sCd fCd
  g_fRep : PySem.W.nsIn K mainGlobals "repeated" = some (some (.ref fRep))
  w_fRep : FnF K "repeated" "repeated" sRep fRep
  g_fRd : PySem.W.nsIn K mainGlobals "renamed_deed" = some (some (.ref fRd))
  w_fRd : FnF K "renamed_deed" "renamed_deed" sRd fRd
  g_fRpt : PySem.W.nsIn K mainGlobals "renamed_part" = some (some (.ref fRpt))
  w_fRpt : FnF K "renamed_part" "renamed_part" sRpt fRpt
  g_fCr : PySem.W.nsIn K mainGlobals "check_renames" = some (some (.ref fCr))
  w_fCr : FnF K "check_renames" "check_renames" sCr fCr
  g_fPen : PySem.W.nsIn K mainGlobals "_law_pen" = some (some (.ref fPen))
  w_fPen : FnF K "_law_pen" "_law_pen" sPen fPen
  g_fDraw : PySem.W.nsIn K mainGlobals "_law_draw" = some (some (.ref fDraw))
  w_fDraw : FnF K "_law_draw" "_law_draw" sDraw fDraw
  g_fPick : PySem.W.nsIn K mainGlobals "_law_pick" = some (some (.ref fPick))
  w_fPick : FnF K "_law_pick" "_law_pick" sPick fPick
  g_fSome : PySem.W.nsIn K mainGlobals "_law_some" = some (some (.ref fSome))
  w_fSome : FnF K "_law_some" "_law_some" sSome fSome
  g_fNames : PySem.W.nsIn K mainGlobals "_law_names" = some (some (.ref fNames))
  w_fNames : FnF K "_law_names" "_law_names" sLNames fNames
  g_fReal : PySem.W.nsIn K mainGlobals "_law_real_deed" = some (some (.ref fReal))
  w_fReal : FnF K "_law_real_deed" "_law_real_deed" sReal fReal
  g_fOr : PySem.W.nsIn K mainGlobals "_law_order" = some (some (.ref fOr))
  w_fOr : FnF K "_law_order" "_law_order" sOr fOr
  g_fDs : PySem.W.nsIn K mainGlobals "_law_deeds" = some (some (.ref fDs))
  w_fDs : FnF K "_law_deeds" "_law_deeds" sDs fDs
  g_fSi : PySem.W.nsIn K mainGlobals "_law_site" = some (some (.ref fSi))
  w_fSi : FnF K "_law_site" "_law_site" sSi fSi
  g_fRp : PySem.W.nsIn K mainGlobals "_law_real_part" = some (some (.ref fRp))
  w_fRp : FnF K "_law_real_part" "_law_real_part" sRp fRp
  g_fRl : PySem.W.nsIn K mainGlobals "_law_real" = some (some (.ref fRl))
  w_fRl : FnF K "_law_real" "_law_real" sRl fRl
  g_fHeard : PySem.W.nsIn K mainGlobals "_law_heard" = some (some (.ref fHeard))
  w_fHeard : FnF K "_law_heard" "_law_heard" sHeard fHeard
  g_fAl : PySem.W.nsIn K mainGlobals "_law_all_names" = some (some (.ref fAl))
  w_fAl : FnF K "_law_all_names" "_law_all_names" sWo fAl
  g_fLis : PySem.W.nsIn K mainGlobals "_law_is_name" = some (some (.ref fLis))
  w_fLis : FnF K "_law_is_name" "_law_is_name" sLIs fLis
  g_fDue : PySem.W.nsIn K mainGlobals "_law_due" = some (some (.ref fDue))
  w_fDue : FnF K "_law_due" "_law_due" sDue fDue
  g_fLed : PySem.W.nsIn K mainGlobals "_law_led" = some (some (.ref fLed))
  w_fLed : FnF K "_law_led" "_law_led" sLed fLed
  g_fTab : PySem.W.nsIn K mainGlobals "_law_table" = some (some (.ref fTab))
  w_fTab : FnF K "_law_table" "_law_table" sTab fTab
  g_fLaw : PySem.W.nsIn K mainGlobals "law" = some (some (.ref fLaw))
  w_fLaw : NX.FnT K "law" sLaw fLaw cLaw pLaw
  l_Law : K.lookup pLaw = none
section
variable {K : PySem.W.Frag} {mg : Str → Option Value} {h : Heap} {CS CD pNm pRm c0 c1 c4 c10 c11 dU dM dD cP i0 i1 i4 i10 i11 fU fM fD fNm fRm fEq g0 g1 g2 g3 g4 g5 g6 g7 g8 g9 g10 fRn fPE p0 p1 p2 p3 p4 p5 p6 p7 p8 p9 p10 fP fSt tPA tLO t0 t1 t2 t3 t4 fIs fNum fCnt fPri fCns fCun fAsc fCus fCp fCz fCt fAn fCv fCd fRep fRd fRpt fCr fPen fDraw fPick fSome fNames fReal fOr fDs fSi fRp fRl fHeard fAl fLis fDue fLed fTab fLaw cLaw pLaw : Addr}
theorem HeadF.law {l : PySem.W.OpenLaw} {w : World} {fa : Addr} (D : HeadF K CS CD pNm pRm c0 c1 c4 c10 c11 dU dM dD cP i0 i1 i4 i10 i11 fU fM fD fNm fRm fEq g0 g1 g2 g3 g4 g5 g6 g7 g8 g9 g10 fRn fPE p0 p1 p2 p3 p4 p5 p6 p7 p8 p9 p10 fP fSt tPA tLO t0 t1 t2 t3 t4 fIs fNum fCnt fPri fCns fCun fAsc fCus fCp fCz fCt fAn fCv fCd fRep fRd fRpt fCr fPen fDraw fPick fSome fNames fReal fOr fDs fSi fRp fRl fHeard fAl fLis fDue fLed fTab fLaw cLaw pLaw) (X : K.In h) (G : h.Ns mainGlobals mg) (hfa : mg "law" = some (.ref fa))
    (tbLaw : h.get? pLaw = some { cls := .none, data := .fields #[] }) : ∃ fd cs sp, LawG l w K 14 63 "_law_script" mg fa h fd cs sp := by
  have e := hfa.symm.trans (PySem.W.mg_of X G D.g_fLaw)
  cases e
  have TB : TxtB mg := ⟨PySem.W.mg_none_of X G D.n_int, PySem.W.mg_none_of X G D.n_len, PySem.W.mg_none_of X G D.n_abs, PySem.W.mg_none_of X G D.n_list, PySem.W.mg_none_of X G D.n_str, PySem.W.mg_none_of X G D.n_tuple, PySem.W.mg_none_of X G D.n_isinstance, PySem.W.mg_none_of X G D.n_repr, PySem.W.mg_none_of X G D.n_range, PySem.W.mg_none_of X G D.n_enumerate, PySem.W.mg_none_of X G D.n_ValueError⟩
  have TA : TxtA mg := ⟨PySem.W.mg_none_of X G D.n_set, PySem.W.mg_none_of X G D.n_sorted, PySem.W.mg_none_of X G D.n_tuple⟩
  have TN : TxtN mg := ⟨(let ⟨t, e⟩ := D.gLet; ⟨t, PySem.W.mg_of X G e⟩), (let ⟨t, e⟩ := D.gMost; ⟨t, PySem.W.mg_of X G e⟩)⟩
  have TP : TxtP mg := ⟨PySem.W.mg_none_of X G D.n_bool, PySem.W.mg_none_of X G D.n_dict, PySem.W.mg_none_of X G D.n_reversed, (let ⟨t, e⟩ := D.gPrice; ⟨t, PySem.W.mg_of X G e⟩)⟩
  have TQ : TxtQ mg K := ⟨⟨tPA, PySem.W.mg_of X G D.gPA, D.sPA⟩, ⟨tLO, PySem.W.mg_of X G D.gLO, D.sLO⟩, (let ⟨t, e⟩ := D.gAh; ⟨t, PySem.W.mg_of X G e⟩), (let ⟨t, e⟩ := D.gIn; ⟨t, PySem.W.mg_of X G e⟩), (let ⟨t, e⟩ := D.gNa; ⟨t, PySem.W.mg_of X G e⟩)⟩
  obtain ⟨fd_i0, F_i0⟩ := D.w_i0.ex
  have b_i0 := F_i0.binds (ps := ["self", "value"]) fun _ _ _ _ _ _ us hl => match us, hl with | [_, _], _ => rfl
  obtain ⟨fd_i1, F_i1⟩ := D.w_i1.ex
  have b_i1 := F_i1.binds (ps := ["self", "value"]) fun _ _ _ _ _ _ us hl => match us, hl with | [_, _], _ => rfl
  obtain ⟨fd_i4, F_i4⟩ := D.w_i4.ex
  have b_i4 := F_i4.binds (ps := ["self", "value"]) fun _ _ _ _ _ _ us hl => match us, hl with | [_, _], _ => rfl
  obtain ⟨fd_i10, F_i10⟩ := D.w_i10.ex
  have b_i10 := F_i10.binds (ps := ["self", "name"]) fun _ _ _ _ _ _ us hl => match us, hl with | [_, _], _ => rfl
  obtain ⟨fd_i11, F_i11⟩ := D.w_i11.ex
  have b_i11 := F_i11.binds (ps := ["self", "most"]) fun _ _ _ _ _ _ us hl => match us, hl with | [_, _], _ => rfl
  obtain ⟨fd_fU, F_fU⟩ := D.w_fU.ex
  obtain ⟨fd_fM, F_fM⟩ := D.w_fM.ex
  have b_fM := F_fM.binds (ps := ["self", "name"]) fun _ _ _ _ _ _ us hl => match us, hl with | [_, _], _ => rfl
  obtain ⟨fd_fD, F_fD⟩ := D.w_fD.ex
  obtain ⟨fd_fNm, F_fNm⟩ := D.w_fNm.ex
  have b_fNm := F_fNm.binds (ps := ["self"]) fun _ _ _ _ _ _ us hl => match us, hl with | [_], _ => rfl
  obtain ⟨fd_fRm, F_fRm⟩ := D.w_fRm.ex
  have b_fRm := F_fRm.binds (ps := ["self"]) fun _ _ _ _ _ _ us hl => match us, hl with | [_], _ => rfl
  obtain ⟨fd_fEq, F_fEq⟩ := D.w_fEq.ex
  have b_fEq := F_fEq.binds (ps := ["self", "other"]) fun _ _ _ _ _ _ us hl => match us, hl with | [_, _], _ => rfl
  obtain ⟨fd_g0, F_g0⟩ := D.w_g0.ex
  have b_g0 := F_g0.binds (ps := ["self"]) fun _ _ _ _ _ _ us hl => match us, hl with | [_], _ => rfl
  obtain ⟨fd_g1, F_g1⟩ := D.w_g1.ex
  have b_g1 := F_g1.binds (ps := ["self"]) fun _ _ _ _ _ _ us hl => match us, hl with | [_], _ => rfl
  obtain ⟨fd_g2, F_g2⟩ := D.w_g2.ex
  have b_g2 := F_g2.binds (ps := ["self"]) fun _ _ _ _ _ _ us hl => match us, hl with | [_], _ => rfl
  obtain ⟨fd_g3, F_g3⟩ := D.w_g3.ex
  have b_g3 := F_g3.binds (ps := ["self"]) fun _ _ _ _ _ _ us hl => match us, hl with | [_], _ => rfl
  obtain ⟨fd_g4, F_g4⟩ := D.w_g4.ex
  have b_g4 := F_g4.binds (ps := ["self"]) fun _ _ _ _ _ _ us hl => match us, hl with | [_], _ => rfl
  obtain ⟨fd_g5, F_g5⟩ := D.w_g5.ex
  have b_g5 := F_g5.binds (ps := ["self"]) fun _ _ _ _ _ _ us hl => match us, hl with | [_], _ => rfl
  obtain ⟨fd_g6, F_g6⟩ := D.w_g6.ex
  have b_g6 := F_g6.binds (ps := ["self"]) fun _ _ _ _ _ _ us hl => match us, hl with | [_], _ => rfl
  obtain ⟨fd_g7, F_g7⟩ := D.w_g7.ex
  have b_g7 := F_g7.binds (ps := ["self"]) fun _ _ _ _ _ _ us hl => match us, hl with | [_], _ => rfl
  obtain ⟨fd_g8, F_g8⟩ := D.w_g8.ex
  have b_g8 := F_g8.binds (ps := ["self"]) fun _ _ _ _ _ _ us hl => match us, hl with | [_], _ => rfl
  obtain ⟨fd_g9, F_g9⟩ := D.w_g9.ex
  have b_g9 := F_g9.binds (ps := ["self"]) fun _ _ _ _ _ _ us hl => match us, hl with | [_], _ => rfl
  obtain ⟨fd_g10, F_g10⟩ := D.w_g10.ex
  have b_g10 := F_g10.binds (ps := ["self"]) fun _ _ _ _ _ _ us hl => match us, hl with | [_], _ => rfl
  obtain ⟨fd_fRn, F_fRn⟩ := D.w_fRn.ex
  have b_fRn := F_fRn.binds (ps := ["self", "names"]) fun _ _ _ _ _ _ us hl => match us, hl with | [_, _], _ => rfl
  obtain ⟨fd_fPE, F_fPE⟩ := D.w_fPE.ex
  have b_fPE := F_fPE.binds (ps := ["self", "other"]) fun _ _ _ _ _ _ us hl => match us, hl with | [_, _], _ => rfl
  obtain ⟨fd_fIs, F_fIs⟩ := D.w_fIs.ex
  have b_fIs := F_fIs.binds (ps := ["value"]) fun _ _ _ _ _ _ us hl => match us, hl with | [_], _ => rfl
  obtain ⟨fd_fNum, F_fNum⟩ := D.w_fNum.ex
  have b_fNum := F_fNum.binds (ps := ["value"]) fun _ _ _ _ _ _ us hl => match us, hl with | [_], _ => rfl
  obtain ⟨fd_fCnt, F_fCnt⟩ := D.w_fCnt.ex
  have b_fCnt := F_fCnt.binds (ps := ["value"]) fun _ _ _ _ _ _ us hl => match us, hl with | [_], _ => rfl
  obtain ⟨fd_fPri, F_fPri⟩ := D.w_fPri.ex
  have b_fPri := F_fPri.binds (ps := ["value"]) fun _ _ _ _ _ _ us hl => match us, hl with | [_], _ => rfl
  obtain ⟨fd_fCns, F_fCns⟩ := D.w_fCns.ex
  have b_fCns := F_fCns.binds (ps := ["values"]) fun _ _ _ _ _ _ us hl => match us, hl with | [_], _ => rfl
  obtain ⟨fd_fCun, F_fCun⟩ := D.w_fCun.ex
  have b_fCun := F_fCun.binds (ps := ["names"]) fun _ _ _ _ _ _ us hl => match us, hl with | [_], _ => rfl
  obtain ⟨fd_fAsc, F_fAsc⟩ := D.w_fAsc.ex
  have b_fAsc := F_fAsc.binds (ps := ["names"]) fun _ _ _ _ _ _ us hl => match us, hl with | [_], _ => rfl
  obtain ⟨fd_fCus, F_fCus⟩ := D.w_fCus.ex
  have b_fCus := F_fCus.binds (ps := ["names"]) fun _ _ _ _ _ _ us hl => match us, hl with | [_], _ => rfl
  obtain ⟨fd_fCp, F_fCp⟩ := D.w_fCp.ex
  have b_fCp := F_fCp.binds (ps := ["parts"]) fun _ _ _ _ _ _ us hl => match us, hl with | [_], _ => rfl
  obtain ⟨fd_fCz, F_fCz⟩ := D.w_fCz.ex
  have b_fCz := F_fCz.binds (ps := ["parts"]) fun _ _ _ _ _ _ us hl => match us, hl with | [_], _ => rfl
  obtain ⟨fd_fCt, F_fCt⟩ := D.w_fCt.ex
  have b_fCt := F_fCt.binds (ps := ["given", "again", "results"]) fun _ _ _ _ _ _ us hl => match us, hl with | [_, _, _], _ => rfl
  obtain ⟨fd_fAn, F_fAn⟩ := D.w_fAn.ex
  have b_fAn := F_fAn.binds (ps := ["parts", "given", "again", "results"]) fun _ _ _ _ _ _ us hl => match us, hl with | [_, _, _, _], _ => rfl
  obtain ⟨fd_fCv, F_fCv⟩ := D.w_fCv.ex
  have b_fCv := F_fCv.binds (ps := ["parts", "given", "again", "results"]) fun _ _ _ _ _ _ us hl => match us, hl with | [_, _, _, _], _ => rfl
  obtain ⟨fd_fCd, F_fCd⟩ := D.w_fCd.ex
  have b_fCd := F_fCd.binds (ps := ["deed", "place", "known", "again"]) fun _ _ _ _ _ _ us hl => match us, hl with | [_, _, _, _], _ => rfl
  obtain ⟨fd_fRep, F_fRep⟩ := D.w_fRep.ex
  have b_fRep := F_fRep.binds (ps := ["deeds", "rounds", "most"]) fun _ _ _ _ _ _ us hl => match us, hl with | [_, _, _], _ => rfl
  obtain ⟨fd_fRd, F_fRd⟩ := D.w_fRd.ex
  have b_fRd := F_fRd.binds (ps := ["deed", "renames"]) fun _ _ _ _ _ _ us hl => match us, hl with | [_, _], _ => rfl
  obtain ⟨fd_fRpt, F_fRpt⟩ := D.w_fRpt.ex
  have b_fRpt := F_fRpt.binds (ps := ["deeds", "renames"]) fun _ _ _ _ _ _ us hl => match us, hl with | [_, _], _ => rfl
  obtain ⟨fd_fCr, F_fCr⟩ := D.w_fCr.ex
  have b_fCr := F_fCr.binds (ps := ["renames"]) fun _ _ _ _ _ _ us hl => match us, hl with | [_], _ => rfl
  obtain ⟨fd_fPen, F_fPen⟩ := D.w_fPen.ex
  have b_fPen := F_fPen.binds (ps := ["_law_script"]) fun _ _ _ _ _ _ us hl => match us, hl with | [_], _ => rfl
  obtain ⟨fd_fDraw, F_fDraw⟩ := D.w_fDraw.ex
  have b_fDraw := F_fDraw.binds (ps := ["_law_pen_here", "_law_many"]) fun _ _ _ _ _ _ us hl => match us, hl with | [_, _], _ => rfl
  obtain ⟨fd_fPick, F_fPick⟩ := D.w_fPick.ex
  have b_fPick := F_fPick.binds (ps := ["_law_pen_here", "_law_some_here"]) fun _ _ _ _ _ _ us hl => match us, hl with | [_, _], _ => rfl
  obtain ⟨fd_fSome, F_fSome⟩ := D.w_fSome.ex
  have b_fSome := F_fSome.binds (ps := ["_law_pen_here", "_law_pool", "_law_least", "_law_most"]) fun _ _ _ _ _ _ us hl => match us, hl with | [_, _, _, _], _ => rfl
  obtain ⟨fd_fNames, F_fNames⟩ := D.w_fNames.ex
  have b_fNames := F_fNames.binds (ps := ["_law_pen_here", "_law_many"]) fun _ _ _ _ _ _ us hl => match us, hl with | [_, _], _ => rfl
  obtain ⟨fd_fReal, F_fReal⟩ := D.w_fReal.ex
  have b_fReal := F_fReal.binds (ps := ["_law_made", "_law_used"]) fun _ _ _ _ _ _ us hl => match us, hl with | [_, _], _ => rfl
  obtain ⟨fd_fOr, F_fOr⟩ := D.w_fOr.ex
  have b_fOr := F_fOr.binds (ps := []) fun _ _ _ _ _ _ us hl => match us, hl with | [], _ => rfl
  obtain ⟨fd_fDs, F_fDs⟩ := D.w_fDs.ex
  have b_fDs := F_fDs.binds (ps := ["_law_pen_here", "_law_known", "_law_free", "_law_most"]) fun _ _ _ _ _ _ us hl => match us, hl with | [_, _, _, _], _ => rfl
  obtain ⟨fd_fSi, F_fSi⟩ := D.w_fSi.ex
  have b_fSi := F_fSi.binds (ps := ["_law_pen_here", "_law_loops", "_law_most"]) fun _ _ _ _ _ _ us hl => match us, hl with | [_, _, _], _ => rfl
  obtain ⟨fd_fRp, F_fRp⟩ := D.w_fRp.ex
  have b_fRp := F_fRp.binds (ps := ["_law_deeds_here"]) fun _ _ _ _ _ _ us hl => match us, hl with | [_], _ => rfl
  obtain ⟨fd_fRl, F_fRl⟩ := D.w_fRl.ex
  have b_fRl := F_fRl.binds (ps := ["_law_site_here"]) fun _ _ _ _ _ _ us hl => match us, hl with | [_], _ => rfl
  obtain ⟨fd_fHeard, F_fHeard⟩ := D.w_fHeard.ex
  have b_fHeard := F_fHeard.binds (ps := ["_law_ask"]) fun _ _ _ _ _ _ us hl => match us, hl with | [_], _ => rfl
  obtain ⟨fd_fAl, F_fAl⟩ := D.w_fAl.ex
  have b_fAl := F_fAl.binds (ps := ["_law_site_here"]) fun _ _ _ _ _ _ us hl => match us, hl with | [_], _ => rfl
  obtain ⟨fd_fLis, F_fLis⟩ := D.w_fLis.ex
  have b_fLis := F_fLis.binds (ps := ["_law_value"]) fun _ _ _ _ _ _ us hl => match us, hl with | [_], _ => rfl
  obtain ⟨fd_fDue, F_fDue⟩ := D.w_fDue.ex
  have b_fDue := F_fDue.binds (ps := ["_law_site_here", "_law_table_so"]) fun _ _ _ _ _ _ us hl => match us, hl with | [_, _], _ => rfl
  obtain ⟨fd_fLed, F_fLed⟩ := D.w_fLed.ex
  have b_fLed := F_fLed.binds (ps := ["_law_site_here", "_law_table_so"]) fun _ _ _ _ _ _ us hl => match us, hl with | [_, _], _ => rfl
  obtain ⟨fd_fTab, F_fTab⟩ := D.w_fTab.ex
  have b_fTab := F_fTab.binds (ps := ["_law_pen_here", "_law_site_here"]) fun _ _ _ _ _ _ us hl => match us, hl with | [_, _], _ => rfl
  obtain ⟨⟨fd_fLaw, F_fLaw⟩, tLaw⟩ := D.w_fLaw
  have cdLaw := PySem.W.codeHd_of_K X tLaw
  obtain ⟨fd_fP, F_fP⟩ := D.w_fP
  obtain ⟨fd_fSt, F_fSt⟩ := D.w_fSt
  have kw_fRn : NZ.SelfKw fd_fRn ["self", "names"] ["names"] := by
    obtain ⟨oc, od, kV, doc, pm, an, cdv, ct, osl, rfl, lk, hcd⟩ := F_fRn.ex
    exact fun s us hl => match us, hl with | [_, _], _ => .of_eq rfl
  have b_L : ∀ (t : Shared) (u : Value), BindsTo t fd_fLaw ⟨[u], []⟩ [("_law_script", u)] := by
    obtain ⟨oc, od, kV, doc, pm, an, ct, osl, rfl, lk, hcd⟩ := F_fLaw.ex
    exact fun t u => .of_eq rfl
  obtain ⟨dsS, vS, bS⟩ := F_fSt.binds1 (ps := ["self", "n", "m"]) 2 1 (by decide) rfl (fun T kV doc pm an cdv ct us its h1 h2 => match us, h1, its, h2 with
    | [_, _], _, [_, _], _ => ⟨_, rfl, rfl⟩)
  obtain ⟨TT, hTT⟩ : ∃ TT : List (Addr × Str), TT = [(pLaw, Str.ofString "law.<locals>.<lambda>")] := ⟨_, rfl⟩
  have hmLaw : (pLaw, Str.ofString "law.<locals>.<lambda>") ∈ TT := by rw [hTT]; simp
  have huLaw : ∀ p ∈ TT, p.1 = pLaw → p.2 = Str.ofString "law.<locals>.<lambda>" := fun p hp e => by
    rw [hTT] at hp
    rw [List.mem_singleton.mp hp]
  have dcs : Dcs K mg ⟨dU, dM, dD⟩ fU fM fD :=
    { mu := D.kU.mak, mm := D.kM.mak, md := D.kD.mak, gu := PySem.W.mg_of X G D.kU.g, gm := PySem.W.mg_of X G D.kM.g, gd := PySem.W.mg_of X G D.kD.g
      du := ⟨D.kU.cls, D.kU_uses, D.kU_makes, D.kU_names⟩, dm := ⟨D.kM.cls, D.kM_uses, D.kM_makes, D.kM_names⟩, dd := ⟨D.kD.cls, D.kD_uses, D.kD_makes, D.kD_names⟩ }
  have k3 : D3C K ⟨dU, dM, dD⟩ := ⟨dcs.du, dcs.dm, dcs.dd⟩
  have deedC : DeedC K mg CD := ⟨PySem.W.mg_of X G D.gD, let ⟨t, e⟩ := D.mostCD; ⟨.type "type", _, ⟨D.rdCD.rd, D.rdCD.ga⟩, ⟨e, ⟨_, rfl⟩⟩⟩⟩
  have PC : PCls K cP := ⟨D.kP.cls, D.kP_names, D.kP_parts, D.kP_given, D.kP_again, D.kP_results⟩
  have dty : DTy K ⟨dU, dM, dD⟩ CD := ⟨D.base.hn, D.base.ht, ⟨D.kU_cl, D.kU_ob⟩, ⟨D.kM_cl, D.kM_ob⟩, ⟨D.kD_cl, D.kD_ob⟩, D.kU_CD, D.kM_CD, D.kD_CD⟩
  have pty : PTy K cP := ⟨D.base.hn, D.base.ht, D.kP_cl, D.kP_ob, kit_self⟩
  have eu : NX.EqC K dU fEq := ⟨D.kU.cls, D.kU_eq, D.kU_ne, D.f_fEq, D.kU_ob⟩
  have em : NX.EqC K dM fEq := ⟨D.kM.cls, D.kM_eq, D.kM_ne, D.f_fEq, D.kM_ob⟩
  have ed : NX.EqC K dD fEq := ⟨D.kD.cls, D.kD_eq, D.kD_ne, D.f_fEq, D.kD_ob⟩
  have ep : NX.EqC K cP fPE := ⟨D.kP.cls, D.kP_eq, D.kP_ne, D.f_fPE, D.kP_ob⟩
  have gP := PySem.W.mg_of X G D.kP.g
  have kerr : ErrK7 K mg ⟨c0, c10⟩ CS :=
    { gS := PySem.W.mg_of X G D.base.g, gN := PySem.W.mg_of X G D.e0.g, gT := PySem.W.mg_of X G D.e10.g
      n := ⟨D.e0.exm D.base, D.e0.ec D.base, kit_self, D.k0_10, D.e0.ve⟩
      t := ⟨D.e10.exm D.base, D.e10.ec D.base, D.k10_0, kit_self, D.e10.ve⟩
      xn := D.e0.xf, xt := D.e10.xf, vn := D.e0.v, vt := D.e10.v, ve := PySem.W.mg_none_of X G D.n_ValueError }
  refine ⟨fd_fLaw, [(cLaw, pLaw)], spLaw K TT, ?_⟩
  refine ⟨fun p hp => ?_, fun p hp => ?_, fun p hp => ?_, b_L, fun H a ns hl hT hS => ⟨a, ns, rfl, hS, fun p hp => ?_, fun H' => rfl⟩, fun base Xb Gb TBs SB => ?_⟩
  · rw [List.mem_singleton.mp hp]
    exact tbLaw
  · rw [List.mem_singleton.mp hp]
    exact D.l_Law
  · rw [List.mem_singleton.mp hp]
    exact cdLaw
  · rw [hTT] at hp
    rw [List.mem_singleton.mp hp]
    exact TabS.nil (hT (cLaw, pLaw) (by simp))
  have tb_Law : TabB base mg cLaw pLaw := TBs (cLaw, pLaw) (by simp)
  have c_fDraw : C8.Cal l.prog w K mg base 1 "_law_draw" spDraw [] := ⟨_, _, _, _, ok_draw F_fDraw TB, PySem.W.mg_of X G D.g_fDraw, F_fDraw.kp, b_fDraw, .nil⟩
  have c_fPen : C8.Cal l.prog w K mg base 1 "_law_pen" (spPen K) [] := ⟨_, _, _, _, ok_pen F_fPen TB, PySem.W.mg_of X G D.g_fPen, F_fPen.kp, b_fPen, .nil⟩
  have c_fPick : C8.Cal l.prog w K mg base 2 "_law_pick" (spPick K) [] := ⟨_, _, _, _, ok_pick F_fPick TB c_fDraw, PySem.W.mg_of X G D.g_fPick, F_fPick.kp, b_fPick, .nil⟩
  have c_fIs : C8.Cal l.prog w K mg base 1 "is_name" (spIs K) [] := ⟨_, _, _, _, ok_is F_fIs TB TN, PySem.W.mg_of X G D.g_fIs, F_fIs.kp, b_fIs, .nil⟩
  have EN : ErrC l.prog w K mg base "BadName" "value" c0 i0 := ⟨D.e0.O, D.e0.i, D.e0.t, ⟨_, ok_errN F_i0, b_i0⟩, PySem.W.mg_of X G D.e0.g, D.e0.v⟩
  have ED : ErrC l.prog w K mg base "BadDeed" "value" c1 i1 := ⟨D.e1.O, D.e1.i, D.e1.t, ⟨_, ok_errD F_i1, b_i1⟩, PySem.W.mg_of X G D.e1.g, D.e1.v⟩
  have EB : ErrC l.prog w K mg base "BadNumber" "value" c4 i4 := ⟨D.e4.O, D.e4.i, D.e4.t, ⟨_, ok_errB F_i4, b_i4⟩, PySem.W.mg_of X G D.e4.g, D.e4.v⟩
  have ET : ErrC l.prog w K mg base "Twice" "name" c10 i10 := ⟨D.e10.O, D.e10.i, D.e10.t, ⟨_, ok_errT F_i10, b_i10⟩, PySem.W.mg_of X G D.e10.g, D.e10.v⟩
  have EM : ErrC l.prog w K mg base "TooMany" "most" c11 i11 := ⟨D.e11.O, D.e11.i, D.e11.t, ⟨_, ok_errM F_i11, b_i11⟩, PySem.W.mg_of X G D.e11.g, D.e11.v⟩
  have c_fCns : CalL l.prog w K mg base 3 "check_names" (spCns K c0) := ⟨⟨_, _, _, ok_cns F_fCns c_fIs EN, PySem.W.mg_of X G D.g_fCns, F_fCns.kp, b_fCns⟩⟩
  have c_fCun : CalL l.prog w K mg base 3 "check_unlike" (spCun K c10) := ⟨⟨_, _, _, ok_cun F_fCun ET, PySem.W.mg_of X G D.g_fCun, F_fCun.kp, b_fCun⟩⟩
  have c_fCus : CalL l.prog w K mg base 4 "check_used" (spCus K ⟨c0, c10, c11, c1⟩) := ⟨⟨_, _, _, ok_cus (fT := i10) F_fCus TB c_fCun deedC EM ED, PySem.W.mg_of X G D.g_fCus, F_fCus.kp, b_fCus⟩⟩
  have c_fAsc : C8.Cal l.prog w K mg base 1 "ascending" (spAsc K) [] := ⟨_, _, _, _, ok_asc F_fAsc TA, PySem.W.mg_of X G D.g_fAsc, F_fAsc.kp, b_fAsc, .nil⟩
  have cks : Cks l.prog w K mg base ⟨c0, c10, c11, c1⟩ := ⟨c_fCns, c_fCus, c_fAsc⟩
  have OU : FnR l.prog w K mg base (L2N.CX l.prog w) 5 fU (spUse K ⟨c0, c10, c11, c1⟩) := ok_use cks F_fU
  have OD : FnR l.prog w K mg base (L2N.CX l.prog w) 5 fD (spDo K ⟨c0, c10, c11, c1⟩) := ok_do cks F_fD
  have OM : FnOk l.prog w K mg base (L2N.CX l.prog w) 4 fM fd_fM ["self", "name"] (spMake K ⟨c0, c10, c11, c1⟩) := ok_make cks F_fM
  have pN1 : PropOf K dU "names" pNm fNm := ⟨D.kU_nm, D.pNm_g, D.pNm_t, D.pNm_r⟩
  have pN2 : PropOf K dM "names" pNm fNm := ⟨D.kM_nm, D.pNm_g, D.pNm_t, D.pNm_r⟩
  have pN3 : PropOf K dD "names" pNm fNm := ⟨D.kD_nm, D.pNm_g, D.pNm_t, D.pNm_r⟩
  have ONm : FnOk l.prog w K mg base CX0 1 fNm fd_fNm ["self"] (spNames K ⟨dU, dM, dD⟩) := ok_names F_fNm k3
  have c_fNum : C8.Cal l.prog w K mg base 1 "is_number" spNum [] := ⟨_, _, _, _, ok_num F_fNum TB TP, PySem.W.mg_of X G D.g_fNum, F_fNum.kp, b_fNum, .nil⟩
  have c_fCnt : C8.Cal l.prog w K mg base 2 "is_count" spCnt [] := ⟨_, _, _, _, ok_cnt F_fCnt c_fNum, PySem.W.mg_of X G D.g_fCnt, F_fCnt.kp, b_fCnt, .nil⟩
  have c_fPri : C8.Cal l.prog w K mg base 3 "is_price" spPri [] := ⟨_, _, _, _, ok_pri F_fPri TP c_fCnt, PySem.W.mg_of X G D.g_fPri, F_fPri.kp, b_fPri, .nil⟩
  have cA_fNum : C8.Cal l.prog w K mg base 1 "is_number" (spNumA K) [] := ⟨_, _, _, _, ok_numA F_fNum TB TP, PySem.W.mg_of X G D.g_fNum, F_fNum.kp, b_fNum, .nil⟩
  have cA_fCnt : C8.Cal l.prog w K mg base 2 "is_count" (spCntA K) [] := ⟨_, _, _, _, ok_cntA F_fCnt cA_fNum, PySem.W.mg_of X G D.g_fCnt, F_fCnt.kp, b_fCnt, .nil⟩
  have cS_fCns : C8.Cal l.prog w K mg base 2 "check_names" (spCnsS K) [] := ⟨_, _, _, _, ok_cnsS F_fCns c_fIs, PySem.W.mg_of X G D.g_fCns, F_fCns.kp, b_fCns, .nil⟩
  have cS_fCun : C8.Cal l.prog w K mg base 1 "check_unlike" (spCunS K) [] := ⟨_, _, _, _, ok_cunS F_fCun, PySem.W.mg_of X G D.g_fCun, F_fCun.kp, b_fCun, .nil⟩
  have cS_fAsc : C8.Cal l.prog w K mg base 1 "ascending" (spAscM K) [] := ⟨_, _, _, _, ok_ascM F_fAsc TA, PySem.W.mg_of X G D.g_fAsc, F_fAsc.kp, b_fAsc, .nil⟩
  have c_fCp : C8.Cal l.prog w K mg base 1 "check_parts" (spCp K ⟨dU, dM, dD⟩) [] := ⟨_, _, _, _, ok_cp F_fCp, PySem.W.mg_of X G D.g_fCp, F_fCp.kp, b_fCp, .nil⟩
  have c_fCz : C8.Cal l.prog w K mg base 1 "check_sizes" (spCz K ⟨dU, dM, dD⟩) [] := ⟨_, _, _, _, ok_cz F_fCz TB TQ, PySem.W.mg_of X G D.g_fCz, F_fCz.kp, b_fCz, .nil⟩
  have c_fCt : C8.Cal l.prog w K mg base 4 "check_told_names" (spCt K) [] := ⟨_, _, _, _, ok_ct F_fCt TB TA cS_fCns cS_fCun c_fPri, PySem.W.mg_of X G D.g_fCt, F_fCt.kp, b_fCt, .nil⟩
  have cE_fCz : CalL l.prog w K mg base 3 "check_sizes" (spCzE K ⟨dU, dM, dD⟩ c11) := ⟨⟨_, _, _, ok_czE F_fCz TB TQ EM, PySem.W.mg_of X G D.g_fCz, F_fCz.kp, b_fCz⟩⟩
  have c_fAn : C8.Cal l.prog w K mg base 3 "all_names" (spAn K ⟨dU, dM, dD⟩) [] := ⟨_, _, _, _, ok_an F_fAn TB TQ cS_fAsc ONm b_fNm k3 pN1 pN2 pN3, PySem.W.mg_of X G D.g_fAn, F_fAn.kp, b_fAn, .nil⟩
  have c_fCd : C8.Cal l.prog w K mg base 1 "check_deed_partchecks" (spCd K ⟨dU, dM, dD⟩) [] := ⟨_, _, _, _, ok_cd F_fCd k3, PySem.W.mg_of X G D.g_fCd, F_fCd.kp, b_fCd, .nil⟩
  have c_fCv : C8.Cal l.prog w K mg base 2 "check_values" (spCv K ⟨dU, dM, dD⟩) [] := ⟨_, _, _, _, ok_cv F_fCv TB TQ k3 cS_fAsc c_fCd, PySem.W.mg_of X G D.g_fCv, F_fCv.kp, b_fCv, .nil⟩
  have OPi : FnOk l.prog w K mg base CX0 5 fP fd_fP pPi (spPi K ⟨dU, dM, dD⟩) := ok_pi F_fP TB TP TA c_fCp c_fCz c_fCt c_fAn c_fCv
  have OPiE : FnOk l.prog w K mg base (L2N.CX l.prog w) 5 fP fd_fP pPi (spPiE K ⟨dU, dM, dD⟩ c11) := ok_piE F_fP TB TP TA c_fCp cE_fCz c_fCt c_fAn c_fCv
  have q0 : PropOf K cP "ahead" p0 g0 := ⟨D.a_p0, D.p0_g, D.p0_t, D.p0_r⟩
  have q1 : PropOf K cP "loop" p1 g1 := ⟨D.a_p1, D.p1_g, D.p1_t, D.p1_r⟩
  have q2 : PropOf K cP "between" p2 g2 := ⟨D.a_p2, D.p2_g, D.p2_t, D.p2_r⟩
  have q3 : PropOf K cP "second" p3 g3 := ⟨D.a_p3, D.p3_g, D.p3_t, D.p3_r⟩
  have q4 : PropOf K cP "behind" p4 g4 := ⟨D.a_p4, D.p4_g, D.p4_t, D.p4_r⟩
  have q5 : PropOf K cP "given" p5 g5 := ⟨D.a_p5, D.p5_g, D.p5_t, D.p5_r⟩
  have q6 : PropOf K cP "again" p6 g6 := ⟨D.a_p6, D.p6_g, D.p6_t, D.p6_r⟩
  have q7 : PropOf K cP "results" p7 g7 := ⟨D.a_p7, D.p7_g, D.p7_t, D.p7_r⟩
  have q8 : PropOf K cP "names" p8 g8 := ⟨D.a_p8, D.p8_g, D.p8_t, D.p8_r⟩
  have q9 : PropOf K cP "loops" p9 g9 := ⟨D.a_p9, D.p9_g, D.p9_t, D.p9_r⟩
  have q10 : PropOf K cP "room" p10 g10 := ⟨D.a_p10, D.p10_g, D.p10_t, D.p10_r⟩
  have PG : PGet6 l.prog w K mg base ⟨dU, dM, dD⟩ cP :=
    ⟨PC, ⟨⟨p0, g0, _, q0, ok_p0 F_g0 PC, b_g0⟩⟩,
      ⟨⟨p1, g1, _, q1, ok_p1 F_g1 PC, b_g1⟩⟩,
      ⟨⟨p2, g2, _, q2, ok_p2 F_g2 PC, b_g2⟩⟩,
      ⟨⟨p3, g3, _, q3, ok_p3 F_g3 PC, b_g3⟩⟩,
      ⟨⟨p4, g4, _, q4, ok_p4 F_g4 PC, b_g4⟩⟩,
      ⟨⟨p5, g5, _, q5, ok_p5 F_g5 PC, b_g5⟩⟩,
      ⟨⟨p6, g6, _, q6, ok_p6 F_g6 PC TP, b_g6⟩⟩,
      ⟨⟨p7, g7, _, q7, ok_p7 F_g7 PC, b_g7⟩⟩,
      ⟨⟨p8, g8, _, q8, ok_p8 F_g8 PC, b_g8⟩⟩,
      ⟨⟨p9, g9, _, q9, ok_p9 F_g9 PC TB, b_g9⟩⟩⟩
  have MT : PM l.prog w K mg base ⟨dU, dM, dD⟩ cP fP fd_fP t0 t1 t2 t3 t4 := ⟨D.kP.mak, OPi, gP, F_fP, PC, D.s_t1, D.s_t2⟩
  have ME : PME l.prog w K mg base ⟨dU, dM, dD⟩ ⟨c4, c11, c4, c4⟩ cP fP fd_fP t0 t1 t2 t3 t4 := ⟨D.kP.mak, OPiE, gP, F_fP, PC, D.s_t1, D.s_t2⟩
  have c_fRep : CalL l.prog w K mg base 3 "repeated" (spRep K ⟨dU, dM, dD⟩ ⟨c4, c11, c4, c4⟩) := ⟨⟨_, _, _, ok_rep F_fRep TB EM, PySem.W.mg_of X G D.g_fRep, F_fRep.kp, b_fRep⟩⟩
  have OSt : FnOk l.prog w K mg base (L2N.CX l.prog w) 7 fSt fd_fSt ["self", "n", "m"] (spSt K ⟨dU, dM, dD⟩ cP ⟨c4, c11, c4, c4⟩) := ok_st F_fSt PG ME TQ cA_fCnt c_fRep
  have ODE : FnOk l.prog w K mg base CX0 1 fEq fd_fEq ["self", "other"] (spDEq K ⟨dU, dM, dD⟩ CD) := ok_deq F_fEq TB k3 dty (PySem.W.mg_of X G D.gD)
  have OPE : FnOk l.prog w K mg base CX0 5 fPE fd_fPE ["self", "other"] (spPEq K ⟨dU, dM, dD⟩ cP) := ok_peq F_fPE TB PC gP pty ODE eu em ed b_fEq
  have mSt : MetW l.prog w K mg base 7 cP "straight" (spSt K ⟨dU, dM, dD⟩ cP ⟨c4, c11, c4, c4⟩) [.int 0] := ⟨⟨fSt, _, _, dsS, D.kP.cls, ⟨D.a_fSt, D.f_fSt, F_fSt.kp⟩, OSt, bS, vS⟩⟩
  have c_fSome : C8.Cal l.prog w K mg base 2 "_law_some" (spSome K) [] := ⟨_, _, _, _, ok_some F_fSome TB (PySem.W.mg_none_of X G D.n_min) c_fDraw, PySem.W.mg_of X G D.g_fSome, F_fSome.kp, b_fSome, .nil⟩
  have c_fNames : C8.Cal l.prog w K mg base 3 "_law_names" spLNames [] := ⟨_, _, _, _, ok_lnames F_fNames c_fPick c_fSome, PySem.W.mg_of X G D.g_fNames, F_fNames.kp, b_fNames, .nil⟩
  have c_fReal : C8.Cal l.prog w K mg base 7 "_law_real_deed" (spReal K ⟨dU, dM, dD⟩) [] := ⟨_, _, _, _, ok_real F_fReal TB dcs (NN.fnR_less OU) (NN.fnOk_less OM) b_fM (NN.fnR_less OD), PySem.W.mg_of X G D.g_fReal, F_fReal.kp, b_fReal, .nil⟩
  have c_fOr : C8.Cal l.prog w K mg base 1 "_law_order" spOr [] := ⟨_, _, _, _, ok_or F_fOr, PySem.W.mg_of X G D.g_fOr, F_fOr.kp, b_fOr, .nil⟩
  have c_fDs : C8.Cal l.prog w K mg base 3 "_law_deeds" (spDs K) [] := ⟨_, _, _, _, ok_ds F_fDs TB c_fDraw c_fPick c_fSome, PySem.W.mg_of X G D.g_fDs, F_fDs.kp, b_fDs, .nil⟩
  have c_fSi : C8.Cal l.prog w K mg base 4 "_law_site" spSg [] := ⟨_, _, _, _, ok_sg F_fSi TB TP c_fDraw c_fNames c_fDs, PySem.W.mg_of X G D.g_fSi, F_fSi.kp, b_fSi, .nil⟩
  have c_fRp : C8.Cal l.prog w K mg base 8 "_law_real_part" (spRp K ⟨dU, dM, dD⟩) [] := ⟨_, _, _, _, ok_rp F_fRp c_fReal, PySem.W.mg_of X G D.g_fRp, F_fRp.kp, b_fRp, .nil⟩
  have c_fRl : C8.Cal l.prog w K mg base 9 "_law_real" (spRlG K ⟨dU, dM, dD⟩ cP) [] := ⟨_, _, _, _, ok_rlG F_fRl MT c_fOr c_fRp, PySem.W.mg_of X G D.g_fRl, F_fRl.kp, b_fRl, .nil⟩
  have pR1 : PropOf K dU "room" pRm fRm := ⟨D.kU_rm, D.pRm_g, D.pRm_t, D.pRm_r⟩
  have pR2 : PropOf K dM "room" pRm fRm := ⟨D.kM_rm, D.pRm_g, D.pRm_t, D.pRm_r⟩
  have pR3 : PropOf K dD "room" pRm fRm := ⟨D.kD_rm, D.pRm_g, D.pRm_t, D.pRm_r⟩
  have ORm : FnOk l.prog w K mg base CX0 3 fRm fd_fRm ["self"] (spRoom ⟨dU, dM, dD⟩) := ok_room F_fRm TB k3 pN1 pN2 pN3 ONm b_fNm
  have OPrm : FnOk l.prog w K mg base CX0 5 g10 fd_g10 ["self"] (spPrm K ⟨dU, dM, dD⟩ cP) := ok_prm F_g10 TB (PySem.W.mg_none_of X G D.n_max) TQ PC k3 pR1 pR2 pR3 ORm b_fRm
  have c_fRd : C8.Cal l.prog w K mg base 7 "renamed_deed" (spRnd ⟨dU, dM, dD⟩) [] := ⟨_, _, _, _, ok_rd F_fRd k3 dcs (NN.fnR_less OU) (NN.fnOk_less OM) b_fM (NN.fnR_less OD), PySem.W.mg_of X G D.g_fRd, F_fRd.kp, b_fRd, .nil⟩
  have c_fRpt : C8.Cal l.prog w K mg base 8 "renamed_part" (spRpt K ⟨dU, dM, dD⟩) [] := ⟨_, _, _, _, ok_rpt F_fRpt c_fRd, PySem.W.mg_of X G D.g_fRpt, F_fRpt.kp, b_fRpt, .nil⟩
  have c_fCr : CalL l.prog w K mg base 3 "check_renames" (spCr ⟨c0, c10⟩) := ⟨⟨_, _, _, ok_cr F_fCr TB TA ET, PySem.W.mg_of X G D.g_fCr, F_fCr.kp, b_fCr⟩⟩
  have ORn : FnOk l.prog w K mg base (L2N.CX l.prog w) 9 fRn fd_fRn ["self", "names"] (spRnm K ⟨dU, dM, dD⟩ cP ⟨c0, c10⟩) := ok_rnm F_fRn TB TA TQ EN c_fIs c_fCr c_fRpt ME
  have mRn : MetW l.prog w K mg base 9 cP "renamed" (spRnm K ⟨dU, dM, dD⟩ cP ⟨c0, c10⟩) [] := ⟨⟨fRn, _, _, [], D.kP.cls, ⟨D.a_fRn, D.f_fRn, F_fRn.kp⟩, ORn, b_fRn, .nil⟩⟩
  have c_fAl : C8.Cal l.prog w K mg base 2 "_law_all_names" spWoG [] := ⟨_, _, _, _, ok_woG F_fAl TB TA c_fOr, PySem.W.mg_of X G D.g_fAl, F_fAl.kp, b_fAl, .nil⟩
  have c_fLis : C8.Cal l.prog w K mg base 1 "_law_is_name" (spLIs K) [] := ⟨_, _, _, _, ok_lis F_fLis TB, PySem.W.mg_of X G D.g_fLis, F_fLis.kp, b_fLis, .nil⟩
  have c_fDue : C8.Cal l.prog w K mg base 3 "_law_due" (spDue K) [] := ⟨_, _, _, _, ok_due F_fDue TB TA c_fLis c_fAl, PySem.W.mg_of X G D.g_fDue, F_fDue.kp, b_fDue, .nil⟩
  have c_fLed : C8.Cal l.prog w K mg base 3 "_law_led" spLed [] := ⟨_, _, _, _, ok_led F_fLed TB TP c_fOr, PySem.W.mg_of X G D.g_fLed, F_fLed.kp, b_fLed, .nil⟩
  have c_fTab : C8.Cal l.prog w K mg base 3 "_law_table" spTab [] := ⟨_, _, _, _, ok_tab F_fTab TB (PySem.W.mg_none_of X G D.n_zip) c_fAl c_fDraw c_fPick c_fSome, PySem.W.mg_of X G D.g_fTab, F_fTab.kp, b_fTab, .nil⟩
  have XT : LT7 l.prog w K mg base ⟨dU, dM, dD⟩ ⟨c0, c10⟩ ⟨c4, c11, c4, c4⟩ cP CS fPE fHeard p10 g10 fRn fd_fPE fd_fHeard fd_g10 fd_fRn :=
    { T := TB, N := TP, S := SB, E := kerr, FH := F_fHeard, gH := PySem.W.mg_of X G D.g_fHeard, hbH := b_fHeard, rn := mRn, mR := ⟨D.a_fRn, D.f_fRn, F_fRn.kp⟩, FR := ORn, kR := kw_fRn, st := mSt, eq := ep, FEq := OPE, hbE := b_fPE, ty := pty, nf := D.nfP, cl := PC, pr := q10, FP := OPrm, hbP := b_g10
      pen := c_fPen, draw := c_fDraw, si := c_fSi, rl := c_fRl, tb := c_fTab, du := c_fDue, al := c_fAl, ld := c_fLed }
  exact ok_law F_fLaw XT tb_Law hmLaw huLaw
end
end K07
set_option Elab.async false
set_option linter.all false
set_option maxRecDepth 100000
set_option maxHeartbeats 0
namespace K07
open PySem PySem.W PySem.Calls PyProof.Rows NX K07H
theorem headF {h : Heap} {K : HK.Fg} (c : HK.Says K07H.fns K07H.tf K07H.ex h K) : HeadF K (a_CS K) (a_CD K) (a_pNm K) (a_pRm K) (a_c0 K) (a_c1 K) (a_c4 K) (a_c10 K) (a_c11 K) (a_dU K) (a_dM K) (a_dD K) (a_cP K) (a_i0 K) (a_i1 K) (a_i4 K) (a_i10 K) (a_i11 K) (a_fU K) (a_fM K) (a_fD K) (a_fNm K) (a_fRm K) (a_fEq K) (a_g0 K) (a_g1 K) (a_g2 K) (a_g3 K) (a_g4 K) (a_g5 K) (a_g6 K) (a_g7 K) (a_g8 K) (a_g9 K) (a_g10 K) (a_fRn K) (a_fPE K) (a_p0 K) (a_p1 K) (a_p2 K) (a_p3 K) (a_p4 K) (a_p5 K) (a_p6 K) (a_p7 K) (a_p8 K) (a_p9 K) (a_p10 K) (a_fP K) (a_fSt K) (a_tPA K) (a_tLO K) (a_t0 K) (a_t1 K) (a_t2 K) (a_t3 K) (a_t4 K) (a_fIs K) (a_fNum K) (a_fCnt K) (a_fPri K) (a_fCns K) (a_fCun K) (a_fAsc K) (a_fCus K) (a_fCp K) (a_fCz K) (a_fCt K) (a_fAn K) (a_fCv K) (a_fCd K) (a_fRep K) (a_fRd K) (a_fRpt K) (a_fCr K) (a_fPen K) (a_fDraw K) (a_fPick K) (a_fSome K) (a_fNames K) (a_fReal K) (a_fOr K) (a_fDs K) (a_fSi K) (a_fRp K) (a_fRl K) (a_fHeard K) (a_fAl K) (a_fLis K) (a_fDue K) (a_fLed K) (a_fTab K) (a_fLaw K) (a_cLaw K) (a_pLaw K) :=
  ⟨HK.eqV_ok (c.at_ 0),
  HK.eqV_ok (c.at_ 1),
  HK.eqV_ok (c.at_ 2),
  HK.eqV_ok (c.at_ 3),
  HK.eqV_ok (c.at_ 4),
  HK.eqV_ok (c.at_ 5),
  HK.eqV_ok (c.at_ 6),
  HK.eqV_ok (c.at_ 7),
  HK.eqV_ok (c.at_ 8),
  HK.eqV_ok (c.at_ 9),
  HK.eqV_ok (c.at_ 10),
  HK.eqV_ok (c.at_ 11),
  HK.eqV_ok (c.at_ 12),
  HK.eqV_ok (c.at_ 13),
  HK.eqV_ok (c.at_ 14),
  HK.eqV_ok (c.at_ 15),
  HK.eqV_ok (c.at_ 16),
  HK.eqV_ok (c.at_ 17),
  HK.eqV_ok (c.at_ 18),
  HK.strB_ok (c.at_ 19),
  HK.intB_ok (c.at_ 20),
  HK.intB_ok (c.at_ 21),
  HK.intB_ok (c.at_ 22),
  HK.intB_ok (c.at_ 23),
  HK.intB_ok (c.at_ 24),
  HK.eqV_ok (c.at_ 25),
  HK.eqV_ok (c.at_ 26),
  tupS_ok (c.at_ 27),
  tupS_ok (c.at_ 28),
  tupS_ok (c.at_ 29),
  tupS_ok (c.at_ 30),
  HK.baseB_ok (c.at_ 31),
  HK.errB_ok (c.at_ 32),
  HK.errB_ok (c.at_ 33),
  HK.errB_ok (c.at_ 34),
  HK.errB_ok (c.at_ 35),
  HK.errB_ok (c.at_ 36),
  HK.eqB_ok (c.at_ 37),
  HK.eqB_ok (c.at_ 38),
  HK.clsB_ok (c.at_ 39),
  HK.eqV_ok (c.at_ 40),
  HK.eqV_ok (c.at_ 41),
  HK.eqV_ok (c.at_ 42),
  HK.eqV_ok (c.at_ 43),
  HK.eqV_ok (c.at_ 44),
  HK.eqB_ok (c.at_ 45),
  HK.eqV_ok (c.at_ 46),
  HK.eqV_ok (c.at_ 47),
  HK.eqV_ok (c.at_ 48),
  HK.eqB_ok (c.at_ 49),
  HK.clsB_ok (c.at_ 50),
  HK.eqV_ok (c.at_ 51),
  HK.eqV_ok (c.at_ 52),
  HK.eqV_ok (c.at_ 53),
  HK.eqV_ok (c.at_ 54),
  HK.eqV_ok (c.at_ 55),
  HK.eqB_ok (c.at_ 56),
  HK.eqV_ok (c.at_ 57),
  HK.eqV_ok (c.at_ 58),
  HK.eqV_ok (c.at_ 59),
  HK.eqB_ok (c.at_ 60),
  HK.clsB_ok (c.at_ 61),
  HK.eqV_ok (c.at_ 62),
  HK.eqV_ok (c.at_ 63),
  HK.eqV_ok (c.at_ 64),
  HK.eqV_ok (c.at_ 65),
  HK.eqV_ok (c.at_ 66),
  HK.eqB_ok (c.at_ 67),
  HK.eqV_ok (c.at_ 68),
  HK.eqV_ok (c.at_ 69),
  HK.eqV_ok (c.at_ 70),
  HK.eqB_ok (c.at_ 71),
  HK.clsB_ok (c.at_ 72),
  HK.eqV_ok (c.at_ 73),
  HK.eqV_ok (c.at_ 74),
  HK.eqV_ok (c.at_ 75),
  HK.eqV_ok (c.at_ 76),
  HK.eqV_ok (c.at_ 77),
  HK.eqV_ok (c.at_ 78),
  HK.eqV_ok (c.at_ 79),
  HK.eqV_ok (c.at_ 80),
  HK.eqB_ok (c.at_ 81),
  HK.eqV_ok (c.at_ 82),
  HK.eqV_ok (c.at_ 83),
  HK.eqV_ok (c.at_ 84),
  HK.eqV_ok (c.at_ 85),
  HK.eqV_ok (c.at_ 86),
  HK.eqV_ok (c.at_ 87),
  HK.eqV_ok (c.at_ 88),
  HK.eqV_ok (c.at_ 89),
  HK.eqV_ok (c.at_ 90),
  HK.eqV_ok (c.at_ 91),
  HK.eqV_ok (c.at_ 92),
  HK.eqV_ok (c.at_ 93),
  HK.eqB_ok (c.at_ 94),
  HK.recB_ok (c.at_ 95),
  HK.eqV_ok (c.at_ 96),
  HK.eqB_ok (c.at_ 97),
  HK.recB_ok (c.at_ 98),
  HK.eqV_ok (c.at_ 99),
  HK.eqB_ok (c.at_ 100),
  HK.recB_ok (c.at_ 101),
  HK.eqV_ok (c.at_ 102),
  HK.eqB_ok (c.at_ 103),
  HK.recB_ok (c.at_ 104),
  HK.eqV_ok (c.at_ 105),
  HK.eqB_ok (c.at_ 106),
  HK.recB_ok (c.at_ 107),
  HK.eqV_ok (c.at_ 108),
  HK.eqB_ok (c.at_ 109),
  HK.recB_ok (c.at_ 110),
  HK.eqV_ok (c.at_ 111),
  HK.eqB_ok (c.at_ 112),
  HK.recB_ok (c.at_ 113),
  HK.eqV_ok (c.at_ 114),
  HK.eqB_ok (c.at_ 115),
  HK.recB_ok (c.at_ 116),
  HK.eqV_ok (c.at_ 117),
  HK.eqB_ok (c.at_ 118),
  HK.recB_ok (c.at_ 119),
  HK.eqV_ok (c.at_ 120),
  HK.eqB_ok (c.at_ 121),
  HK.recB_ok (c.at_ 122),
  HK.eqV_ok (c.at_ 123),
  HK.eqB_ok (c.at_ 124),
  HK.recB_ok (c.at_ 125),
  HK.eqV_ok (c.at_ 126),
  HK.eqB_ok (c.at_ 127),
  HK.recB_ok (c.at_ 128),
  HK.eqV_ok (c.at_ 129),
  HK.eqB_ok (c.at_ 130),
  HK.recB_ok (c.at_ 131),
  HK.eqV_ok (c.at_ 132),
  c.at_ 133,
  HK.eqV_ok (c.at_ 134),
  c.at_ 135,
  c.at_ 136,
  c.at_ 137,
  c.at_ 138,
  HK.eqV_ok (c.at_ 139),
  HK.rdB_ok (c.at_ 140),
  HK.cvalI_ok (c.at_ 141),
  c.def_ 0,
  c.def_ 1,
  HK.fnF_of (c.def_ 2),
  HK.fnF_of (c.def_ 3),
  HK.fnF_of (c.def_ 4),
  HK.fnF_of (c.def_ 5),
  HK.fnF_of (c.def_ 6),
  HK.fnF_of (c.def_ 7),
  HK.fnF_of (c.def_ 8),
  HK.fnF_of (c.def_ 9),
  HK.fnF_of (c.def_ 10),
  HK.fnF_of (c.def_ 11),
  HK.fnF_of (c.def_ 12),
  HK.fnF_of (c.def_ 13),
  HK.fnF_of (c.def_ 14),
  HK.fnF_of (c.def_ 15),
  HK.fnF_of (c.def_ 16),
  HK.fnF_of (c.def_ 17),
  HK.fnF_of (c.def_ 18),
  HK.fnF_of (c.def_ 19),
  HK.fnF_of (c.def_ 20),
  HK.fnF_of (c.def_ 21),
  HK.fnF_of (c.def_ 22),
  HK.fnF_of (c.def_ 23),
  HK.fnF_of (c.def_ 24),
  HK.fnF_of (c.def_ 25),
  HK.eqV_ok (c.at_ 142),
  HK.fnF_of (c.def_ 26),
  HK.eqV_ok (c.at_ 143),
  HK.fnF_of (c.def_ 27),
  HK.eqV_ok (c.at_ 144),
  HK.fnF_of (c.def_ 28),
  HK.eqV_ok (c.at_ 145),
  HK.fnF_of (c.def_ 29),
  HK.eqV_ok (c.at_ 146),
  HK.fnF_of (c.def_ 30),
  HK.eqV_ok (c.at_ 147),
  HK.fnF_of (c.def_ 31),
  HK.eqV_ok (c.at_ 148),
  HK.fnF_of (c.def_ 32),
  HK.eqV_ok (c.at_ 149),
  HK.fnF_of (c.def_ 33),
  HK.eqV_ok (c.at_ 150),
  HK.fnF_of (c.def_ 34),
  HK.eqV_ok (c.at_ 151),
  HK.fnF_of (c.def_ 35),
  HK.eqV_ok (c.at_ 152),
  HK.fnF_of (c.def_ 36),
  HK.eqV_ok (c.at_ 153),
  HK.fnF_of (c.def_ 37),
  HK.eqV_ok (c.at_ 154),
  HK.fnF_of (c.def_ 38),
  HK.eqV_ok (c.at_ 155),
  HK.fnF_of (c.def_ 39),
  HK.eqV_ok (c.at_ 156),
  HK.fnF_of (c.def_ 40),
  HK.eqV_ok (c.at_ 157),
  HK.fnF_of (c.def_ 41),
  HK.eqV_ok (c.at_ 158),
  HK.fnF_of (c.def_ 42),
  HK.eqV_ok (c.at_ 159),
  HK.fnF_of (c.def_ 43),
  HK.eqV_ok (c.at_ 160),
  HK.fnF_of (c.def_ 44),
  HK.eqV_ok (c.at_ 161),
  HK.fnF_of (c.def_ 45),
  HK.eqV_ok (c.at_ 162),
  HK.fnF_of (c.def_ 46),
  HK.eqV_ok (c.at_ 163),
  HK.fnF_of (c.def_ 47),
  HK.eqV_ok (c.at_ 164),
  HK.fnF_of (c.def_ 48),
  HK.eqV_ok (c.at_ 165),
  HK.fnF_of (c.def_ 49),
  HK.eqV_ok (c.at_ 166),
  HK.fnF_of (c.def_ 50),
  HK.eqV_ok (c.at_ 167),
  HK.fnF_of (c.def_ 51),
  HK.eqV_ok (c.at_ 168),
  HK.fnF_of (c.def_ 52),
  HK.eqV_ok (c.at_ 169),
  HK.fnF_of (c.def_ 53),
  HK.eqV_ok (c.at_ 170),
  HK.fnF_of (c.def_ 54),
  HK.eqV_ok (c.at_ 171),
  HK.fnF_of (c.def_ 55),
  HK.eqV_ok (c.at_ 172),
  HK.fnF_of (c.def_ 56),
  HK.eqV_ok (c.at_ 173),
  HK.fnF_of (c.def_ 57),
  HK.eqV_ok (c.at_ 174),
  HK.fnF_of (c.def_ 58),
  HK.eqV_ok (c.at_ 175),
  HK.fnF_of (c.def_ 59),
  HK.eqV_ok (c.at_ 176),
  HK.fnF_of (c.def_ 60),
  HK.eqV_ok (c.at_ 177),
  HK.fnT_of (c.def_ 61) a_fLaw rfl (c.hd a_fLaw (by simp [K07H.tf])),
  c.out a_fLaw (by simp [K07H.tf])⟩
end K07
open PySem PySem.W PySem.Calls PyProof.Rows
theorem PySem.Challenge.cw_loopstow_k07_programs_renamed_holds : PySem.Challenge.rw_loopstow_k07_programs_renamed.Holds := by
  w_on; o_law
  refine HandSHeadRun.head_any (r := OpenLaw.row PySem.Challenge.rw_loopstow_k07_programs_renamed) (q := view (OpenLaw.row PySem.Challenge.rw_loopstow_k07_programs_renamed).prog [90]) (H := K07H.hk) (ob := K07H.ob) (M := 20000) (loose := K07H.loose) (d := HandSHeadRun.topDef (OpenLaw.row PySem.Challenge.rw_loopstow_k07_programs_renamed).prog 90) (kwd := []) (fun s => HK.obs_eq s)
    (by kernel_rfl) (fun s => by kernel_rfl) K07H.run (by kernel_rfl) (by kernel_rfl) (by kernel_rfl) (by rfl) (by first | assumption | decide +kernel) (by decide +kernel) ⟨rfl, rfl, rfl, rfl, rfl, by decide +kernel⟩ ?hw ?hc
  case hw => w_witness2
  case hc =>
    refine HK.walkGE (l := PySem.Challenge.rw_loopstow_k07_programs_renamed) (n := 63) (k := 14) (x := "_law_script") rfl (by decide) (by kernel_rfl) ⟨rfl, by decide, by decide⟩ (by rfl) ?G
    intro w mg fa h Y G hmg0
    obtain ⟨K, KX, c⟩ := Y
    have hmg : mg ("law" : PySem.Str) = some (.ref fa) := by
      have e : (HandSHeadRun.topDef (OpenLaw.row PySem.Challenge.rw_loopstow_k07_programs_renamed).prog 90).name = ("law" : PySem.Str) := by kernel_rfl
      rw [← e]
      exact hmg0
    exact ⟨K, KX, (K07.headF c).law KX G hmg (c.empty K07H.a_fLaw (by simp [K07H.tf]))⟩
