import PyProof.Rows.All
import Wide.All
import OpenK.AllK
import Wide.FinOn
import HandS.ForMost
import HandS.Exc
import HandS.ExcInit
import HandS.ExcField
import HandS.ExcIs
import HandS.IsInst
import HandS.TryOnly
import KE.KExcIs
import PyProof.ReprRoads
import KE.KUnpackStar
import HandS.OwnEq
import PyProof.InstEq
import HandS.ClsMeth
import HandS.Lambda
import HandS.Codes
import HandS.EndTab
import HandS.StrMore
import HandS.RaiseMore
import HandS.FStr
import HandS.WordsExc
import PySem.Challenge.RW_loopstow_k18_moves
import HandS.StrSplit
set_option Elab.async false
set_option linter.all false
set_option maxRecDepth 100000
set_option maxHeartbeats 4000000
/-! Rules of my own: an error that is caught under a name and kept in a local name behind the suite; what is asked of it there. -/
namespace NX
open PySem PySem.Spec PyProof.Rows L2
/-- the kept error at a: its class, its dict -/
def Kept (a : Addr) (cls : Value) (d : Option Addr) : HO := .ext fun h => ∃ o vs, h.get? a = some o ∧ o.cls = cls ∧ o.dict = d ∧ o.data = .fields vs
theorem kept_ne {a b : Addr} {cls : Value} {d : Option Addr} : Kept a cls d ≠ .own b := fun z => by
  unfold Kept at z
  cases z
theorem kept_ok {P : Program} {w : World} {H : Hp} {h : Heap} {a : Addr} {cls : Value} {d : Option Addr} {o : Obj} {vs : Array Value} (e : h.get? a = some o) (z : Zc cls d o) (f : o.data = .fields vs) : ObjOk P w H h a (Kept a cls d) :=
  ⟨⟨o, vs, e, z.1, z.2, f⟩, ⟨o, e⟩, fun h1 h2 ⟨o1, w1, e1, r1⟩ k => ⟨o1, w1, k _ e1, r1⟩⟩
section
variable {X : Cx} {pins : List (Addr × Obj)} {σ : L2.St} {H : Hp} {s : Shared}
/-- an object that nobody tracks, and that is none of the entry's, is tracked from now on -/
theorem adopt {a : Addr} {cls : Value} {d : Option Addr} {o : Obj} {vs : Array Value} (I : Inv X ((a, o) :: pins) σ H s) (z : Zc cls d o) (f : o.data = .fields vs) (new : X.s_0.heap.get? a = none) (np : ∀ p ∈ X.pn ++ pins, p.1 ≠ a) :
    Inv X pins σ (upd H a (Kept a cls d)) s := by
  obtain ⟨ga, na, nL, nF, nC⟩ := I.pin (a, o) (List.mem_append_right _ List.mem_cons_self)
  have ga : s.heap.get? a = some o := ga
  have na : H a = none := na
  have B := I.base
  have nb : ∀ {b u}, X.s_0.heap.get? b = some u → b ≠ a := fun {b u} e q => by rw [q, new] at e; cases e
  refine ⟨I.ok, I.os, I.bare, ⟨B.keep, B.slot, fun b u e n hx => ?_, B.there, fun b xs e => ?_, fun b u v e => ?_, fun b ps e => ?_⟩, I.loc, I.cell, ?_, fun x c e => ?_, fun p hp => ?_, ?_, I.len⟩
  · rw [upd_ne (nb e)]
    exact B.free b u e n hx
  · have q := B.tups b xs e
    rw [upd_ne (ne_of_none q na)]
    exact q
  · have q := B.frzs b u v e
    rw [upd_ne (ne_of_none q na)]
    exact q
  · obtain ⟨more, q⟩ := B.tbls b ps e
    exact ⟨more, by rw [upd_ne (ne_of_none q na)]; exact q⟩
  · rw [upd_ne (Ne.symm nL)]
    exact I.free
  · obtain ⟨v, oc, e1, e2⟩ := I.cell x c e
    have hne : c ≠ a := fun q => by
      rw [q, ga] at e1
      cases e1
      exact nC _ e2
    rw [upd_ne hne]
    exact I.freeC x c e
  · have hp' : p ∈ X.pn ++ (a, o) :: pins := by
      rcases List.mem_append.mp hp with q | q
      · exact List.mem_append_left _ q
      · exact List.mem_append_right _ (List.mem_cons_of_mem _ q)
    obtain ⟨e1, e2, e3⟩ := I.pin p hp'
    exact ⟨e1, by rw [upd_ne (np p hp)]; exact e2, e3⟩
  · intro b u e
    by_cases hb : b = a
    · rw [hb, upd_same] at e
      cases e
      rw [hb]
      exact kept_ok ga z f
    · rw [upd_ne hb] at e
      exact (I.hok b u e).stay (fun _ _ _ q => q) (fun c q => by rw [upd_ne (ne_of_none q na)]; exact q) fun c xs q => by rw [upd_ne (ne_of_none q na)]; exact q
/-- what «except x as n: suite» wishes of an error of the body, if the error is kept: slot i is n's, the suite's ends see the kept error -/
def wKeep (K : PySem.W.Frag) (c : Value) (i : Nat) (ts : Addr → Value → Option Addr → TS) (Wout : WX) (D : Ends) : WX := fun cls d σ H =>
  ∃ b, PySem.W.exmOne K cls c = some b ∧ (b = false → Wout cls d σ H) ∧
    (b = true → ∀ a, H a = none → ts a cls d ⟨fun σ' H' => D.nx (σ'.set i none) (upd H' a (Kept a cls d)), fun v H' => D.rt v (upd H' a (Kept a cls d)), fun σ' H' => D.bk (σ'.set i none) (upd H' a (Kept a cls d)), fun σ' H' => D.ct (σ'.set i none) (upd H' a (Kept a cls d))⟩ (σ.set i (some (.ref a))) H)
end
section
variable {X : Cx} {x n : Str} {c : Value} {i : Nat} {body suite : List Stmt} {b₀ : Stmt} {np p1 p2 : Pos} {tb : WX → TS} {ts : Addr → Value → Option Addr → TS} {Wout : WX}
theorem ps_try_keep (hs : X.stack = X.env :: X.outer) (hf : X.env.frame = some X.env.locals) (hN : X.N.Nodup) (hi : X.N[i]? = some n) (hln : X.env.kindOf n = some .local) (hex : X.ex = []) (hc : Names X x c) (tk : Takes X Wout)
    (hb : ∀ (W : WX) (pn : List (Addr × Obj)) (xe : Value → Shared → Prop), Takes (X.tr pn xe) W → PassesOwn (model X.prog X.w) X.A X.env xe → PSs (X.tr pn xe) body (tb W))
    (hsu : ∀ (a : Addr) (oe : Obj) (cls : Value) (d : Option Addr) (pn : List (Addr × Obj)), Zc cls d oe → (∃ vs, oe.data = .fields vs) → PSs (X.suite a ((a, oe) :: pn)) (b₀ :: suite) (ts a cls d)) :
    PS X (.Try body [.ExceptHandler (some (.Name x np)) (some n) (b₀ :: suite) p1] [] [] p2) (fun D σ H => tb (wKeep X.K c i ts Wout D) D σ H) := by
  refine ⟨fun pins s σ H D I h => ?_⟩
  have ok := I.ok
  have frames : X.A.frames = some (X.env :: X.outer) := by rw [ok.frames, hs]
  -- the wish of the body: what the clause does with an error
  have caught : ∀ (u : Value) (s' : Shared), XE (X.tr (X.pn ++ pins) (fun e s₁ => wpAny (model X.prog X.w) X.A (noteFrame e X.env) (fun _ s₂ => wpAny (model X.prog X.w) X.A (setFlight e none) (fun _ s₃ =>
      wpAny (model X.prog X.w) X.A (handleBy e X.env [.ExceptHandler (some (.Name x np)) (some n) (b₀ :: suite) p1]) (SP X pins D) X.xe s₃) X.xe s₂) X.xe s₁)) (wKeep X.K c i ts Wout D) u s' →
      wpAny (model X.prog X.w) X.A (noteFrame u X.env) (fun _ s₂ => wpAny (model X.prog X.w) X.A (setFlight u none) (fun _ s₃ =>
        wpAny (model X.prog X.w) X.A (handleBy u X.env [.ExceptHandler (some (.Name x np)) (some n) (b₀ :: suite) p1]) (SP X pins D) X.xe s₃) X.xe s₂) X.xe s' := by
    intro u s' xx
    obtain ⟨a, B, sI, pins', σ', H', cls, d, rfl, J', nb, up, sky, na, os, ag, b, hb1, hno, hyes⟩ := xx
    have J : Inv X pins σ' H' sI := J'.ofTry ok
    have sky' : Sky B (X.env :: X.outer) a (Zc cls d) X.env.locals s'.heap := by rw [← hs]; exact sky
    refine Sky.land Zc.steady frames hf sky' fun h3 fl3 up3 => ?_
    obtain ⟨oe3, vs3, he3, hz3, hd3⟩ := fl3.there
    have Ba : B.get? a = none := fl3.2.1
    have aFr : a ∉ frs (X.env :: X.outer) := fun hm => by
      obtain ⟨_, o', e', hnf⟩ := fl3.2.2.1.mem hm
      rw [he3] at e'
      cases e'
      exact hnf _ hd3
    have aS : a ∉ frs X.stack := by rw [hs]; exact aFr
    have aI : sI.heap.get? a = none := by
      cases e : sI.heap.get? a with
      | none => rfl
      | some o =>
        have q := nb a o e aS
        rw [Ba] at q
        cases q
    have a0 : X.s_0.heap.get? a = none := by
      cases e : X.s_0.heap.get? a with
      | none => rfl
      | some o =>
        obtain ⟨o', q⟩ := J.base.there a o e (by rw [hex]; simp)
        rw [aI] at q
        cases q
    have aL : a ≠ X.env.locals := fun z => aFr (List.mem_filterMap.mpr ⟨X.env, List.mem_cons_self, by rw [hf, z]⟩)
    have aF : a ∉ X.fs := fun hm => by
      obtain ⟨e, he, q⟩ := List.mem_filterMap.mp hm
      exact aFr (List.mem_filterMap.mpr ⟨e, List.mem_cons_of_mem _ he, q⟩)
    have aP : ∀ p ∈ X.pn ++ pins, p.1 ≠ a := fun p hp z => by
      have q := (J.pin p hp).1
      rw [z, aI] at q
      cases q
    have J3 : Inv X pins σ' H' { s' with heap := h3 } := J.landed nb fl3.1 (up.trans up3) os ag
    have S3 := J3.suite he3 hd3 na aL aF
    refine wpAny_handleBy_cons (codeAny_handlers_test ?_) (by intro q; cases q)
    have cl3 : PySem.W.Looks (model X.prog X.w) h3 (typeOf (.ref a)) cls := fun A Q E s k q => wpAny_typeOf_ref (k _ _ he3) (by rw [hz3.1]; exact q)
    have match_ := PySem.W.exm_one (M := model X.prog X.w) J3.kIn cl3 hb1
    have names : ∀ {Q : Value → Shared → Prop} {E : Value → Shared → Prop}, Q c { s' with heap := h3 } → wpAny (model X.prog X.w) (X.A.mark (some (.ref a))) (eval (.Name x np) X.env) Q E { s' with heap := h3 } := fun {Q E} q => by
      obtain ⟨hg, hdb, hm | ⟨hm, hv, hnn⟩⟩ := hc
      · exact ld_glob (X := X.suite a ((a, oe3) :: (X.pn ++ pins))) S3 hg hm q hdb
      · exact ld_blt (X := X.suite a ((a, oe3) :: (X.pn ++ pins))) S3 hg hm hv q hnn hdb
    refine names (match_.here ?_)
    cases b with
    | false =>
      show wpAny _ X.A (handleBy (.ref a) X.env []) _ _ _
      refine wpAny_handleBy_nil ?_
      obtain ⟨_, _, _, oe, vs, T, _, _, he, _, hd, h1, _⟩ := id fl3
      unfold PySem.passOn
      refine wpAny_bind (wpAny_field he hd h1 ?_)
      rw [if_neg (show ¬ ((Value.ref T == Value.none) = true) from by simp)]
      have out : wpAny (model X.prog X.w) X.A (setFlight (.ref a) X.env.frame) (fun _ s4 => wpAny (model X.prog X.w) X.A (throw (.ref a) : Sem Flow) (SP X pins D) X.xe s4) X.xe { s' with heap := h3 } := by
        rw [hf]
        refine HandSPX.setFlight_upZ fl3 fun h4 hh4 up4 => wpAny_throw (tk _ _ ?_)
        exact ⟨a, B, sI, pins, σ', H', cls, d, rfl, J, nb, (up.trans up3).trans up4, .inr (.inr (by rw [hs]; exact hh4)), na, os, ag, hno rfl⟩
      first
        | exact wpAny_bind (wpAny_pure (wpAny_bind out))
        | exact wpAny_bind out
    | true =>
      refine codeAny_handlers_suite_as ?_
      refine HandSPX.lands_againZ fl3 fun h4 fl4 up4 => ?_
      obtain ⟨oe4, vs4, he4, hz4, hd4⟩ := fl4.there
      have J4 : Inv X pins σ' H' { s' with heap := h4 } := J.landed nb fl4.1 ((up.trans up3).trans up4) os ag
      have S4 := J4.suite he4 hd4 na aL aF
      refine store_ok (X := X.suite a ((a, oe4) :: (X.pn ++ pins))) (v := .ref a) S4 hN hi (.inl hln) rfl (fun s5 S5 => ?_) (.inr hln)
      refine wpAny_mono ((hsu a oe4 cls d (X.pn ++ pins) hz4 ⟨_, hd4⟩).run [] s5 _ H' _ S5 (hyes rfl a na)) (fun f s6 hsp => ?_) (fun _ _ z => False.elim z)
      -- behind the suite: the name goes, the error is kept
      have last : ∀ {σ6 : L2.St} {H6 : Hp} {Q : Shared → Prop}, Inv (X.suite a ((a, oe4) :: (X.pn ++ pins))) [] σ6 H6 s6 → (∀ s7, Inv X pins (σ6.set i none) (upd H6 a (Kept a cls d)) s7 → Q s7) →
          wpAny (model X.prog X.w) X.A (do bindName X.env n .none; unbindBehindTheSuite X.env n p1) (fun _ s7 => Q s7) X.xe s6 := fun {σ6 H6 Q} S6 hq => by
        have W6 : Inv X ((a, oe4) :: pins) σ6 H6 s6 := ⟨ok, S6.os, S6.bare, S6.base, S6.loc, S6.cell, S6.free, S6.freeC, fun p hp => S6.pin p (by
          rw [List.append_nil]
          rcases List.mem_append.mp hp with q | q
          · exact List.mem_cons_of_mem _ (List.mem_append_left _ q)
          · rcases List.mem_cons.mp q with q | q
            · rw [q]
              exact List.mem_cons_self
            · exact List.mem_cons_of_mem _ (List.mem_append_right _ q)), S6.hok, S6.len⟩
        exact gone_ok W6 hN hi hln fun s7 J7 => hq s7 (adopt J7 hz4 hd4 a0 aP)
      cases f with
      | next =>
        obtain ⟨σ6, H6, S6, q6⟩ := hsp
        exact last S6 fun s7 J7 => ⟨_, _, J7, q6⟩
      | brk =>
        obtain ⟨σ6, H6, S6, q6⟩ := hsp
        exact last S6 fun s7 J7 => ⟨_, _, J7, q6⟩
      | cont =>
        obtain ⟨σ6, H6, S6, q6⟩ := hsp
        exact last S6 fun s7 J7 => ⟨_, _, J7, q6⟩
      | ret u =>
        obtain ⟨v6, σ6, H6, S6, r6, q6⟩ := hsp
        exact last S6 fun s7 J7 => ⟨_, _, _, J7, r6, q6⟩
  refine wpAny_Try_except (wpAny_mono ((hb _ _ _ (fun u s' xx => caught u s' xx) PassesOwn.looking).run [] s σ H D (I.toTry _) h) (fun f s1 hsp => ?_) (fun e s1 he => he))
  cases f with
  | next =>
    obtain ⟨σ', H', J', q⟩ := hsp
    exact wpAny_execs_nil ⟨σ', H', J'.ofTry ok, q⟩
  | brk =>
    obtain ⟨σ', H', J', q⟩ := hsp
    exact ⟨σ', H', J'.ofTry ok, q⟩
  | cont =>
    obtain ⟨σ', H', J', q⟩ := hsp
    exact ⟨σ', H', J'.ofTry ok, q⟩
  | ret u =>
    obtain ⟨v, σ', H', J', r, q⟩ := hsp
    exact ⟨v, σ', H', J'.ofTry ok, r, q⟩
end
/-- isinstance(e, c) of a kept error -/
def rIsKept (K : PySem.W.Frag) : List V → Hp → VK → Prop := fun xs H Q => ∃ (a D : Addr) (d : Addr) (fs : List (Str × V)) (c : V) (u : Value) (b : Bool), xs = [.ref a, c] ∧ ClsV c u ∧ H a = some (Kept a (.ref D) (some d)) ∧ H d = some (.xd fs) ∧ ExcC K D ∧ PySem.W.kitOne K (.ref D) u = some b ∧ Q (.bl b) H
section
variable {X : Cx} {e : Expr} {te : TE} {pos : Pos} {n : Str} {C : Addr}
theorem inst_kept {pins : List (Addr × Obj)} {σ : L2.St} {H : Hp} {s : Shared} {a D d : Addr} {fs : List (Str × V)} (I : Inv X pins σ H s) (ha : H a = some (Kept a (.ref D) (some d))) (hd : H d = some (.xd fs)) :
    ∃ o od, PySem.W.InstAt s.heap a o D (some od) ∧ s.heap.get? d = some od ∧ ∃ mA, s.heap.Ns1 d mA ∧ (∀ f, RelO (fs.lookup f) (mA f)) := by
  have x : ObjOk X.prog X.w H s.heap a (.ext fun h => ∃ o vs, h.get? a = some o ∧ o.cls = .ref D ∧ o.dict = some d ∧ o.data = .fields vs) := I.hok a _ ha
  obtain ⟨⟨o, vs, e1, e2, e3, e4⟩, _, _⟩ := x
  obtain ⟨mA, hns, hr⟩ := (show ObjOk X.prog X.w H s.heap d (.xd fs) from I.hok d _ hd)
  obtain ⟨od, ho, _⟩ := lookIn_ns hns
  exact ⟨o, od, ⟨e1, e2, by unfold PySem.W.notCls; rw [e4] <;> rfl, by rw [e3]; exact ho⟩, ho, mA, hns, hr⟩
theorem call_isKept : CallR X (.builtin "isinstance") (rIsKept X.K) := by
  intro pins s σ H xs us Q I r h
  obtain ⟨a, D, d, fs, c, u, b, rfl, hc, ha, hd, E, k, q⟩ := h
  obtain ⟨u1, u2, rfl, r1, r2⟩ := vals2 r
  have e2 := hc.eq r2
  subst e2
  obtain rfl : u1 = Value.ref a := r1
  obtain ⟨o, od, J, _⟩ := inst_kept I ha hd
  have hcl : (PySem.W.clsIn X.K D).isSome = true := by
    have z := E.hd
    unfold PySem.W.hasDictIn at z
    cases q : PySem.W.clsIn X.K D with
    | some cd => rfl
    | none => rw [q] at z; cases z
  exact PySem.W.kia_one (PySem.W.kitx_exc hcl E.hg E.hk E.hs E.ha E.hn E.ht E.hm) I.kIn J k (fun z => nomatch z) fun tk => ⟨.bl b, H, I.tok tk, rfl, q⟩
/-- e.n of a kept error -/
def tKept (K : PySem.W.Frag) (n : Str) (te : TE) : TE := fun σ H Q => te σ H fun x H1 => ∃ (a D d : Addr) (fs : List (Str × V)) (v : V), x = .ref a ∧ H1 a = some (Kept a (.ref D) (some d)) ∧ H1 d = some (.xd fs) ∧ XfC K D ∧ PySem.W.findIn K (.ref D) n = some none ∧ fs.lookup n = some v ∧ Q v H1
theorem pe_kept (he : PE X e te) (hb : attributeBase e n X.env (eval e X.env) = eval e X.env := by rfl) : PE X (.Attribute e n pos) (tKept X.K n te) := by
  refine ⟨fun pins s σ H Q I h => attr_of hb (thn (he.run pins s σ H _ I h) fun u s1 ⟨x, H1, I1, rx, a, D, d, fs, v, ex, ha, hd, T, hno, l, q⟩ => ?_)⟩
  subst ex
  obtain rfl : u = Value.ref a := rx
  obtain ⟨o, od, J, ho, mA, hns, hr⟩ := inst_kept I1 ha hd
  obtain ⟨od', ho', hl⟩ := lookIn_ns hns
  rw [ho] at ho'
  cases ho'
  obtain ⟨y, hy, ry⟩ := RelO.some_of (v := v) (o := mA n) (by rw [← l]; exact hr n)
  exact HandSPX.exc_get I1.kIn J T.ga T.gg T.exC (PySem.W.findObj_own T.hdC hno rfl (by rw [hl, hy])) (handed_of ry) ⟨v, H1, I1.tok _, ry, q⟩
end
end NX

set_option Elab.async false
set_option linter.all false
set_option maxRecDepth 100000
set_option maxHeartbeats 4000000
/-! Rules of my own: the text that repr tells of made data, dicts in it too. -/
namespace NX
open PySem PySem.Spec PyProof.Rows L2
def keyD : Key → PyData
  | .inl i => .int i
  | .inr x => .str x
mutual
inductive Dr (K : PySem.W.Frag) (H : Hp) : V → PyData → Prop
  | non : Dr K H .non .none
  | bl (b : Bool) : Dr K H (.bl b) (.bool b)
  | int (i : Int) : Dr K H (.int i) (.int i)
  | str (x : Str) : Dr K H (.str x) (.str x)
  | lst {a : Addr} {xs : List V} {ds : List PyData} : SqL K H a xs → DrAll K H xs ds → Dr K H (.ref a) (.list ds)
  | tup {a : Addr} {xs : List V} {ds : List PyData} : SqT K H a xs → DrAll K H xs ds → Dr K H (.ref a) (.tuple ds)
  | dct {a : Addr} {kvs : List (Key × V)} {ds : List PyData} : H a = some (.dK kvs) → DrAll K H (kvs.map (·.2)) ds → Dr K H (.ref a) (.dict ((kvs.map fun p => keyD p.1).zip ds))
inductive DrAll (K : PySem.W.Frag) (H : Hp) : List V → List PyData → Prop
  | nil : DrAll K H [] []
  | cons {v : V} {vs : List V} {d : PyData} {ds : List PyData} : Dr K H v d → DrAll K H vs ds → DrAll K H (v :: vs) (d :: ds)
end
theorem DrAll.length {K : PySem.W.Frag} {H : Hp} : ∀ {vs : List V} {ds : List PyData}, DrAll K H vs ds → vs.length = ds.length
  | _, _, .nil => rfl
  | _, _, .cons _ t => congrArg (· + 1) t.length
/-- a dict stands at the place of the loaded modules -/
def SysB (h : Heap) : Prop := ∃ (o : Obj) (es : Array DictEntry) (ep : Nat), h.get? sysModules = some o ∧ o.data = .dict es ep
section
variable {X : Cx} {pins : List (Addr × Obj)} {σ : L2.St} {H : Hp} {s : Shared}
theorem key_reads {h : Heap} : ∀ {k : Key} {v : Value}, keyIs k v = true → Reads h v (keyD k) [] := fun {k v} e => by
  rcases keyIs_shape e with ⟨i, t, rfl, rfl⟩ | ⟨x, t, rfl, rfl⟩
  · exact Reads.int i t
  · exact Reads.str x t
theorem keys_read {h : Heap} {P : Program} {w : World} : ∀ {es : List DictEntry} {vs : List (Key × Value)}, Pairs (mixKind P w) es vs → ∃ as, ReadsAll h (es.map (·.key)) (vs.map fun p => keyD p.1) as ∧ as = [] ∧ es.map (·.val) = vs.map (·.2)
  | _, _, .nil => ⟨_, ReadsAll.nil, rfl, rfl⟩
  | _, _, .cons h1 h2 t => by
    obtain ⟨as, q, rfl, e⟩ := keys_read t
    exact ⟨_, ReadsAll.cons (key_reads h1) q, rfl, by rw [List.map_cons, List.map_cons, e, h2]⟩
theorem kv_vals : ∀ {ks : List (Key × V)} {vs : List (Key × Value)}, KV ks vs → Vals (ks.map (·.2)) (vs.map (·.2)) ∧ vs.map (fun p => keyD p.1) = ks.map (fun p => keyD p.1)
  | _, _, .nil => ⟨.nil, rfl⟩
  | _, _, .cons h t => by
    obtain ⟨q, e⟩ := kv_vals t
    exact ⟨.cons h.2 q, by rw [List.map_cons, List.map_cons, e, h.1]⟩
theorem zip_fst {α β : Type} : ∀ {l : List α} {m : List β}, l.length = m.length → (l.zip m).map (·.1) = l
  | [], [], _ => rfl
  | a :: l, b :: m, h => by rw [List.zip_cons_cons, List.map_cons, zip_fst (Nat.succ.inj h)]
theorem zip_snd {α β : Type} : ∀ {l : List α} {m : List β}, l.length = m.length → (l.zip m).map (·.2) = m
  | [], [], _ => rfl
  | a :: l, b :: m, h => by rw [List.zip_cons_cons, List.map_cons, zip_snd (Nat.succ.inj h)]
mutual
theorem Dr.reads (I : Inv X pins σ H s) (S : SysB X.base) : ∀ {v : V} {d : PyData}, Dr X.K H v d → ∀ (u : Value), RelV v u → ∃ as, Reads s.heap u d as ∧ sysModules ∉ as
  | _, _, .non, _, r => by
    cases r
    exact ⟨_, Reads.none, by simp⟩
  | _, _, .bl b, _, r => by
    cases r
    exact ⟨_, Reads.bool b, by simp⟩
  | _, _, .int i, _, r => by
    obtain ⟨t, rfl⟩ := r
    exact ⟨_, Reads.int i t, by simp⟩
  | _, _, .str x, _, r => by
    obtain ⟨t, rfl⟩ := r
    exact ⟨_, Reads.str x t, by simp⟩
  | _, _, .lst hs ha, _, r => by
    cases r
    obtain ⟨its, rv, ⟨o, n, ho, hc, _, hd⟩, _⟩ := I.list hs
    obtain ⟨as, hr, hn⟩ := DrAll.reads I S ha its rv
    refine ⟨_, Reads.list ho hc hd hr, fun hm => ?_⟩
    rcases List.mem_cons.mp hm with e | e
    · obtain ⟨o2, es2, ep2, k2, c2⟩ := S
      have q := (I.bs _ _ k2).1
      rw [e, ho] at q
      have q2 := Option.some.inj q
      rw [← q2, hd] at c2
      cases c2
    · exact hn e
  | _, _, .tup hs ha, _, r => by
    cases r
    obtain ⟨its, rv, ⟨o, ho, hc, n, hd⟩, _⟩ := I.tuple hs
    obtain ⟨as, hr, hn⟩ := DrAll.reads I S ha its rv
    exact ⟨_, Reads.tuple ho hc hd hr, hn⟩
  | _, _, @Dr.dct _ _ a kvs ds hs ha, _, r => by
    cases r
    obtain ⟨_, lo, vs, kv, o, es, ep, ho, hex, hd, _, hp, _⟩ := (show ObjOk X.prog X.w H s.heap a (.dK kvs) from I.hok a _ hs)
    obtain ⟨rv, ek⟩ := kv_vals kv
    obtain ⟨as, hr, hn⟩ := DrAll.reads I S ha _ rv
    obtain ⟨bs, hk, rfl, ev⟩ := keys_read (h := s.heap) hp
    have el : (kvs.map fun p => keyD p.1).length = ds.length := by
      rw [List.length_map, ← ha.length, List.length_map]
    refine ⟨_, Reads.dict ho hex.1 hd (as := []) (bs := as) (by rw [zip_fst el, ← ek]; exact hk) (by rw [zip_snd el, ev]; exact hr), fun hm => ?_⟩
    rcases List.mem_append.mp hm with e | e
    · rcases List.mem_cons.mp e with e | e
      · rw [← e] at lo
        simp at lo
      · simp at e
    · exact hn e
theorem DrAll.reads (I : Inv X pins σ H s) (S : SysB X.base) : ∀ {vs : List V} {ds : List PyData}, DrAll X.K H vs ds → ∀ (us : List Value), Vals vs us → ∃ as, ReadsAll s.heap us ds as ∧ sysModules ∉ as
  | _, _, .nil, _, r => by
    cases r
    exact ⟨_, ReadsAll.nil, by simp⟩
  | _, _, .cons h1 h2, _, r => by
    cases r with
    | cons r1 r2 =>
      obtain ⟨as, q1, n1⟩ := Dr.reads I S h1 _ r1
      obtain ⟨bs, q2, n2⟩ := DrAll.reads I S h2 _ r2
      exact ⟨_, ReadsAll.cons q1 q2, fun hm => (List.mem_append.mp hm).elim n1 n2⟩
end
/-- repr(x), x a list, a tuple or a dict -/
def rRepr (K : PySem.W.Frag) : List V → Hp → VK → Prop := fun xs H Q => ∃ (a : Addr) (d : PyData), xs = [.ref a] ∧ Dr K H (.ref a) d ∧ d.showable = true ∧ d.depth ≤ 50 ∧ d.shown.length ≤ sizeLine ∧ Q (.str d.shown) H
theorem call_repr (hg : X.A.guards = some []) (hu : X.A.units + 64 < cLine) (S : SysB X.base) : CallR X (.builtin "repr") (rRepr X.K) := by
  intro pins s σ H xs us Q I r h
  obtain ⟨a, d, rfl, hd, hs, hdp, hl, q⟩ := h
  cases r with
  | cons r1 r2 =>
    cases r2
    cases r1
    obtain ⟨as, hr, hn⟩ := Dr.reads I S hd _ rfl
    refine PySem.repr_of_reads' hr hs (fun _ => hn) hg (by omega) (fun _ _ e => e) (fun h' u tk k => ?_) hl
    exact ⟨.str d.shown, H, I.kept k, ⟨u, rfl⟩, q⟩
end
end NX

set_option Elab.async false
set_option linter.all false
set_option maxRecDepth 100000
set_option maxHeartbeats 4000000
/-! A rule of my own: «a, *b = xs», xs a list. -/
namespace NX
open PySem PySem.Spec PyProof.Rows L2
def gStar (K : PySem.W.Frag) (t : TGs) : TG := fun v σ H Q => ∃ (a : Addr) (x : V) (rest : List V), v = .ref a ∧ SqL K H a (x :: rest) ∧ rest.length < 16384 ∧ ∀ D, H D = none → t [x, .ref D] σ (upd H D (.lst rest)) Q
section
variable {X : Cx} {e1 e2 : Expr} {k : Nat} {pos sp : Pos} {t : TGs}
theorem pg_star (hc : X.calm = true) (h : PGs X [e1, e2] t) (hm : (assignEach [e1, .Starred e2 sp] X.env).map (·.2) = (assignEach [e1, e2] X.env).map (·.2) := by rfl) (hl : (assignEach [e1, .Starred e2 sp] X.env).length = 2 := by rfl)
    (hi : (assignEach [e1, .Starred e2 sp] X.env).findIdx? (·.1) = some 1 := by rfl) : PG X (.Tuple [e1, .Starred e2 sp] k pos) (gStar X.K t) := by
  refine ⟨fun pins s σ H v u Q I r hw => ?_⟩
  obtain ⟨a, x, rest, rfl, hq, hz, hw⟩ := hw
  cases r
  obtain ⟨its, rv, pl, _⟩ := I.list hq
  cases rv with
  | @cons _ u1 _ us ra rr =>
    have hlen : rest.length = us.length := Paired.length rr
    have ll := pl.isList
    have hlt : a ≠ s.heap.objs.size := by
      obtain ⟨o, ho, _⟩ := id ll
      exact Nat.ne_of_lt (Heap.lt_size ho)
    rw [PyProof.Rows.assign_Tuple]
    refine wpAny_bind (wpAny_standAt ?_)
    unfold unpack
    rw [hl, hi, hm]
    -- one is drawn, the others are collected, a new list is made of them
    have items : ∀ {R : List Value → Shared → Prop}, (∀ (h2 : Heap) tk, (∀ b o, s.heap.get? b = some o → h2.get? b = some o) → R [u1, .ref h2.objs.size] { s with heap := h2.push { cls := .type "list", data := .seq us.toArray }, toks := tk }) →
        wpAny (model X.prog X.w) X.A (unpackItems (.ref a) 2 (some 1)) R X.xe s := fun {R} hR => by
      unfold unpackItems
      refine wpAny_bind ?_
      unfold notIterableAtAll
      refine wpAny_bind (wpAny_specialOf ll.typeIs slot_list_iter.lookup (wpAny_pure ?_))
      simp only [Bool.false_eq_true, if_false]
      refine wpAny_bind (wpAny_holding (wpAny_pyIter_list ll ?_))
      refine wpAny_bind (wpAny_holding (PySem.W.kun_draw hlt 1 0 _ _ ⟨_, Heap.get?_push_size _ rfl, rfl, rfl⟩ (ll.push _) (by simp) fun h1 it1 sb1 => ?_))
      have l1 : h1.IsList a (u1 :: us).toArray := (ll.push _).extBut sb1.extBut hlt
      obtain ⟨oi, hoi, _⟩ := id it1
      obtain ⟨ol, hol, _⟩ := id l1
      have k1 : ∀ b o, s.heap.get? b = some o → h1.get? b = some o := fun b o e => sb1.extBut b o (Nat.ne_of_lt (Heap.lt_size e)) (Heap.get?_push_of_some _ e)
      show wpAny _ _ (if [u1].length < 1 then _ else _) _ _ _
      rw [if_neg (by simp)]
      refine wpAny_bind (wpAny_holding (PySem.W.kun_collect (s := { s with heap := h1 }) (T := "list_iterator") (.inr (.inr (.inl rfl))) (Walks.list (A := X.A.in1) (I.ok.hd hc) s.heap.objs.size a hlt (u1 :: us).toArray) (fun j u st => st.1.typeIs) (k := 1) (by simp) ⟨it1, l1⟩ (Heap.lt_size hoi) (Heap.lt_size hol) (fun h2 tk k2 => ?_) (by rw [sizeLine_eq]; simp; omega)))
      have e0 : (u1 :: us).toArray.toList.drop 1 = us := by simp
      rw [e0]
      show wpAny _ _ (if us.length < 2 - 1 - 1 then _ else _) _ _ _
      rw [if_neg (by omega)]
      have e1 : us.take (us.length - (2 - 1 - 1)) = us := by simp
      have e2 : us.drop (us.length - (2 - 1 - 1)) = [] := by simp
      have K2 : ∀ b o, s.heap.get? b = some o → h2.get? b = some o := fun b o e => k2 b o (Nat.ne_of_lt (Heap.lt_size e)) (k1 b o e)
      refine wpAny_bind (wpAny_newList (s := { s with heap := h2, toks := tk }) (wpAny_pure ?_) (by rw [e1, sizeLine_eq]; omega))
      have q := hR h2 tk K2
      rw [e1, e2]
      exact q
    refine wpAny_bind (wpAny_holding (items fun h2 tk kp => ?_))
    have I2 : Inv X pins σ H { s with heap := h2, toks := tk } := I.kept kp
    have hn : H h2.objs.size = none := I2.hok.fresh (Nat.le_refl _)
    have J : Inv X pins σ (upd H h2.objs.size (.lst rest)) { s with heap := h2.push { cls := .type "list", data := .seq us.toArray }, toks := tk } :=
      I2.laid (t' := tk) (h' := h2.push { cls := .type "list", data := .seq us.toArray }) (fun b o e => Heap.get?_push_of_some _ e) (Nat.le_refl _) ⟨by rw [sizeLine_eq]; omega, us, 0, rr, Heap.get?_push_size _ rfl⟩
    exact h.run pins _ σ _ [x, .ref h2.objs.size] [u1, .ref h2.objs.size] Q J (.cons ra (.cons rfl .nil)) (hw _ hn)
end
end NX

set_option Elab.async false
set_option linter.all false
set_option maxRecDepth 100000
set_option maxHeartbeats 4000000
/-! Rules of my own: == and != of an object whose class has an own equality; any answer, any other side. -/
namespace NX
open PySem PySem.Spec PyProof.Rows L2
/-- what the class at C says of == and != -/
structure EqC (K : PySem.W.Frag) (C f : Addr) : Prop where
  cl : Cls K C
  eq : PySem.W.findIn K (.ref C) "__eq__" = some (some (.ref f))
  ne : PySem.W.findIn K (.ref C) "__ne__" = some (some (.builtin "object.__ne__"))
  fn : PySem.W.isFn K (.ref f) = true
  ob : PySem.W.mroIn K C (.type "object") = some true
section
variable {X : Cx} {n : Nat} {f : Addr} {fd : FuncData} {ps : List Str} {sp : Sp} {CX : CXT} {E : XK}
/-- the own equality is called by the machine -/
theorem run_own (F : FnOk X.prog X.w X.K X.mg X.base CX n f fd ps sp) (hb : Binds X.K fd ps []) (hx : Passes CX X E) {A : Around} {pins : List (Addr × Obj)} {σ : L2.St} {H : Hp} {s : Shared} {x y : V} {u v : Value} {Q : VK}
    (sb : Sub X n A) (I : Inv X pins σ H s) (rx : RelV x u) (ry : RelV y v) (q : sp [x, y] H Q E) : wpAny (model X.prog X.w) A (call (.ref f) [u, v]) (EP X pins σ Q) X.xe s := by
  have e := I.env0
  have e0 : Env0 X.prog X.w X.K X.mg X.base A X.stack s H := ⟨by rw [sb.fr]; exact e.frames, e.mod, e.bs, e.bsz, e.funs, e.frf, e.hok, e.bare⟩
  have hl : [u, v].length = ps.length := (F.len _ _ _ _ q)
  have r2 : Vals [x, y] [u, v] := .cons rx (.cons ry .nil)
  refine wpAny_call (codeAny_mono (F.run A X.stack s H ⟨[u, v], []⟩ [u, v] [x, y] Q E sb.room e0 (by
    have z := hb s [u, v] I.kIn (by simpa using hl)
    simpa using z) r2 q) fun r s' hq => ?_)
  cases r with
  | error er => exact hx pins σ H s er s' I hq
  | ok fl =>
    cases fl with
    | ret w => exact I.after hq
    | next => exact False.elim hq
    | brk => exact False.elim hq
    | cont => exact False.elim hq
def rOwn (K : PySem.W.Frag) (f : Addr) (sp : Sp) (E : XK) (neg : Bool) : R2 := fun x y H Q => ∃ (a C dx : Addr) (fs : List (Str × V)) (tb : Value), x = .ref a ∧ H a = some (.ins C dx fs) ∧ EqC K C f ∧ PySem.W.notFirst K C tb = true ∧ TyX K H y tb ∧
  sp [x, y] H (fun v H' => ∃ b, v = .bl b ∧ Q (.bl (if neg then !b else b)) H') E
theorem op_eqOwn (F : FnOk X.prog X.w X.K X.mg X.base CX n f fd ps sp) (hb : Binds X.K fd ps []) (hx : Passes CX X E) (hr : Room n X.A) : OpR X (compareOp .Eq) (rOwn X.K f sp E false) := by
  intro pins s σ H x y u v Q I rx ry h
  obtain ⟨a, C, dx, fs, tb, rfl, ha, T, nf, ty, q⟩ := h
  obtain rfl : u = Value.ref a := rx
  obtain ⟨mA, O, _⟩ := ins_get I.hok ha
  obtain ⟨od, J, _⟩ := O.look
  obtain ⟨m, fr⟩ := I.fr
  obtain ⟨P, Z, p, _⟩ := kit_of I ry ty
  show wpAny (model X.prog X.w) X.A (richCompare .Eq (.ref a) v) (EP X pins σ Q) X.xe s
  refine PySem.W.cmp_K (op := .Eq) (tb := tb) hr.units0 fr I.ok.mod.kin J (Z.ty _ _ I.kIn p) nf T.eq T.fn ?_
  refine wpAny_mono (run_own (x := .ref a) F hb hx ⟨hr, rfl⟩ I rfl ry q) (fun r s' hq => ?_) fun _ _ z => z
  obtain ⟨w, H', I', rw', b, rfl, q'⟩ := hq
  obtain rfl : r = Value.bool b := rw'
  exact ⟨.bl b, H', I', rfl, q'⟩
end
end NX
namespace NX
open PySem PySem.W PyProof.Rows Builtin
section
variable {prog : Program} {w : World} {A : Around} {E : Value → Shared → Prop} {s : Shared} {K : Frag} {x C f : Addr} {ox : Obj} {od : Option Obj} {b tb : Value}
/-- object.__ne__ found by the class is bound and called -/
theorem bound_ne {M : Model} {args : List Value} {Q : Option Value → Shared → Prop} (X : K.In s.heap) (I : InstAt s.heap x ox C od) (hs : findIn K (.ref C) "__ne__" = some (some (.builtin "object.__ne__")))
    (h : wpAny M A (call (.builtin "object.__ne__") (.ref x :: args)) (fun v => Q (some v)) E s) : wpAny M A (callSpecialIfBound? (.ref x) "__ne__" args) Q E s := by
  simp only [callSpecialIfBound?, bindSpecialIfBound?]
  refine wpAny_holding (wpAny_bind (wpAny_bind (wpAny_bind (I.type.here ((looks_findIn X hs).here ?_)))))
  simp only [F.cmp_object.ne.bind]
  have last : wpAny M A (call (.builtin "object.__ne__") ([.ref x] ++ args) >>= fun v => pure (some v)) Q E s := wpAny_bind (wpAny_mono h (fun v s' q => wpAny_pure q) fun _ _ q => q)
  refine wpAny_bind (wpAny_askSetting (wpAny_ite ?_))
  split
  · exact wpAny_bind (wpAny_pure (wpAny_pure last))
  · exact wpAny_tryCatch (wpAny_bind (wpAny_pure (wpAny_pure last)))
/-- .. and asks the own equality, whose answer it turns -/
theorem call_ne {Q : Value → Shared → Prop} (hu : A.units + 1 < cLine) (X : K.In s.heap) (I : InstAt s.heap x ox C od) (he : findIn K (.ref C) "__eq__" = some (some (.ref f))) (hf : isFn K (.ref f) = true) (ho : mroIn K C (.type "object") = some true)
    (h : wpAny (model prog w) A.in1 (call (.ref f) [.ref x, b]) (fun v s' => ∃ k, v = .bool k ∧ Q (.bool (!k)) s') E s) : wpAny (model prog w) A (call (.builtin "object.__ne__") [.ref x, b]) Q E s := by
  obtain ⟨hp, g, d, t, os⟩ := s
  have sub : Looks (model prog w) hp (isInstance (.ref x) (.type "object")) true := I.type.andThen (looks_mroIn X ho)
  refine wpAny_call (codeAny_call_builtin F.cmp_object.ne.plain F.cmpEntry_ne (@check_slot (model prog w) _ _ ⟨hp, g, d, t, os⟩ "object.__ne__" "object" "__ne__" (.ref x) [b] [] _ F.cmpKind_ne F.cmpSplit_ne sub (F.cmpArgs_ne _ _) ?_))
  unfold Builtin.«object.__ne__»
  repeat (first
    | with_reducible refine wpAny_cRoomFor (show A.in1.units < cLine from hu) ?_
    | (refine wpAny_bind (m := callSpecialIfBound? (.ref x) (Str.ofString "__eq__") [b]) (ifBound_K X I he hf (wpAny_mono h (fun r s' hr => ?_) fun _ _ e => e)))
    | wp_step)
  obtain ⟨k, rfl, q⟩ := hr
  exact wpAny_bind (wpAny_truthy_bool (wpAny_pure q))
/-- x != b -/
theorem rich_ne {Q : Value → Shared → Prop} (hu : A.units + 1 < cLine) (X : K.In s.heap) (I : InstAt s.heap x ox C od) (hb : Looks (model prog w) s.heap (typeOf b) tb) (hn : notFirst K C tb = true) (hs : findIn K (.ref C) "__ne__" = some (some (.builtin "object.__ne__")))
    (he : findIn K (.ref C) "__eq__" = some (some (.ref f))) (hf : isFn K (.ref f) = true) (ho : mroIn K C (.type "object") = some true)
    (h : wpAny (model prog w) A.in1 (call (.ref f) [.ref x, b]) (fun v s' => ∃ k, v = .bool k ∧ Q (.bool (!k)) s') E s) : wpAny (model prog w) A (richCompare .NotEq (.ref x) b) Q E s := by
  have one : wpAny (model prog w) A (tryCompare (.ref x) "__ne__" b) (fun r s' => ∃ k, r = some (.bool k) ∧ Q (.bool k) s') E s := by
    unfold tryCompare
    refine wpAny_bind (bound_ne X I hs (call_ne (Q := fun v s' => ∃ k, v = .bool k ∧ Q (.bool k) s') hu X I he hf ho (wpAny_mono h (fun v s' ⟨k, e, q⟩ => ⟨k, e, _, rfl, q⟩) fun _ _ e => e) |> fun z => wpAny_mono z (fun v s' ⟨k, e, q⟩ => ?_) fun _ _ e => e))
    subst e
    exact wpAny_pure ⟨k, rfl, q⟩
  unfold richCompare
  simp only [oneThing_ref]
  refine wpAny_holding (wpAny_bind (wpAny_cRoomFor (Nat.lt_of_succ_lt hu) ?_))
  rw [cmpInfo_NotEq]
  dsimp only
  refine wpAny_bind (I.type.here (wpAny_bind (hb.here ?_)))
  split
  · rename_i q
    have e : subIn K tb (.ref C) = some false := by
      rcases Bool.or_eq_true_iff.mp hn with e | e
      · rw [beq_iff_eq.mp e] at q
        simp at q
      · exact beq_iff_eq.mp e
    refine wpAny_bind ((looks_subIn X e).here ?_)
    simp only [Bool.false_eq_true, if_false]
    refine wpAny_bind (wpAny_mono one (fun r s' ⟨k, z, hq⟩ => ?_) fun _ _ e => e)
    subst z
    exact wpAny_pure hq
  · refine wpAny_bind (wpAny_pure ?_)
    simp only [Bool.false_eq_true, if_false]
    refine wpAny_bind (wpAny_mono one (fun r s' ⟨k, z, hq⟩ => ?_) fun _ _ e => e)
    subst z
    exact wpAny_pure hq
end
end NX
namespace NX
open PySem PySem.Spec PyProof.Rows L2
section
variable {X : Cx} {n : Nat} {f : Addr} {fd : FuncData} {ps : List Str} {sp : Sp} {CX : CXT} {E : XK}
theorem op_neOwn (F : FnOk X.prog X.w X.K X.mg X.base CX n f fd ps sp) (hb : Binds X.K fd ps []) (hx : Passes CX X E) (hr : Room (n + 1) X.A) : OpR X (compareOp .NotEq) (rOwn X.K f sp E true) := by
  intro pins s σ H x y u v Q I rx ry h
  obtain ⟨a, C, dx, fs, tb, rfl, ha, T, nf, ty, q⟩ := h
  obtain rfl : u = Value.ref a := rx
  obtain ⟨mA, O, _⟩ := ins_get I.hok ha
  obtain ⟨od, J, _⟩ := O.look
  obtain ⟨P, Z, p, _⟩ := kit_of I ry ty
  show wpAny (model X.prog X.w) X.A (richCompare .NotEq (.ref a) v) (EP X pins σ Q) X.xe s
  refine rich_ne (hu_of hr) I.kIn J (Z.ty _ _ I.kIn p) nf T.ne T.eq T.fn T.ob (wpAny_mono (run_own (x := .ref a) F hb hx ⟨hr.in1, rfl⟩ I rfl ry q) (fun r s' hq => ?_) fun _ _ z => z)
  obtain ⟨w, H', I', rw', b, rfl, q'⟩ := hq
  obtain rfl : r = Value.bool b := rw'
  exact ⟨b, rfl, .bl (!b), H', I', rfl, q'⟩
end
end NX

set_option Elab.async false
set_option linter.all false
set_option maxRecDepth 100000
set_option maxHeartbeats 4000000
/-! A rule of my own: C.m(k=e, ..), m a classmethod, by keywords alone. -/
namespace NX
open PySem PySem.Spec PyProof.Rows L2
section
variable {X : Cx} {CX : CXT} {k : Nat} {C p g : Addr} {mc : Value} {sp : Sp} {E : XK} {o : Expr} {kws : List Keyword} {m : Str} {pos apos : Pos} {ta : TE} {t : TA} {pl : Sem Bool} {fd : FuncData} {ps ks : List Str}
theorem pe_cmethK (he : PE X o ta) (r : ClX.CRead X.K C mc) (c : ClX.CMet X.K C mc m p g) (F : FnOk X.prog X.w X.K X.mg X.base CX k g fd ps sp) (hb : ∀ (s : Shared) (us : List Value), us.length + 1 = ps.length → BindsTo s fd ⟨[.ref C], ks.zip us⟩ (ps.zip (.ref C :: us)))
    (hr : Room k X.A) (hx : Passes CX X E) (ha : PK X kws t) (hall : (backToKw pos (keywordEach kws X.env)).all (·.1.isSome) = true := by rfl) (hks : (backToKw pos (keywordEach kws X.env)).filterMap (·.1) = ks := by rfl)
    (hpl : ((backTo pos (starEach [] X.env)).any (·.1) || (backToKw pos (keywordEach kws X.env)).any (·.1.isNone)) = false := by rfl)
    (ht : eval (.Call (.Attribute o m apos) [] kws pos) X.env = (do
      let ov ← eval o X.env
      standAt apos.atName
      let (f, first) ← holding [ov] (getMethod ov m pl)
      callWith pos f first (backTo pos (starEach [] X.env)) (backToKw pos (keywordEach kws X.env))) := by rfl) :
    PE X (.Call (.Attribute o m apos) [] kws pos) (ClX.tCMeth C sp E ta t) := by
  refine ⟨fun pins s σ H Q I h => PySem.W.methodCall_KW (pl := pl) (thn (he.run pins s σ H _ I h) fun u s1 ⟨x, H1, I1, rx, ex, q⟩ => ?_) ht⟩
  subst ex
  obtain rfl : u = Value.ref C := rx
  refine ClX.getmethcm_ok I1 r c fun s2 I2 => ?_
  refine PySem.W.callWith_of hpl (PySem.W.keeps_M (K := X.K) (self := .ref C) c.fi) (PyProof.Rows.evalArgs_kw2_nil hall (thn (ha.run pos _ s2 σ H1 _ I2 q) fun us s3 ⟨vs, H2, I3, rv, q2⟩ => ⟨⟨ClX.pin_at I3, I3.kIn⟩, ?_⟩))
  rw [hks]
  have r2 : Vals (V.ref C :: vs) (Value.ref C :: us) := .cons rfl rv
  have hl : us.length + 1 = ps.length := by
    have z := F.len _ _ _ _ q2
    rw [← z, r2.length]
    rfl
  have z : wpAny (model X.prog X.w) X.A (call (.ref s1.heap.objs.size) ([] ++ []) (ks.zip us)) (EP X ((s1.heap.objs.size, PySem.W.methodObj (.ref g) (.ref C)) :: pins) σ Q) X.xe s3 := by
    refine wpAny_call (PySem.W.method_call (ClX.pin_at I3) (codeAny_mono (F.run X.A X.stack s3 H2 ⟨[.ref C], ks.zip us⟩ (.ref C :: us) (.ref C :: vs) Q E hr I3.env0 (hb s3 us hl) r2 q2) fun r s' hq => ?_))
    cases r with
    | error er => exact hx _ σ H2 s3 er s' I3 hq
    | ok fl =>
      cases fl with
      | ret w => exact I3.after hq
      | next => exact False.elim hq
      | brk => exact False.elim hq
      | cont => exact False.elim hq
  exact thn z fun _ _ y => ClX.unpinE y
end
end NX

set_option Elab.async false
set_option linter.all false
set_option maxRecDepth 100000
set_option maxHeartbeats 4000000
/-! A def's promise where no repr is under way, and the call of such a def. -/
namespace NX
open PySem PySem.Spec PyProof.Rows L2
structure FnG (P : Program) (w : World) (K : PySem.W.Frag) (mg : Str → Option Value) (base : Heap) (k : Nat) (f : Addr) (fd : FuncData) (ps : List Str) (sp : Sp) : Prop where
  len : ∀ vs H Q E, sp vs H Q E → vs.length = ps.length
  run : ∀ (A : Around) (st : List Env) (s : Shared) (H : Hp) (args : Args) (us : List Value) (vs : List V) (Q : VK), A.guards = some [] → Room k A → Env0 P w K mg base A st s H → BindsTo s fd args (ps.zip us) → Vals vs us → sp vs H Q C8.E0 →
    codeAny (model P w) A (.call (.ref f) args) (CR C8.CX0 st P w H s Q C8.E0) s
section
variable {X : Cx} {k j : Nat} {f : Addr} {fd : FuncData} {ps : List Str} {sp : Sp} {x : Str} {p pos : Pos} {e : Expr} {es : List Expr} {t : TA}
theorem pe_callG (F : FnG X.prog X.w X.K X.mg X.base k f fd ps sp) (gd : X.A.guards = some []) (hr : Room j X.A) (hj : k ≤ j) (hg : Gl X x) (hm : X.mg x = some (.ref f)) (hk : PySem.W.keepIn X.K (.ref f) = true) (hb : Binds X.K fd ps []) (ha : PA X (e :: es) t)
    (hd : (x == ("__debug__" : Str)) = false := by decide) (he : starEach (e :: es) X.env = (false, eval e X.env) :: starEach es X.env := by rfl) (hpl : (backTo pos (starEach es X.env)).any (·.1) = false := by rfl) :
    PE X (.Call (.Name x p) (e :: es) [] pos) (tCall sp [] C8.E0 t) := by
  refine ⟨fun pins s σ H Q I h => wpAny_Call_Name_kw (ld_glob I hg hm ?_ hd)⟩
  refine PySem.W.callWith_K (h₀ := X.base) I.ok.mod.kin hk (thn (ha.run pos pins s σ H _ I h) fun us s1 ⟨vs, H1, I1, rv, q⟩ => ⟨I1.kIn, ?_⟩) he hpl
  have q : sp vs H1 Q C8.E0 := by simpa using q
  have hl : us.length = ps.length := by rw [← F.len _ _ _ _ q, rv.length]
  have bt := hb s1 us I1.kIn (by simpa using hl)
  refine wpAny_call (codeAny_mono (F.run X.A X.stack s1 H1 ⟨us, []⟩ us vs Q gd (hr.mono hj) I1.env0 (by simpa using bt) rv q) fun r s' hq => ?_)
  cases r with
  | error er => exact False.elim (show False from hq)
  | ok fl =>
    cases fl with
    | ret w => exact I1.after hq
    | next => exact False.elim hq
    | brk => exact False.elim hq
    | cont => exact False.elim hq
end
end NX

set_option Elab.async false
set_option linter.all false
set_option maxRecDepth 100000
set_option maxHeartbeats 4000000
/-! The end of a row whose law wants an empty guard (FnG), in my own words. -/
namespace NX
open PySem PySem.Spec PyProof.Rows L2 LamX
section
variable {P : Program} {w : World} {K : PySem.W.Frag} {mg mb : Str → Option Value} {k : Nat} {fa a : Addr} {cs : List (Addr × Addr)} {fd : FuncData} {x : Str} {sp : Sp} {z : Shared} {vs : List Value} {ns : List Int}
/-- what is tracked at first: the empty tables, and the script where it is not written -/
def trackd (K : PySem.W.Frag) (cs : List (Addr × Addr)) (a : Addr) (vs : List Value) (ns : List Int) : Hp := fun b =>
  if b ∈ cs.map (·.2) then some (.tbl #[]) else if b = a ∧ K.lookup a = none then some (.frz { cls := .type "list", data := .seq vs.toArray } (.lst (ns.map V.int))) else none
/-- the heap of the call, as the tracked one sees it -/
structure Start (P : Program) (w : World) (K : PySem.W.Frag) (cs : List (Addr × Addr)) (a : Addr) (vs : List Value) (ns : List Int) (z : Shared) : Prop where
  KX : K.In z.heap
  hT : ∀ p ∈ cs, z.heap.get? p.2 = some { cls := .none, data := .fields #[] }
  nT : ∀ p ∈ cs, K.lookup p.2 = none
  ha : z.heap.get? a = some { cls := .type "list", data := .seq vs.toArray }
  hi : IntsAre vs ns
  hl : ns.length ≤ sizeLine
theorem Start.tab (S : Start P w K cs a vs ns z) {b : Addr} (h : b ∈ cs.map (·.2)) : z.heap.get? b = some { cls := .none, data := .fields #[] } ∧ K.lookup b = none := by
  obtain ⟨p, hp, rfl⟩ := List.mem_map.mp h
  exact ⟨S.hT p hp, S.nT p hp⟩
theorem Start.ne (S : Start P w K cs a vs ns z) : a ∉ cs.map (·.2) := fun h => by
  have q := (S.tab h).1
  rw [S.ha] at q
  injection q with q
  injection q with q1 q2 q3
  cases q3
theorem Start.at_tab (S : Start P w K cs a vs ns z) : ∀ p ∈ cs, trackd K cs a vs ns p.2 = some (.tbl #[]) := fun p hp => if_pos (List.mem_map.mpr ⟨p, hp, rfl⟩)
theorem Start.sq (S : Start P w K cs a vs ns z) : SqL K (trackd K cs a vs ns) a (ns.map V.int) := by
  cases hk : K.lookup a with
  | none => exact .inl (.inr ⟨_, (if_neg S.ne).trans (if_pos ⟨rfl, hk⟩)⟩)
  | some o =>
    have e := S.KX a o hk
    rw [S.ha] at e
    cases e
    exact .inr ⟨_, vs.toArray, _, hk, rfl, rfl, rfl, by rw [List.size_toArray, S.hi.length]; exact S.hl, by simpa using vals_ints S.hi⟩
/-- a tracked place is a table, or the script -/
theorem Start.cases (S : Start P w K cs a vs ns z) {b : Addr} {u : HO} (h : trackd K cs a vs ns b = some u) : (b ∈ cs.map (·.2) ∧ u = .tbl #[]) ∨ (b = a ∧ K.lookup a = none ∧ u = .frz { cls := .type "list", data := .seq vs.toArray } (.lst (ns.map V.int))) := by
  unfold trackd at h
  split at h
  · rename_i hb
    exact .inl ⟨hb, (Option.some.inj h).symm⟩
  · split at h
    · rename_i hb
      exact .inr ⟨hb.1, hb.2, (Option.some.inj h).symm⟩
    · cases h
theorem Start.ok (S : Start P w K cs a vs ns z) : HOk P w (trackd K cs a vs ns) z.heap := fun b u h => by
  rcases S.cases h with ⟨hb, rfl⟩ | ⟨rfl, _, rfl⟩
  · exact (S.tab hb).1
  · exact ⟨S.ha, by rw [List.length_map]; exact S.hl, vs, _, vals_ints S.hi, S.ha⟩
/-- what is neither a list nor an empty row of fields is not tracked -/
theorem Start.off (S : Start P w K cs a vs ns z) {b : Addr} {o : Obj} (e : z.heap.get? b = some o) (h1 : ∀ us n, o.data ≠ .seq us n) (h2 : o.data ≠ .fields #[]) : trackd K cs a vs ns b = none := by
  cases q : trackd K cs a vs ns b with
  | none => rfl
  | some u =>
    rcases S.cases q with ⟨hb, _⟩ | ⟨rfl, _, _⟩
    · rw [(S.tab hb).1] at e
      cases e
      exact (h2 rfl).elim
    · rw [S.ha] at e
      cases e
      exact (h1 _ _ rfl).elim
theorem Start.kin (S : Start P w K cs a vs ns z) : K.In (hidT z.heap (trackd K cs a vs ns)) := fun b o e => hidT_get (S.KX b o e) (by
  cases q : trackd K cs a vs ns b with
  | none => rfl
  | some u =>
    rcases S.cases q with ⟨hb, _⟩ | ⟨rfl, hk, _⟩
    · rw [(S.tab hb).2] at e
      cases e
    · rw [hk] at e
      cases e)
theorem Start.ns_ (S : Start P w K cs a vs ns z) {b : Addr} {m : Str → Option Value} (h : z.heap.Ns b m) : (hidT z.heap (trackd K cs a vs ns)).Ns b m := by
  obtain ⟨o, es, ep, e, d, r⟩ := h
  exact ⟨o, es, ep, hidT_get e (S.off e (fun us n q => by rw [d] at q; cases q) (fun q => by rw [d] at q; cases q)), d, r⟩
theorem Start.mod (S : Start P w K cs a vs ns z) (hg : z.heap.Ns mainGlobals mg) (hb : z.heap.Ns builtinsNs mb) (hbb : ∀ y : Str, y ≠ "__name__" → mb y = bootBuiltins y) (lim : z.heap.NoLimit) : L2.Mod K mg (hidT z.heap (trackd K cs a vs ns)) :=
  ⟨S.kin, S.ns_ hg, ⟨mb, S.ns_ hb, hbb⟩, by obtain ⟨mc, h1, h2⟩ := lim; exact ⟨mc, S.ns_ h1, h2⟩⟩
theorem Start.tabB (S : Start P w K cs a vs ns z) (hg : z.heap.Ns mainGlobals mg) (C : ∀ p ∈ cs, PySem.W.CodeHd z.heap p.1 p.2)
    (hm : ∃ (bm : Addr) (ob : Obj), mg "__builtins__" = some (.ref bm) ∧ bm ≠ builtinsNs ∧ z.heap.get? bm = some ob ∧ ob.cls = .type "module" ∧ ob.dict = some builtinsNs ∧ ob.data = .plain) : ∀ p ∈ cs, TabB (hidT z.heap (trackd K cs a vs ns)) mg p.1 p.2 := fun p hp => by
  have tp := S.hT p hp
  have gne : ∀ {b : Addr} {o : Obj}, z.heap.get? b = some o → (∀ es ep, o.data ≠ .dict es ep) → b ≠ mainGlobals := fun {b o} e d q => by
    obtain ⟨og, es, ep, eg, dg, _⟩ := hg
    rw [q, eg] at e
    cases e
    exact d es ep dg
  refine ⟨?_, ?_, fun q => gne tp (by intro es ep h; cases h) q.symm⟩
  · obtain ⟨o, us, file, tf, flags, tg, inF, text, tt, e1, r⟩ := C p hp
    refine ⟨o, us, file, tf, flags, tg, inF, text, tt, hidT_get e1 (S.off e1 (fun vs n q => ?_) fun q => ?_), r⟩
    · rw [r.2.1] at q
      cases q
    · rw [r.2.1] at q
      cases q
      have q2 := r.2.2.1
      simp at q2
  · obtain ⟨bm, ob, b1, b2, b3, b4, b5, b6⟩ := hm
    refine ⟨bm, ob, b1, b2, gne b3 (by intro es ep h; rw [b6] at h; cases h), fun q => ?_, hidT_get b3 (S.off b3 (fun vs n q => by rw [b6] at q; cases q) (fun q => by rw [b6] at q; cases q)), b4, b5, b6⟩
    rw [q, tp] at b3
    cases b3
    cases b6
theorem Start.env (S : Start P w K cs a vs ns z) (hg : z.heap.Ns mainGlobals mg) (hb : z.heap.Ns builtinsNs mb) (hbb : ∀ y : Str, y ≠ "__name__" → mb y = bootBuiltins y) (lim : z.heap.NoLimit) (gs : z.gens = #[]) : Env0 P w K mg (hidT z.heap (trackd K cs a vs ns)) callerA [] z (trackd K cs a vs ns) :=
  ⟨rfl, S.mod hg hb hbb lim, fun b o e => of_hidT e, Nat.le_of_eq (hidT_size _ _), trivial, fun b q => absurd (show b ∈ ([] : List Addr) from q) (by simp), S.ok, .of_eq gs⟩
theorem Start.sys (S : Start P w K cs a vs ns z) (h : SysB z.heap) : SysB (hidT z.heap (trackd K cs a vs ns)) := by
  obtain ⟨o, es, ep, e, d⟩ := h
  exact ⟨o, es, ep, hidT_get e (S.off e (fun us n q => by rw [d] at q; cases q) (fun q => by rw [d] at q; cases q)), d⟩
/-- the call of the law: it tells True, and what stood stands -/
theorem endG (S : Start P w K cs a vs ns z) (hg : z.heap.Ns mainGlobals mg) (hb : z.heap.Ns builtinsNs mb) (hbb : ∀ y : Str, y ≠ "__name__" → mb y = bootBuiltins y) (lim : z.heap.NoLimit) (gs : z.gens = #[]) (C : ∀ p ∈ cs, PySem.W.CodeHd z.heap p.1 p.2)
    (hm : ∃ (bm : Addr) (ob : Obj), mg "__builtins__" = some (.ref bm) ∧ bm ≠ builtinsNs ∧ z.heap.get? bm = some ob ∧ ob.cls = .type "module" ∧ ob.dict = some builtinsNs ∧ ob.data = .plain) (hr : Room k callerA) (hs : SysB z.heap)
    (F : ∀ base : Heap, K.In base → base.Ns mainGlobals mg → (∀ p ∈ cs, TabB base mg p.1 p.2) → SysB base → FnG P w K mg base k fa fd [x] sp) (bind : ∀ (t : Shared) (u : Value), BindsTo t fd ⟨[u], []⟩ [(x, u)])
    (ask : ∀ H : Hp, (∀ p ∈ cs, H p.2 = some (.tbl #[])) → SqL K H a (ns.map V.int) → sp [.ref a] H (fun v _ => v = .bl true) C8.E0) :
    codeAny (model P w) callerA (.call (.ref fa) ⟨[.ref a], []⟩) (fun r t => r = .ok (.ret (.bool true)) ∧ OldK z.heap t.heap ∧ t.os = z.os ∧ AllBare t.gens) z := by
  refine codeAny_mono ((F _ S.kin (S.ns_ hg) (S.tabB hg C hm) (S.sys hs)).run callerA [] z _ ⟨[.ref a], []⟩ [.ref a] [.ref a] _ rfl hr (S.env hg hb hbb lim gs) (bind z (.ref a)) (.cons rfl .nil) (ask _ S.at_tab S.sq)) fun r t h => ?_
  cases r with
  | error e => exact False.elim (show False from h)
  | ok fl =>
    cases fl with
    | next => exact False.elim h
    | brk => exact False.elim h
    | cont => exact False.elim h
    | ret u =>
      obtain ⟨v, H', os, bare, un, ok', ru, q⟩ := h
      have q : v = .bl true := q
      subst q
      obtain rfl : u = Value.bool true := ru
      have kept : ∀ b o, b ∉ cs.map (·.2) → z.heap.get? b = some o → t.heap.get? b = some o := fun b o nb e => by
        cases y : trackd K cs a vs ns b with
        | none => exact un.keep b o e y (by intro n; exact absurd (show b ∈ ([] : List Addr) from n) (by simp)) (by simp)
        | some u =>
          rcases S.cases y with ⟨hb, _⟩ | ⟨rfl, _, rfl⟩
          · exact absurd hb nb
          · obtain ⟨e2, _⟩ := ok' _ _ (un.frzs _ _ _ y)
            rw [S.ha] at e
            cases e
            exact e2
      have grow : ∀ p ∈ cs, ∃ more : Array Value, t.heap.get? p.2 = some { cls := .none, data := .fields more } := fun p hp => by
        obtain ⟨more, y⟩ := un.tbls p.2 #[] (S.at_tab p hp)
        exact ⟨_, ok' p.2 _ y⟩
      refine ⟨rfl, ⟨fun b o e => ?_, fun b o e => ?_⟩, os, bare⟩
      · by_cases hb : b ∈ cs.map (·.2)
        · obtain ⟨p, hp, rfl⟩ := List.mem_map.mp hb
          obtain ⟨more, hmo⟩ := grow p hp
          rw [S.hT p hp] at e
          cases e
          exact .inr (.inl ⟨((C p hp).tab (S.hT p hp)).isCodeTable, rfl, #[], more, rfl, by rw [Array.empty_append]; exact hmo⟩)
        · exact .inl (kept b o hb e)
      · by_cases hb : b ∈ cs.map (·.2)
        · obtain ⟨p, hp, rfl⟩ := List.mem_map.mp hb
          obtain ⟨more, hmo⟩ := grow p hp
          exact ⟨_, hmo⟩
        · exact ⟨o, kept b o hb e⟩
end
/-- what the head has to tell of the law at fa -/
structure LawG (l : PySem.W.OpenLaw) (w : World) (K : PySem.W.Frag) (k n : Nat) (x : Str) (mg : Str → Option Value) (fa : Addr) (h : Heap) (fd : FuncData) (cs : List (Addr × Addr)) (sp : Sp) : Prop where
  hT : ∀ p ∈ cs, h.get? p.2 = some { cls := .none, data := .fields #[] }
  nT : ∀ p ∈ cs, K.lookup p.2 = none
  C : ∀ p ∈ cs, PySem.W.CodeHd h p.1 p.2
  bind : ∀ (t : Shared) (u : Value), BindsTo t fd ⟨[u], []⟩ [(x, u)]
  ask : ∀ (H : Hp) (a : Addr) (ns : List Int), ns.length ≤ n → (∀ p ∈ cs, H p.2 = some (.tbl #[])) → SqL K H a (ns.map V.int) → sp [.ref a] H (fun v _ => v = .bl true) C8.E0
  F : ∀ base : Heap, K.In base → base.Ns mainGlobals mg → (∀ p ∈ cs, TabB base mg p.1 p.2) → SysB base → FnG l.prog w K mg base k fa fd [x] sp
theorem walkG {l : PySem.W.OpenLaw} {n k : Nat} {q : Program} {loose : List Str} {XP : (Str → Option Value) → Heap → Prop} {YP : World → Heap → Prop} {d : DefRec} {K : Params → PySem.W.Frag} {x : Str} (hn : l.most = some n) (hn2 : n ≤ sizeLine) (hdf : d.params.defaults = []) (hr : Room k callerA) (hi : importsNone q = true)
    (hY : ∀ (w : World) (h : Heap), YP w h → (K w.params).In h) (G : ∀ (w : World) (mg : Str → Option Value) (fa : Addr) (h : Heap), YP w h → (K w.params).In h → h.Ns mainGlobals mg → mg d.name = some (.ref fa) → ∃ fd cs sp, LawG l w (K w.params) k n x mg fa h fd cs sp) :
    PySem.W.WalkO q loose XP YP l.row.toRowW d [] (fun f vs => PySem.call f vs) := by
  refine Att.attach_callB hn hdf fun w s₀ s₁ mg mb fa o pm cd doc a vs ns T Y ho hd hcd hmg hobj hints hlen hbits hgen => ?_
  have KX := hY w _ Y
  obtain ⟨fd, cs, sp, L⟩ := G w mg fa _ Y KX T.T.g hmg
  exact endG ⟨KX, L.hT, L.nT, hobj, hints, Nat.le_trans hlen hn2⟩ T.T.g T.T.b T.T.builtins T.T.nolimit hgen L.C T.T.bmain hr (by obtain ⟨mm, ⟨o, es, ep, e, d, _⟩, _⟩ := (T.T.seer hi).mods; exact ⟨o, es, ep, e, d⟩) L.F L.bind (fun H h1 h2 => L.ask H a ns hlen h1 h2)
end NX

set_option linter.all false
namespace NX
open PySem PySem.Builtin PySem.Builtin.Str
theorem tw_all {p : Nat → Bool} : ∀ {l : List Nat}, l.all p = true → l.takeWhile p = l
  | [], _ => rfl
  | c :: r, h => by
    rw [List.all_cons, Bool.and_eq_true] at h
    rw [List.takeWhile_cons, if_pos h.1, tw_all h.2]
theorem tw_lt {p : Nat → Bool} {l : List Nat} (h : l.all p = false) : (l.takeWhile p).length < l.length := by
  induction l with
  | nil => simp at h
  | cons c r ih =>
    rw [List.all_cons] at h
    rw [List.takeWhile_cons]
    by_cases hc : p c = true
    · rw [if_pos hc, List.length_cons, List.length_cons]
      rw [hc, Bool.true_and] at h
      have := ih h
      omega
    · rw [if_neg hc]
      simp
theorem drop_all {p : Nat → Bool} {l : List Nat} (h : l.all p = false) : (l.drop (l.takeWhile p).length).all p = false := by
  induction l with
  | nil => simp at h
  | cons c r ih =>
    rw [List.all_cons] at h
    rw [List.takeWhile_cons]
    by_cases hc : p c = true
    · rw [if_pos hc, List.length_cons, List.drop_succ_cons]
      rw [hc, Bool.true_and] at h
      exact ih h
    · rw [if_neg hc]
      simp [hc]
theorem strip_empty (x y : Str) : (Txt.stripChars x y = ("" : Str)) ↔ x.cps.toList.all y.cps.contains = true := by
  have len : x.length = x.cps.toList.length := by show x.cps.size = _; simp
  have empty : ∀ {z : Str}, z = ("" : Str) ↔ z.cps.toList = [] := fun {z} => by
    constructor
    · intro e
      rw [e]
      decide +kernel
    · intro e
      obtain ⟨⟨l⟩⟩ := z
      have e' : l = [] := e
      subst e'
      decide +kernel
  unfold Txt.stripChars Txt.stripBy stripSame stripped stripLo stripHi
  simp only [if_true]
  cases ha : x.cps.toList.all y.cps.contains with
  | true =>
    rw [tw_all ha]
    refine ⟨fun _ => rfl, fun _ => ?_⟩
    split
    · rename_i q
      rw [Bool.and_eq_true, beq_iff_eq] at q
      exact empty.mpr (List.length_eq_zero_iff.mp q.1)
    · refine empty.mpr ?_
      simp [strSub, len]
  | false =>
    refine ⟨fun e => ?_, fun e => by cases e⟩
    exfalso
    have h1 := tw_lt ha
    have h2 : (((x.cps.toList.drop (x.cps.toList.takeWhile y.cps.contains).length).reverse).takeWhile y.cps.contains).length < (x.cps.toList.drop (x.cps.toList.takeWhile y.cps.contains).length).length := by
      have := tw_lt (p := y.cps.contains) (l := (x.cps.toList.drop (x.cps.toList.takeWhile y.cps.contains).length).reverse) (by rw [List.all_reverse]; exact drop_all ha)
      rwa [List.length_reverse] at this
    rw [List.length_drop] at h2
    split at e
    · rw [empty] at e
      rw [e] at ha
      cases ha
    · rw [empty] at e
      have q := congrArg List.length e
      simp [strSub] at q
      rw [len] at q
      simp at q h1 h2
      omega
/-- a small letter -/
def lett (c : Nat) : Bool := decide (97 ≤ c) && decide (c ≤ 122)
theorem letters_list : ("abcdefghijklmnopqrstuvwxyz" : Str).cps.toList = List.range' 97 26 := by decide +kernel
theorem letters_mem (c : Nat) : c ∈ ("abcdefghijklmnopqrstuvwxyz" : Str).cps.toList ↔ lett c = true := by
  rw [letters_list, List.mem_range'_1]
  unfold lett
  rw [Bool.and_eq_true, decide_eq_true_eq, decide_eq_true_eq]
  omega
theorem letters_has (c : Nat) : ("abcdefghijklmnopqrstuvwxyz" : Str).cps.contains c = lett c := by
  rw [Bool.eq_iff_iff, Array.contains_iff_mem, ← Array.mem_toList_iff]
  exact letters_mem c
/-- is it a name -/
def nm (z : Str) : Bool := decide (1 ≤ z.length) && (decide (z.length ≤ 6) && z.cps.toList.all lett)
theorem strip_nm (z : Str) : decide (Txt.stripChars z ("abcdefghijklmnopqrstuvwxyz" : Str) = ("" : Str)) = z.cps.toList.all lett := by
  rw [Bool.eq_iff_iff, decide_eq_true_eq, strip_empty]
  have e : ("abcdefghijklmnopqrstuvwxyz" : Str).cps.contains = lett := funext letters_has
  rw [e]
end NX

set_option Elab.async false
set_option linter.all false
set_option maxRecDepth 100000
set_option maxHeartbeats 4000000
/-! A rule of my own: str(x) of an object whose class has an own text. -/
namespace NX
open PySem PySem.Spec PyProof.Rows L2
section
variable {X : Cx} {n : Nat} {f : Addr} {fd : FuncData} {ps : List Str} {sp : Sp} {CX : CXT} {E : XK}
theorem run_own1 (F : FnOk X.prog X.w X.K X.mg X.base CX n f fd ps sp) (hb : Binds X.K fd ps []) (hx : Passes CX X E) {A : Around} {pins : List (Addr × Obj)} {σ : L2.St} {H : Hp} {s : Shared} {x : V} {u : Value} {Q : VK}
    (sb : Sub X n A) (I : Inv X pins σ H s) (rx : RelV x u) (q : sp [x] H Q E) : wpAny (model X.prog X.w) A (call (.ref f) [u]) (EP X pins σ Q) X.xe s := by
  have e := I.env0
  have e0 : Env0 X.prog X.w X.K X.mg X.base A X.stack s H := ⟨by rw [sb.fr]; exact e.frames, e.mod, e.bs, e.bsz, e.funs, e.frf, e.hok, e.bare⟩
  have hl : [u].length = ps.length := (F.len _ _ _ _ q)
  have r2 : Vals [x] [u] := .cons rx .nil
  refine wpAny_call (codeAny_mono (F.run A X.stack s H ⟨[u], []⟩ [u] [x] Q E sb.room e0 (by
    have z := hb s [u] I.kIn (by simpa using hl)
    simpa using z) r2 q) fun r s' hq => ?_)
  cases r with
  | error er => exact hx pins σ H s er s' I hq
  | ok fl =>
    cases fl with
    | ret w => exact I.after hq
    | next => exact False.elim hq
    | brk => exact False.elim hq
    | cont => exact False.elim hq
structure StrC (K : PySem.W.Frag) (C f : Addr) : Prop where
  st : PySem.W.findIn K (.ref C) "__str__" = some (some (.ref f))
  fn : PySem.W.isFn K (.ref f) = true
def rStrOwn (K : PySem.W.Frag) (f : Addr) (sp : Sp) (E : XK) : List V → Hp → VK → Prop := fun xs H Q => ∃ (a C dx : Addr) (fs : List (Str × V)), xs = [.ref a] ∧ H a = some (.ins C dx fs) ∧ StrC K C f ∧
  sp [.ref a] H (fun v H' => ∃ z, v = .str z ∧ Q (.str z) H') E
theorem call_strOwn (F : FnOk X.prog X.w X.K X.mg X.base CX n f fd ps sp) (hb : Binds X.K fd ps []) (hx : Passes CX X E) (hr : Room (n + 2) X.A) : CallR X (.type "str") (rStrOwn X.K f sp E) := by
  intro pins s σ H xs us Q I r h
  obtain ⟨a, C, dx, fs, rfl, ha, T, q⟩ := h
  obtain ⟨u, rfl, r1⟩ : ∃ u, us = [u] ∧ RelV (.ref a) u := by
    cases r with
    | cons r1 rn => cases rn; exact ⟨_, rfl, r1⟩
  obtain rfl : u = Value.ref a := r1
  obtain ⟨mA, O, _⟩ := ins_get I.hok ha
  obtain ⟨od, J, _⟩ := O.look
  refine PySem.W.kso_call hr.in1.in1.units0 I.kIn J T.st T.fn (wpAny_mono (run_own1 (x := .ref a) F hb hx ⟨hr.in1.in1, rfl⟩ I rfl q) (fun v s' hq => ?_) fun _ _ z => z)
  obtain ⟨w, H', I', rw', z, rfl, q'⟩ := hq
  obtain ⟨t, rfl⟩ := rw'
  exact ⟨.str z, H', I', ⟨t, rfl⟩, q'⟩
end
end NX

set_option Elab.async false
set_option linter.all false
set_option maxRecDepth 100000
set_option maxHeartbeats 4000000
namespace K18
open PySem L2
def top (i : Nat) : Stmt := PySem.Challenge.pw_loopstow_k18_moves.main.body.getD i (.Pass ⟨0, 0, 0, 0⟩)
abbrev sPen : Stmt := top 17
abbrev sDraw : Stmt := top 18
abbrev sPick : Stmt := top 19
/-- the pen at p: its cells at c, how many cells are read, what is left of a great cell -/
structure Pen (H : Hp) (p c : Addr) (ns : List Int) (at_ rest : Int) : Prop where
  hp : H p = some (.lst [.ref c, .int at_, .int rest])
  hc : H c = some (.lst (ns.map V.int))
  la : 0 ≤ at_
  lr : 0 ≤ rest
theorem Pen.ne {H : Hp} {p c : Addr} {ns : List Int} {at_ rest : Int} (P : Pen H p c ns at_ rest) : c ≠ p := fun e => by
  have h1 := P.hp
  rw [← e, P.hc] at h1
  have h2 : ns.map V.int = [.ref c, .int at_, .int rest] := by injection h1 with h; injection h
  cases ns with
  | nil => cases h2
  | cons a r => simp at h2
/-- all but what stands at p is as it was -/
def But (p : Addr) (H H' : Hp) : Prop := ∀ b o, H b = some o → b ≠ p → H' b = some o
/-- what a draw leaves -/
def Drawn (H : Hp) (p c : Addr) (ns : List Int) (m : Int) (H' : Hp) : Prop := ∃ at' rest', Pen H' p c ns at' rest' ∧ at' ≤ m ∧ But p H H'
def spDraw : Sp := fun vs H Q _ => ∃ (p c : Addr) (ns : List Int) (at_ rest many : Int), vs = [.ref p, .int many] ∧ Pen H p c ns at_ rest ∧ at_ ≤ 1000000 ∧ 1 ≤ many ∧ many < 1000000000 ∧
  ∀ d H', 0 ≤ d → d < many → Drawn H p c ns (at_ + 1) H' → Q (.int d) H'
theorem scDraw : FnScope ["_law_pen_here", "_law_many", "_law_digit", "_law_at", "_law_cell", "_law_great", "_law_mixed"] ["_law_pen_here", "_law_many"] (defScope sDraw) := ⟨rfl, rfl, rfl, by decide +kernel, rfl, by decide +kernel, by decide +kernel⟩
theorem dpInts {K : PySem.W.Frag} {H : Hp} : ∀ ns : List Int, DpAll K H (ns.map V.int) (ns.map PyData.int)
  | [] => .nil
  | n :: r => .cons (.int n) (dpInts r)
structure TxtB (mg : Str → Option Value) : Prop where
  bint : mg "int" = none
  blen : mg "len" = none
  babs : mg "abs" = none
  blist : mg "list" = none
  bstr : mg "str" = none
  btuple : mg "tuple" = none
  bisinstance : mg "isinstance" = none
  brepr : mg "repr" = none
  brange : mg "range" = none
  benumerate : mg "enumerate" = none
  bVE : mg "ValueError" = none
section
variable {P : Program} {w : World} {K : PySem.W.Frag} {mg : Str → Option Value} {base : Heap}
theorem ok_draw {f : Addr} {fd : FuncData} (F : Fun K "_law_draw" "_law_draw" sDraw f fd) (T : TxtB mg) : FnOk P w K mg base CX0 1 f fd ["_law_pen_here", "_law_many"] spDraw := by
  refine F.ok scDraw (fun vs H Q E h => ?_) (fun cdv A outer s H vs Q E hr h => ?_)
  · obtain ⟨p, c, ns, a, r, m, rfl, _⟩ := h
    rfl
  · obtain ⟨p, c, ns, at_, rest, many, rfl, Pn, ha, hm1, hm2, k⟩ := h
    have hu := hu_of hr
    refine ⟨_, (pss_cons (ps_if (pt_cmpR op_gt (pe_ix ix_list (pv 0) pe_int (fun _ _ => rfl)) pe_int (nomark _)) (pss_cons (ps_set (i := 2) scDraw.nd rfl (Or.inl rfl) (pe_op op_mod (pe_callTy call_int1 (by rfl) T.bint (by decide +kernel) (pa_cons (pe_ix ix_list (pv 0) pe_int (fun _ _ => rfl)) pa_nil)) (pv 1)))
      (pss_cons (ps_asg (pe_op op_fdiv (pe_callTy call_int1 (by rfl) T.bint (by decide +kernel) (pa_cons (pe_ix ix_list (pv 0) pe_int (fun _ _ => rfl)) pa_nil)) (pv 1)) (pg_sub (pv 0) pe_int set_list))
      (pss_one (ps_ret (pv 2))))) pss_nil)
      (pss_cons (ps_set (i := 3) scDraw.nd rfl (Or.inl rfl) (pe_ix ix_list (pv 0) pe_int (fun _ _ => rfl)))
      (pss_cons (ps_asg (pe_op op_add (pv 3) pe_int) (pg_sub (pv 0) pe_int set_list))
      (pss_cons (ps_set (i := 4) scDraw.nd rfl (Or.inl rfl) (pe_op op_add (pe_op op_mul pe_int (pv 3)) pe_int))
      (C8.pss_cut (ps_if (pt_cmpR (op_neD hr.units) (pe_ix ix_list (pv 0) pe_int (fun _ _ => rfl)) (pe_lst pa_nil) (nomark _)) (pss_one (ps_set (i := 4) scDraw.nd rfl (Or.inl rfl) (pe_ix ix_list (pe_ix ix_list (pv 0) pe_int (fun _ _ => rfl)) (pe_op op_mod (pe_callTy call_int1 (by rfl) T.bint (by decide +kernel) (pa_cons (pv 3) pa_nil)) (pe_callB call_len_seq (by rfl) T.blen (by decide +kernel) (pa_cons (pe_ix ix_list (pv 0) pe_int (fun _ _ => rfl)) pa_nil))) (fun _ _ => rfl)))) pss_nil)
      (C8.pss_cut (ps_if (PW.pt (pw_and (pt_cmpR op_lt (pv 3) (pe_callB call_len_seq (by rfl) T.blen (by decide +kernel) (pa_cons (pe_ix ix_list (pv 0) pe_int (fun _ _ => rfl)) pa_nil)) (nomark _)) (pw_and1 (pt_cmpR op_ge (pe_callB call_abs (by rfl) T.babs (by decide +kernel) (pa_cons (pv 4) pa_nil)) (pe_op op_pow pe_int pe_int) (nomark _))))) (pss_cons (ps_set (i := 5) scDraw.nd rfl (Or.inl rfl) (pe_op op_add (pe_op op_mul pe_int (pe_callB call_abs (by rfl) T.babs (by decide +kernel) (pa_cons (pv 4) pa_nil))) (pe_callTy call_int1 (by rfl) T.bint (by decide +kernel) (pa_cons (pe_cmpR op_lt (pv 4) pe_int (nomark _)) pa_nil))))
      (pss_cons (ps_asg (pe_op op_fdiv (pv 5) (pv 1)) (pg_sub (pv 0) pe_int set_list))
      (pss_one (ps_ret (pe_op op_mod (pe_callTy call_int1 (by rfl) T.bint (by decide +kernel) (pa_cons (pv 5) pa_nil)) (pv 1)))))) pss_nil)
      (pss_cons (ps_set (i := 6) scDraw.nd rfl (Or.inl rfl) (pe_op op_mod (pe_callTy call_int1 (by rfl) T.bint (by decide +kernel) (pa_cons (pe_op op_pow (pe_op op_add (pe_op op_add (pe_op op_mod (pe_callTy call_int1 (by rfl) T.bint (by decide +kernel) (pa_cons (pv 4) pa_nil)) pe_int) (pe_op op_mul pe_int (pv 3))) pe_int) pe_int) pa_nil)) pe_int))
      (pss_cons (ps_set (i := 6) scDraw.nd rfl (Or.inl rfl) (pe_op op_mod (pe_callTy call_int1 (by rfl) T.bint (by decide +kernel) (pa_cons (pe_op op_pow (pe_op op_add (pe_op op_add (pe_op op_mul (pv 6) (pe_op op_add (pe_op op_mul pe_int (pv 3)) pe_int)) (pe_op op_mul (pe_op op_mul pe_int (pv 3)) (pv 3))) pe_int) pe_int) pa_nil)) pe_int))
      (pss_one (ps_ret (pe_op op_mod (pe_callTy call_int1 (by rfl) T.bint (by decide +kernel) (pa_cons (pe_op op_fdiv (pv 6) pe_int) pa_nil)) (pv 1)))))))))))), ?_⟩
    -- pen[2] > 0
    refine ⟨_, rfl, p, _, _, _, rfl, rfl, SqL.of Pn.hp, rfl, rest, 0, rfl, rfl, _, rfl, ite2 (fun h0 => ?_) (fun h0 => ?_)⟩
    · have hr0 : 0 < rest := of_decide_eq_true h0
      refine ⟨_, rfl, p, _, _, _, rfl, rfl, SqL.of Pn.hp, rfl, .inl ⟨rest, rfl, _, rfl, rest, many, rfl, rfl, (by show 0 < many; omega), ?_⟩⟩
      refine ⟨_, rfl, p, _, _, _, rfl, rfl, SqL.of Pn.hp, rfl, .inl ⟨rest, rfl, _, rfl, rest, many, rfl, rfl, ⟨by omega, by omega⟩, ?_⟩⟩
      refine ⟨_, rfl, p, _, _, _, rfl, rfl, Pn.hp, rfl, _, rfl, ?_⟩
      refine k _ _ (Int.emod_nonneg _ (by omega)) (Int.emod_lt_of_pos _ (by omega)) ⟨at_, rest / many, ⟨upd_same, by rw [upd_ne Pn.ne]; exact Pn.hc, Pn.la, Int.ediv_nonneg Pn.lr (by omega)⟩, by omega, fun b o hb hn => by rw [upd_ne hn]; exact hb⟩
    · -- at = pen[1]; pen[1] = at + 1
      refine ⟨_, rfl, p, _, _, _, rfl, rfl, SqL.of Pn.hp, rfl, ?_⟩
      refine ⟨_, rfl, at_, 1, rfl, rfl, _, rfl, p, _, _, _, rfl, rfl, Pn.hp, rfl, ?_⟩
      have P1 : Pen (upd H p (.lst [.ref c, .int (at_ + 1), .int rest])) p c ns (at_ + 1) rest := ⟨upd_same, by rw [upd_ne Pn.ne]; exact Pn.hc, by have := Pn.la; omega, Pn.lr⟩
      have B1 : But p H (upd H p (.lst [.ref c, .int (at_ + 1), .int rest])) := fun b o hb hn => by rw [upd_ne hn]; exact hb
      -- cell = ..
      refine ⟨_, rfl, _, at_, rfl, rfl, .inl ⟨by decide, by decide⟩, _, _, rfl, rfl, ?_⟩
      refine ⟨fun σ H' => ∃ (cell : Int) (v2 v5 v6 : Option V), σ = [some (.ref p), some (.int many), v2, some (.int at_), some (.int cell), v5, v6] ∧ Pen H' p c ns (at_ + 1) rest ∧ But p H H', ?_, ?_⟩
      · -- if pen[0] != []
        refine ⟨_, rfl, p, _, _, _, rfl, rfl, SqL.of P1.hp, rfl, by decide, fun l hl => ?_⟩
        have npl : p ≠ l := ne_of_none P1.hp hl
        have ncl : c ≠ l := ne_of_none P1.hc hl
        have P2 : Pen (upd (upd H p (.lst [.ref c, .int (at_ + 1), .int rest])) l (.lst [])) p c ns (at_ + 1) rest := ⟨by rw [upd_ne npl]; exact P1.hp, by rw [upd_ne ncl]; exact P1.hc, P1.la, P1.lr⟩
        have B2 : But p H (upd (upd H p (.lst [.ref c, .int (at_ + 1), .int rest])) l (.lst [])) := fun b o hb hn => by
          rw [upd_ne (ne_of_none (B1 b o hb hn) hl)]
          exact B1 b o hb hn
        refine ⟨_, _, .lst (SqL.of P2.hc) (dpInts ns), .lst (SqL.of upd_same) .nil, PySem.W.ke_shaped_ints ns, by decide +kernel, _, rfl, ?_⟩
        cases ns with
        | nil => exact iteF ⟨_, none, none, none, rfl, P2, B2⟩
        | cons n0 nr =>
          refine iteT ?_
          refine ⟨_, rfl, p, _, _, _, rfl, rfl, SqL.of P2.hp, rfl, _, rfl, .inl ⟨at_, rfl, _, rfl, p, _, _, _, rfl, rfl, SqL.of P2.hp, rfl, c, _, rfl, .inl (SqL.of P2.hc), at_, _, rfl, rfl, (by simp), ?_⟩⟩
          have hpos : (0 : Int) < (((n0 :: nr).map V.int).length : Int) := by simp
          have h1 := Int.emod_nonneg at_ (Int.ne_of_gt hpos)
          have h2 := Int.emod_lt_of_pos at_ hpos
          obtain ⟨j, hj⟩ := Int.eq_ofNat_of_zero_le h1
          have hjl : j < (n0 :: nr).length := by rw [hj] at h2; simp at h2 ⊢; omega
          refine ⟨c, _, _, .int ((n0 :: nr)[j]'hjl), rfl, rfl, SqL.of P2.hc, ?_, ?_⟩
          · rw [hj]
            exact atI_nat (by rw [List.getElem?_map, List.getElem?_eq_getElem hjl]; rfl)
          · exact ⟨_, none, none, none, rfl, P2, B2⟩
      · rintro σ' H' ⟨cell, v2, v5, v6, rfl, P2, B2⟩
        have hla := Pn.la
        have fin : ∀ (H2 : Hp) (x : Int), Drawn H p c ns (at_ + 1) H2 → Q (.int (x % many)) H2 := fun H2 x hd => k _ _ (Int.emod_nonneg _ (by omega)) (Int.emod_lt_of_pos _ (by omega)) hd
        have D2 : Drawn H p c ns (at_ + 1) H' := ⟨_, _, P2, by omega, B2⟩
        have m1 := Int.emod_nonneg cell (show (2147483563 : Int) ≠ 0 by decide)
        have m2 := Int.emod_lt_of_pos cell (show (0 : Int) < 2147483563 by decide)
        refine ⟨fun σ H2 => σ = [some (.ref p), some (.int many), v2, some (.int at_), some (.int cell), v5, v6] ∧ H2 = H', ?_, ?_⟩
        · -- at < len(pen[0]) and abs(cell) >= 10 ** 18
          refine ⟨_, rfl, _, rfl, p, _, _, _, rfl, rfl, SqL.of P2.hp, rfl, c, _, rfl, .inl (SqL.of P2.hc), at_, _, rfl, rfl, _, rfl, ?_⟩
          refine ite2 (fun hlt => ?_) (fun hlt => iteF ⟨rfl, rfl⟩)
          refine ⟨_, rfl, cell, rfl, 10, 18, rfl, rfl, ⟨by decide, by decide, by decide⟩, _, _, rfl, rfl, _, rfl, ?_⟩
          refine ite2 (fun hge => ?_) (fun hge => ⟨rfl, rfl⟩)
          refine ⟨_, rfl, cell, rfl, 2, _, rfl, rfl, .inl ⟨by decide, by decide⟩, _, rfl, cell, 0, rfl, rfl, .inr ⟨_, rfl, _, _, rfl, rfl, ?_⟩⟩
          refine ⟨_, rfl, _, rfl, _, many, rfl, rfl, ⟨by omega, by omega⟩, _, rfl, p, _, _, _, rfl, rfl, P2.hp, rfl, ?_⟩
          refine ⟨_, rfl, .inl ⟨_, rfl, _, rfl, _, many, rfl, rfl, (by show 0 < many; omega), ?_⟩⟩
          refine fin _ _ ⟨at_ + 1, _, ⟨upd_same, by rw [upd_ne Pn.ne]; exact P2.hc, P2.la, Int.ediv_nonneg ?_ (by omega)⟩, by omega, fun b o hb hn => by rw [upd_ne hn]; exact B2 b o hb hn⟩
          have h3 : (0 : Int) ≤ if cell < 0 then -cell else cell := by split <;> omega
          have h4 : (0 : Int) ≤ if decide (cell < 0) = true then 1 else 0 := by split <;> omega
          show (0 : Int) ≤ 2 * (if cell < 0 then -cell else cell) + (if decide (cell < 0) = true then 1 else 0)
          omega
        · rintro σ2 H2 ⟨rfl, rfl⟩
          -- mixed, twice
          refine ⟨_, rfl, .inl ⟨cell, rfl, cell, _, rfl, rfl, (by show (0 : Int) < 2147483563; decide), _, rfl, _, at_, rfl, rfl, .inl ⟨by decide, by decide⟩, _, _, rfl, rfl, _, _, rfl, rfl, _, 5, rfl, rfl, ⟨by decide, by decide, ?_⟩, .inl ⟨_, rfl, _, _, rfl, rfl, (by show (0 : Int) < 2147483587; decide), ?_⟩⟩⟩
          · show (cell % 2147483563 + 52021 * at_ + 157).natAbs < 2 ^ 64
            omega
          obtain ⟨M, hM⟩ : ∃ M : Int, M = (cell % 2147483563 + 52021 * at_ + 157) ^ (5 : Int).toNat % 2147483587 := ⟨_, rfl⟩
          have m3 : 0 ≤ M := by rw [hM]; exact Int.emod_nonneg _ (by decide)
          have m4 : M < 2147483587 := by rw [hM]; exact Int.emod_lt_of_pos _ (by decide)
          have m5 : 0 ≤ M * (2 * at_ + 163) := Int.mul_nonneg m3 (by omega)
          have m6 : M * (2 * at_ + 163) ≤ 2147483587 * 2000163 := Int.mul_le_mul (by omega) (by omega) (by omega) (by decide)
          have m7 : 0 ≤ 41017 * at_ * at_ := Int.mul_nonneg (by omega) (by omega)
          have m8 : 41017 * at_ * at_ ≤ 41017 * 1000000 * 1000000 := Int.mul_le_mul (by omega) (by omega) (by omega) (by decide)
          refine ⟨V.int M, by rw [hM]; rfl, _, rfl, 2, at_, rfl, rfl, .inl ⟨by decide, by decide⟩, _, _, rfl, rfl, M, _, rfl, rfl, .inl ⟨by omega, by omega⟩, ?_⟩
          refine ⟨_, rfl, 41017, at_, rfl, rfl, .inl ⟨by decide, by decide⟩, _, rfl, _, at_, rfl, rfl, .inr ⟨by omega, by omega⟩, _, _, rfl, rfl, _, _, rfl, rfl, _, 3, rfl, rfl, ⟨by decide, by decide, ?_⟩, ?_⟩
          · show (M * (2 * at_ + 163) + 41017 * at_ * at_ + 23).natAbs < 2 ^ 64
            omega
          refine .inl ⟨_, rfl, _, _, rfl, rfl, (by show (0 : Int) < 2147483629; decide), ?_⟩
          exact ⟨_, rfl, _, 16, rfl, rfl, ⟨by decide, by decide⟩, .inl ⟨_, rfl, _, rfl, _, many, rfl, rfl, (by show 0 < many; omega), fin _ _ D2⟩⟩
end
end K18

set_option Elab.async false
set_option linter.all false
set_option maxRecDepth 100000
set_option maxHeartbeats 4000000
namespace K18
open PySem L2
theorem But.seq {K : PySem.W.Frag} {H H' : Hp} {p a : Addr} {xs : List V} (B : But p H H') (n : a ≠ p) (h : SqL K H a xs) : SqL K H' a xs := by
  rcases h with (h | ⟨o, h⟩) | h
  · exact .inl (.inl (B _ _ h n))
  · exact .inl (.inr ⟨o, B _ _ h n⟩)
  · exact .inr h
theorem But.trans {p : Addr} {H H1 H2 : Hp} (a : But p H H1) (b : But p H1 H2) : But p H H2 := fun c o h n => b c o (a c o h n) n
theorem But.refl {p : Addr} {H : Hp} : But p H H := fun _ _ h _ => h
theorem But.new {p a : Addr} {H : Hp} {o : HO} (h : H a = none) : But p H (upd H a o) := fun b u e _ => by rw [upd_ne (ne_of_none e h)]; exact e
theorem But.same {p : Addr} {H H1 : Hp} (s : Same H H1) : But p H H1 := fun b o h _ => s b o h
theorem Same.new {a : Addr} {H : Hp} {o : HO} (h : H a = none) : Same H (upd H a o) := fun b u e => by rw [upd_ne (ne_of_none e h)]; exact e
theorem Pen.same {H H' : Hp} {p c : Addr} {ns : List Int} {at_ rest : Int} (P : Pen H p c ns at_ rest) (s : Same H H') : Pen H' p c ns at_ rest := ⟨s _ _ P.hp, s _ _ P.hc, P.la, P.lr⟩
def spPen (K : PySem.W.Frag) : Sp := fun vs H Q _ => ∃ (a : Addr) (ns : List Int), vs = [.ref a] ∧ SqL K H a (ns.map V.int) ∧ ∀ (p c : Addr) (ms : List Int) (H' : Hp), H p = none → Pen H' p c ms 0 0 → Same H H' → Q (.ref p) H'
theorem scPen : FnScope ["_law_script"] ["_law_script"] (defScope sPen) := ⟨rfl, rfl, rfl, by decide +kernel, rfl, by decide +kernel, by decide +kernel⟩
def spPick (K : PySem.W.Frag) : Sp := fun vs H Q _ => ∃ (p c : Addr) (ns : List Int) (at_ rest : Int) (x : V), vs = [.ref p, x] ∧ Pen H p c ns at_ rest ∧ at_ ≤ 1000000 ∧
  ((∃ (a : Addr) (xs : List V), x = .ref a ∧ SqL K H a xs ∧ a ≠ p ∧ 0 < xs.length ∧ xs.length < 1000 ∧ ∀ v H', v ∈ xs → Drawn H p c ns (at_ + 1) H' → Q v H') ∨
   (∃ (z : Str), x = .str z ∧ 0 < z.length ∧ z.length < 1000 ∧ ∀ (ch : Nat) H', ch ∈ z.cps.toList → Drawn H p c ns (at_ + 1) H' → Q (.str ⟨#[ch]⟩) H'))
theorem scPick : FnScope ["_law_pen_here", "_law_some"] ["_law_pen_here", "_law_some"] (defScope sPick) := ⟨rfl, rfl, rfl, by decide +kernel, rfl, by decide +kernel, by decide +kernel⟩
def cutM (ns : List Int) : List Int := (ns.drop (HT.sIx ns.length 0 none)).take (HT.sIx ns.length ns.length (some 63) - HT.sIx ns.length 0 none)
section
variable {P : Program} {w : World} {K : PySem.W.Frag} {mg : Str → Option Value} {base : Heap}
theorem ok_pen {f : Addr} {fd : FuncData} (F : Fun K "_law_pen" "_law_pen" sPen f fd) (T : TxtB mg) : FnOk P w K mg base CX0 1 f fd ["_law_script"] (spPen K) := by
  refine F.ok scPen (fun vs H Q E h => ?_) (fun cdv A outer s H vs Q E hr h => ?_)
  · obtain ⟨a, ns, rfl, _⟩ := h
    rfl
  · obtain ⟨a, ns, rfl, hS, k⟩ := h
    refine ⟨_, (pss_one (ps_ret (pe_lst (pa_cons (pe_callTy call_list_of (by rfl) T.blist (by decide +kernel) (pa_cons (pe_slice sl_list (pv 0) po_none (po_some pe_int)) pa_nil)) (pa_cons pe_int (pa_cons pe_int pa_nil)))))), ?_⟩
    refine ⟨_, rfl, _, rfl, a, _, rfl, hS, fun d hd => ?_⟩
    refine ⟨d, _, rfl, .inl (SqL.of upd_same), fun c hc => ⟨by show 3 ≤ sizeLine; decide, fun p hp => ?_⟩⟩
    have n1 : d ≠ c := ne_of_none upd_same hc
    have n2 : c ≠ p := ne_of_none upd_same hp
    have s1 : Same H (upd H d (.lst (cutV (ns.map V.int) none (some 63)))) := Same.new hd
    have s2 : Same (upd H d (.lst (cutV (ns.map V.int) none (some 63)))) (upd (upd H d (.lst (cutV (ns.map V.int) none (some 63)))) c (.lst (cutV (ns.map V.int) none (some 63)))) := Same.new hc
    have e : cutV (ns.map V.int) none (some 63) = (cutM ns).map V.int := by
      unfold cutV cutM
      rw [← List.map_drop, ← List.map_take, List.length_map]
    refine k p c (cutM ns) _ ((s1.trans s2).free hp) ⟨upd_same, ?_, Int.le_refl _, Int.le_refl _⟩ ((s1.trans s2).trans (Same.new hp))
    rw [upd_ne n2, upd_same, e]
theorem ok_pick {f : Addr} {fd : FuncData} (F : Fun K "_law_pick" "_law_pick" sPick f fd) (T : TxtB mg) (cDraw : C8.Cal P w K mg base 1 "_law_draw" spDraw []) : FnOk P w K mg base CX0 2 f fd ["_law_pen_here", "_law_some"] (spPick K) := by
  refine F.ok scPick (fun vs H Q E h => ?_) (fun cdv A outer s H vs Q E hr h => ?_)
  · obtain ⟨p, c, ns, at_, rest, x, rfl, _⟩ := h
    rfl
  · obtain ⟨p, c, ns, at_, rest, x, rfl, Pn, ha, h⟩ := h
    refine ⟨_, (pss_one (ps_ret (pe_ix ix_seq (pv 1) (C8.pe_c cDraw hr (by decide) rfl (pa_cons (pv 0) (pa_cons (pe_callB (CallR.or call_len_seq call_len_str) (by rfl) T.blen (by decide +kernel) (pa_cons (pv 1) pa_nil)) pa_nil))) (fun _ _ => rfl)))), ?_⟩
    rcases h with ⟨a, xs, rfl, hS, hne, h0, h1, k⟩ | ⟨z, rfl, h0, h1, k⟩
    · refine ⟨_, rfl, _, rfl, _, rfl, .inl ⟨a, xs, rfl, .inl hS, ?_⟩⟩
      refine ⟨p, c, ns, at_, rest, _, rfl, Pn, ha, by omega, by omega, fun d H' d0 d1 hD => ?_⟩
      obtain ⟨at', rest', _, _, hB⟩ := id hD
      obtain ⟨j, rfl⟩ := Int.eq_ofNat_of_zero_le d0
      have hj : j < xs.length := by omega
      refine .inl ⟨a, xs, _, xs[j], rfl, rfl, hB.seq hne hS, atI_nat (List.getElem?_eq_getElem hj), k _ _ (List.getElem_mem hj) hD⟩
    · refine ⟨_, rfl, _, rfl, _, rfl, .inr ⟨z, rfl, Nat.le_of_lt (small1000 (by omega)), ?_⟩⟩
      refine ⟨p, c, ns, at_, rest, _, rfl, Pn, ha, by omega, by omega, fun d H' d0 d1 hD => ?_⟩
      obtain ⟨j, rfl⟩ := Int.eq_ofNat_of_zero_le d0
      have hj : j < z.cps.toList.length := by show j < z.cps.toList.length; rw [Array.length_toList]; exact Int.ofNat_lt.mp d1
      refine .inr (.inr ⟨z, _, z.cps.toList[j], rfl, rfl, Nat.le_of_lt (small1000 (by omega)), atI_nat (List.getElem?_eq_getElem hj), k _ _ (List.getElem_mem hj) hD⟩)
end
end K18

set_option Elab.async false
set_option linter.all false
set_option maxRecDepth 100000
set_option maxHeartbeats 4000000
namespace K18
open PySem L2 NX
abbrev sIs : Stmt := top 8
theorem scIs : FnScope ["value"] ["value"] (defScope sIs) := ⟨rfl, rfl, rfl, by decide +kernel, rfl, by decide +kernel, by decide +kernel⟩
/-- no text -/
def NoStr (K : PySem.W.Frag) (H : Hp) (x : V) : Prop := ∃ t, TyX K H x t ∧ PySem.W.kitOne K t (.type "str") = some false
def spIs (K : PySem.W.Frag) : Sp := fun vs H Q _ => ∃ x, vs = [x] ∧ ((∃ z, x = .str z ∧ z.length ≤ 1000 ∧ Q (.bl (nm z)) H) ∨ (NoStr K H x ∧ Q (.bl false) H))
structure TxtN (mg : Str → Option Value) : Prop where
  gLet : ∃ t, mg "LETTERS" = some (.str "abcdefghijklmnopqrstuvwxyz" t)
  gMost : ∃ t, mg "MOST_LETTERS" = some (.int 6 t)
section
variable {P : Program} {w : World} {K : PySem.W.Frag} {mg : Str → Option Value} {base : Heap}
theorem ok_is {f : Addr} {fd : FuncData} (F : Fun K "is_name" "is_name" sIs f fd) (T : TxtB mg) (N : TxtN mg) : FnOk P w K mg base CX0 1 f fd ["value"] (spIs K) := by
  refine F.ok scIs (fun vs H Q E h => ?_) (fun cdv A outer s H vs Q E hr h => ?_)
  · obtain ⟨x, rfl, _⟩ := h
    rfl
  · obtain ⟨x, rfl, h⟩ := h
    obtain ⟨t1, gL⟩ := N.gLet
    obtain ⟨t2, gM⟩ := N.gMost
    refine ⟨_, (pss_one (ps_ret (pe_and (pe_callB call_isi (by rfl) T.bisinstance (by decide +kernel) (pa_cons (pv 0) (pa_cons (pe_bltn (v := .ty "str") (by rfl) T.bstr (by decide +kernel) rfl) pa_nil))) (pe_and (pe_chain op_le op_le pe_int (pe_callB call_len_str (by rfl) T.blen (by decide +kernel) (pa_cons (pv 0) pa_nil)) (pe_glob (v := .int 6) rfl gM ⟨_, rfl⟩)) (pe_one (pe_cmpR op_eq (pe_bm PySem.F.plainAttrs_str PySem.F.slot_str_strip PySem.F.type_str_strip mt_stripChars (pv 0) (pa_cons (pe_glob (v := .str "abcdefghijklmnopqrstuvwxyz") rfl gL ⟨_, rfl⟩) pa_nil)) pe_str (nomark _))))))), ?_⟩
    rcases h with ⟨z, rfl, hz, q⟩ | ⟨⟨t, ty, k⟩, q⟩
    · refine ⟨_, rfl, _, _, _, _, true, rfl, .ty "str", .base (.str z), kit_ty (by decide +kernel), true, rfl, iteT ?_⟩
      refine ⟨_, rfl, z, rfl, Nat.le_of_lt (small1000 hz), 1, _, rfl, rfl, _, rfl, ite2 (fun h1 => ?_) (fun h1 => ?_)⟩
      · refine ⟨_, 6, rfl, rfl, _, rfl, ite2 (fun h2 => ?_) (fun h2 => ?_)⟩
        · have e : ∀ b : Bool, b = nm z → Q (.bl b) H := fun b e => by rw [e]; exact q
          refine ⟨_, rfl, rfl, z, _, rfl, rfl, Nat.le_trans hz (by decide), by rfl, e _ ?_⟩
          have e1 := of_decide_eq_true h1
          have e2 := of_decide_eq_true h2
          have g : decide (V.str (Txt.stripChars z (Str.ofString "abcdefghijklmnopqrstuvwxyz")) = V.str (Str.ofString "")) = decide (Txt.stripChars z ("abcdefghijklmnopqrstuvwxyz" : Str) = ("" : Str)) := by
            rw [Bool.eq_iff_iff, decide_eq_true_eq, decide_eq_true_eq]
            exact ⟨fun h => by injection h, fun h => by rw [← h]⟩
          rw [g, strip_nm]
          unfold nm
          rw [decide_eq_true (by omega : 1 ≤ z.length), decide_eq_true (by omega : z.length ≤ 6)]
          rfl
        · have e1 : ¬ (z.length ≤ 6) := fun h => h2 (decide_eq_true (by omega))
          have e : nm z = false := by unfold nm; rw [decide_eq_false e1]; simp
          rw [e] at q
          exact q
      · have e1 : ¬ (1 ≤ z.length) := fun h => h1 (decide_eq_true (by omega))
        have e : nm z = false := by unfold nm; rw [decide_eq_false e1]; simp
        rw [e] at q
        exact ⟨false, rfl, iteF q⟩
    · exact ⟨_, rfl, _, _, _, _, false, rfl, .ty "str", ty, k, false, rfl, iteF q⟩
end
end K18

set_option Elab.async false
set_option linter.all false
set_option maxRecDepth 100000
set_option maxHeartbeats 4000000
namespace K18
open PySem L2 NX
abbrev sErrN : Stmt := inClass (top 3) 0
abbrev sErrM : Stmt := inClass (top 4) 0
abbrev sInit : Stmt := inClass (top 10) 1
/-- what stood stands, and an error's dict at d is new -/
def Told (H : Hp) (d : Addr) (v : V) (H' : Hp) : Prop := Same H H' ∧ H d = none ∧ H' d = some (.xd [("value", v)])
def spErr (K : PySem.W.Frag) : Sp := fun vs H Q _ => ∃ (a C : Addr) (v : V), vs = [.ref a, v] ∧ OexC K C ∧ PySem.W.findIn K (.ref C) "value" = some none ∧ H a = some (exo a C none) ∧
  ∀ dx, H dx = none → dx ≠ a → Q .non (upd (upd H dx (exd dx [("value", v)])) a (exo a C (some dx)))
theorem scErrN : FnScope ["self", "value"] ["self", "value"] (defScope sErrN) := ⟨rfl, rfl, rfl, by decide +kernel, rfl, by decide +kernel, by decide +kernel⟩
theorem scErrM : FnScope ["self", "value"] ["self", "value"] (defScope sErrM) := ⟨rfl, rfl, rfl, by decide +kernel, rfl, by decide +kernel, by decide +kernel⟩
theorem scInit : FnScope ["self", "name"] ["self", "name"] (defScope sInit) := ⟨rfl, rfl, rfl, by decide +kernel, rfl, by decide +kernel, by decide +kernel⟩
/-- a name, or something that is none -/
def IsNm (K : PySem.W.Frag) (H : Hp) (v : V) (z : Str) : Prop := v = .str z ∧ z.length ≤ 1000 ∧ nm z = true
def NoNm (K : PySem.W.Frag) (H : Hp) (v : V) : Prop := (∃ z, v = .str z ∧ z.length ≤ 1000 ∧ nm z = false) ∨ NoStr K H v
/-- an object of a class of moves at x, with its word and its name -/
def spInit (K : PySem.W.Frag) (CN : Addr) : Sp := fun vs H Q E => ∃ (x C dx : Addr) (wd : Str) (u : Value) (v : V), vs = [.ref x, v] ∧ Cls K C ∧ Con K C "WORD" (.str wd) u ∧ NoAttr K C "word" ∧ NoAttr K C "name" ∧ H x = some (.ins C dx []) ∧
  ((∃ z, IsNm K H v z ∧ Q .non (upd (upd H x (.ins C dx [("word", .str wd)])) x (.ins C dx [("word", .str wd), ("name", .str z)]))) ∨ (NoNm K H v ∧ ∀ d H', Told H d v H' → E (.ref CN) (some d) H'))
section
variable {P : Program} {w : World} {K : PySem.W.Frag} {mg : Str → Option Value} {base : Heap}
theorem ok_errN {f : Addr} {fd : FuncData} (F : Fun K "__init__" "BadName.__init__" sErrN f fd) : FnOk P w K mg base CX0 1 f fd ["self", "value"] (spErr K) := by
  refine F.ok scErrN (fun vs H Q E h => ?_) (fun cdv A outer s H vs Q E hr h => ?_)
  · obtain ⟨a, C, v, rfl, _⟩ := h
    rfl
  · obtain ⟨a, C, v, rfl, T, hf, ha, k⟩ := h
    refine ⟨_, (pss_one (ps_ost (pv 0) (pv 1))), ?_⟩
    exact ⟨_, rfl, _, rfl, a, C, rfl, T, hf, .inl ⟨ha, fun dx h1 h2 => k dx h1 h2⟩⟩
theorem ok_errM {f : Addr} {fd : FuncData} (F : Fun K "__init__" "BadMove.__init__" sErrM f fd) : FnOk P w K mg base CX0 1 f fd ["self", "value"] (spErr K) := by
  refine F.ok scErrM (fun vs H Q E h => ?_) (fun cdv A outer s H vs Q E hr h => ?_)
  · obtain ⟨a, C, v, rfl, _⟩ := h
    rfl
  · obtain ⟨a, C, v, rfl, T, hf, ha, k⟩ := h
    refine ⟨_, (pss_one (ps_ost (pv 0) (pv 1))), ?_⟩
    exact ⟨_, rfl, _, rfl, a, C, rfl, T, hf, .inl ⟨ha, fun dx h1 h2 => k dx h1 h2⟩⟩
/-- an error class of ours, with its __init__ -/
structure ErrC (P : Program) (w : World) (K : PySem.W.Frag) (mg : Str → Option Value) (base : Heap) (x : Str) (C fI : Addr) : Prop where
  O : OexC K C
  i : PySem.W.findIn K (.ref C) "__init__" = some (some (.ref fI))
  t : PySem.W.typeIn K (.ref fI) = some (.type "function")
  ok : ∃ fd, FnOk P w K mg base CX0 1 fI fd ["self", "value"] (spErr K) ∧ Binds K fd ["self", "value"] []
  g : mg x = some (.ref C)
  v : PySem.W.findIn K (.ref C) "value" = some none
/-- what making an error of ours asks -/
theorem mkO_of {H : Hp} {C : Addr} {v : V} {Q : XK} (O : OexC K C) (hv : PySem.W.findIn K (.ref C) "value" = some none) (k : ∀ d H', Told H d v H' → Q (.ref C) (some d) H') :
    [v].length ≤ 1000 ∧ ∀ a : Addr, H a = none → spErr K (.ref a :: ([v] ++ [])) (upd H a (exo a C none)) (fun x H2 => x = .non ∧ ∃ (d : Addr) (fs : List (Str × V)), H2 a = some (exo a C (some d)) ∧ H2 d = some (exd d fs) ∧ H d = none ∧ Q (.ref C) (some d) (upd (L2.del H2 a) d (.xd fs))) (fun _ _ _ => False) := by
  refine ⟨by show 1 ≤ 1000; decide, fun a ha => ⟨a, C, v, rfl, O, hv, upd_same, fun d hd hne => ?_⟩⟩
  have hd' : H d = none := by rw [upd_ne hne] at hd; exact hd
  refine ⟨rfl, d, [("value", v)], upd_same, by rw [upd_ne hne]; exact upd_same, hd', k d _ ⟨fun b o hb => ?_, hd', upd_same⟩⟩
  have n1 : b ≠ d := fun e => by rw [e, hd'] at hb; cases hb
  have n2 : b ≠ a := fun e => by rw [e, ha] at hb; cases hb
  rw [upd_ne n1]
  unfold L2.del
  rw [if_neg n2, upd_ne n2, upd_ne n1, upd_ne n2]
  exact hb
theorem ok_init {CN fI : Addr} {f : Addr} {fd : FuncData} (F : Fun K "__init__" "Move.__init__" sInit f fd) (cIs : C8.Cal P w K mg base 1 "is_name" (spIs K) []) (B : ErrC P w K mg base "BadName" CN fI) : FnOk P w K mg base (CX P w) 3 f fd ["self", "name"] (spInit K CN) := by
  obtain ⟨fde, Fe, hbe⟩ := B.ok
  refine F.okX scInit (fun vs H Q E h => ?_) (fun cdv A outer s H vs Q E hr h => ?_)
  · obtain ⟨x, C, dx, wd, u, v, rfl, _⟩ := h
    rfl
  · obtain ⟨x, C, dx, wd, u, v, rfl, hC, hW, h1, h2, hx, h⟩ := h
    refine ⟨_, (pss_cons (ps_if (pt_not (pt_val (C8.pe_c cIs hr (by decide) rfl (pa_cons (pv 1) pa_nil)))) (pss_one (ps_raise rfl (takes_of rfl rfl rfl rfl) (pmk_oex (ds := []) (dvs := []) B.O B.i B.t Fe hr hbe .nil pass0 rfl B.g (pa_cons (pv 1) pa_nil)))) pss_nil)
      (pss_cons (ps_fld (pv 0) (pe_con (pv 0) rfl) rfl) (pss_one (ps_fld (pv 0) (pv 1) rfl)))), ?_⟩
    rcases h with ⟨z, ⟨rfl, hz, hn⟩, q⟩ | ⟨h, q⟩
    · refine ⟨_, rfl, _, rfl, .inl ⟨z, rfl, hz, ?_⟩⟩
      rw [hn]
      refine ⟨_, rfl, iteF ?_⟩
      refine ⟨_, rfl, x, C, dx, [], _, u, rfl, hx, hC, hW, rfl, _, rfl, x, C, dx, [], rfl, hx, hC, h1, by decide, ?_⟩
      refine ⟨_, rfl, _, rfl, x, C, dx, _, rfl, upd_same, hC, h2, by show 1 < 1000; decide, q⟩
    · refine ⟨_, rfl, _, rfl, ?_⟩
      rcases h with ⟨z, rfl, hz, hn⟩ | h
      · refine .inl ⟨z, rfl, hz, ?_⟩
        rw [hn]
        exact ⟨_, rfl, iteT ⟨_, rfl, mkO_of B.O B.v q⟩⟩
      · exact .inr ⟨h, _, rfl, iteT ⟨_, rfl, mkO_of B.O B.v q⟩⟩
end
end K18

set_option Elab.async false
set_option linter.all false
set_option maxRecDepth 100000
set_option maxHeartbeats 4000000
namespace K18
open PySem L2 NX
abbrev sRead : Stmt := inClass (top 10) 2
theorem scRead : FnScope ["cls", "text", "word", "names"] ["cls", "text"] (defScope sRead) := ⟨rfl, rfl, rfl, by decide +kernel, rfl, by decide +kernel, by decide +kernel⟩
/-- the four classes of moves -/
structure M4 where
  l : Addr
  a : Addr
  s : Addr
  f : Addr
def M4.of (m : M4) (wd : Str) : Addr := if wd = "load" then m.l else if wd = "again" then m.a else if wd = "store" then m.s else m.f
def isW (wd : Str) : Bool := decide (wd = "load") || (decide (wd = "again") || (decide (wd = "store") || decide (wd = "forget")))
structure MoveC (K : PySem.W.Frag) (mg : Str → Option Value) (fI : Addr) (x : Str) (C : Addr) (wd : Str) : Prop where
  cl : Cls K C
  con : ∃ u, Con K C "WORD" (.str wd) u
  nw : NoAttr K C "word"
  nn : NoAttr K C "name"
  mak : Mk K C fI
  g : mg x = some (.ref C)
  rd : ∃ mc u, ClX.CRead K C mc ∧ ClX.CVal K C mc "WORD" (.str wd) u
structure Mvs (K : PySem.W.Frag) (mg : Str → Option Value) (fI : Addr) (m : M4) : Prop where
  L : MoveC K mg fI "Load" m.l "load"
  A : MoveC K mg fI "Again" m.a "again"
  S : MoveC K mg fI "Store" m.s "store"
  F : MoveC K mg fI "Forget" m.f "forget"
/-- a move at x, new -/
def Made (m : M4) (H : Hp) (x dx : Addr) (wd n : Str) (H' : Hp) : Prop := Same H H' ∧ H x = none ∧ H' x = some (.ins (m.of wd) dx [("word", .str wd), ("name", .str n)])
theorem sameNone {H H' : Hp} {d : Addr} (s : Same H H') (h : H' d = none) : H d = none := by
  cases e : H d with
  | none => rfl
  | some o => rw [s d o e] at h; cases h
theorem Told.old {H H1 H' : Hp} {d : Addr} {v : V} (s : Same H H1) (t : Told H1 d v H') : Told H d v H' := ⟨s.trans t.1, sameNone s t.2.1, t.2.2⟩
theorem Made.old {m : M4} {H H1 H' : Hp} {x dx : Addr} {wd n : Str} (s : Same H H1) (t : Made m H1 x dx wd n H') : Made m H x dx wd n H' := ⟨s.trans t.1, sameNone s t.2.1, t.2.2⟩
/-- making a move of a name: what pe_make asks -/
theorem made_of {K : PySem.W.Frag} {mg : Str → Option Value} {fI CN : Addr} {m : M4} {x : Str} {C : Addr} {wd n : Str} {H : Hp} {Q : VK} {E : XK} (M : MoveC K mg fI x C wd) (hC : m.of wd = C) (hl : n.length ≤ 1000) (hn : nm n = true)
    (q : ∀ y dy H', Made m H y dy wd n H' → Q (.ref y) H') :
    ∀ y dy : Addr, H y = none → H dy = none → dy ≠ y → spInit K CN (.ref y :: ([.str n] ++ [])) (upd (upd H dy (.own y)) y (.ins C dy [])) (fun v H2 => v = .non ∧ Q (.ref y) H2) E := by
  intro y dy h1 h2 h3
  obtain ⟨u, hu⟩ := M.con
  refine ⟨y, C, dy, wd, u, .str n, rfl, M.cl, hu, M.nw, M.nn, upd_same, .inl ⟨n, ⟨rfl, hl, hn⟩, rfl, q y dy _ ⟨fun b o hb => ?_, h1, ?_⟩⟩⟩
  · have n1 : b ≠ y := fun e => by rw [e, h1] at hb; cases hb
    have n2 : b ≠ dy := fun e => by rw [e, h2] at hb; cases hb
    rw [upd_ne n1, upd_ne n1, upd_ne n1, upd_ne n2]
    exact hb
  · rw [hC]
    exact upd_same
def Parse (z wd n : Str) : Prop := Txt.split z " " = [wd, n] ∧ isW wd = true ∧ nm n = true
def NoMove (K : PySem.W.Frag) (H : Hp) (v : V) : Prop := (∃ z, v = .str z ∧ z.length ≤ 1000 ∧ ∀ wd n, ¬ Parse z wd n) ∨ NoStr K H v
def spRead (K : PySem.W.Frag) (m : M4) (CM : Addr) : Sp := fun vs H Q E => ∃ (c : Addr) (v : V), vs = [.ref c, v] ∧
  ((∃ z wd n, v = .str z ∧ z.length ≤ 1000 ∧ Parse z wd n ∧ ∀ x dx H', Made m H x dx wd n H' → Q (.ref x) H') ∨ (NoMove K H v ∧ ∀ d H', Told H d v H' → E (.ref CM) (some d) H'))
section
variable {P : Program} {w : World} {K : PySem.W.Frag} {mg : Str → Option Value} {base : Heap}
theorem ok_read {CN CM fI fN fM : Addr} {fdi : FuncData} {m : M4} {f : Addr} {fd : FuncData} (F : Fun K "read" "Move.read" sRead f fd) (T : TxtB mg) (cIs : C8.Cal P w K mg base 1 "is_name" (spIs K) []) (B : ErrC P w K mg base "BadMove" CM fM)
    (I : FnOk P w K mg base (CX P w) 3 fI fdi ["self", "name"] (spInit K CN)) (hbi : Binds K fdi ["self", "name"] []) (M : Mvs K mg fI m) : FnOk P w K mg base (CX P w) 5 f fd ["cls", "text"] (spRead K m CM) := by
  obtain ⟨fde, Fe, hbe⟩ := B.ok
  obtain ⟨ML, MA, MS, MF⟩ := M
  obtain ⟨CL, CA, CS, CF⟩ := m
  refine F.okX scRead (fun vs H Q E h => ?_) (fun cdv A outer s H vs Q E hr h => ?_)
  · obtain ⟨c, v, rfl, _⟩ := h
    rfl
  · obtain ⟨c, v, rfl, h⟩ := h
    refine ⟨_, (pss_cons (ps_if (pt_not (pt_val (pe_callB call_isi (by rfl) T.bisinstance (by decide +kernel) (pa_cons (pv 1) (pa_cons (pe_bltn (v := .ty "str") (by rfl) T.bstr (by decide +kernel) rfl) pa_nil))))) (pss_one (ps_raise rfl (takes_of rfl rfl rfl rfl) (pmk_oex (ds := []) (dvs := []) B.O B.i B.t Fe (hr.mono (by decide)) hbe .nil pass0 rfl B.g (pa_cons (pv 1) pa_nil)))) pss_nil)
      (pss_cons (ps_asg (pe_split (pv 1) pe_str) (pg_star rfl (pgs_cons (pg_name (i := 2) scRead.nd rfl (Or.inl rfl)) (pgs_cons (pg_name (i := 3) scRead.nd rfl (Or.inl rfl)) pgs_nil))))
      (pss_cons (ps_if (PW.pt (pw_or (pt_cmpR op_ne (pe_callB call_len_seq (by rfl) T.blen (by decide +kernel) (pa_cons (pv 3) pa_nil)) pe_int (nomark _)) (pw_or1 (pt_not (pt_val (C8.pe_c cIs hr (by decide) rfl (pa_cons (pe_ix ix_list (pv 3) pe_int (fun _ _ => rfl)) pa_nil))))))) (pss_one (ps_raise rfl (takes_of rfl rfl rfl rfl) (pmk_oex (ds := []) (dvs := []) B.O B.i B.t Fe (hr.mono (by decide)) hbe .nil pass0 rfl B.g (pa_cons (pv 1) pa_nil)))) pss_nil)
      (pss_cons (ps_if (pt_cmpR op_eq (pv 2) (ClX.pe_cval (C8.pe_gc (v := .ref CL) rfl ⟨_, ML.g, rfl⟩)) (nomark _)) (pss_one (ps_ret (pe_make (ds := []) (dvs := []) ML.mak I hr rfl ML.g hbi .nil passL (pa_cons (pe_ix ix_list (pv 3) pe_int (fun _ _ => rfl)) pa_nil)))) pss_nil)
      (pss_cons (ps_if (pt_cmpR op_eq (pv 2) (ClX.pe_cval (C8.pe_gc (v := .ref CA) rfl ⟨_, MA.g, rfl⟩)) (nomark _)) (pss_one (ps_ret (pe_make (ds := []) (dvs := []) MA.mak I hr rfl MA.g hbi .nil passL (pa_cons (pe_ix ix_list (pv 3) pe_int (fun _ _ => rfl)) pa_nil)))) pss_nil)
      (pss_cons (ps_if (pt_cmpR op_eq (pv 2) (ClX.pe_cval (C8.pe_gc (v := .ref CS) rfl ⟨_, MS.g, rfl⟩)) (nomark _)) (pss_one (ps_ret (pe_make (ds := []) (dvs := []) MS.mak I hr rfl MS.g hbi .nil passL (pa_cons (pe_ix ix_list (pv 3) pe_int (fun _ _ => rfl)) pa_nil)))) pss_nil)
      (pss_cons (ps_if (pt_cmpR op_eq (pv 2) (ClX.pe_cval (C8.pe_gc (v := .ref CF) rfl ⟨_, MF.g, rfl⟩)) (nomark _)) (pss_one (ps_ret (pe_make (ds := []) (dvs := []) MF.mak I hr rfl MF.g hbi .nil passL (pa_cons (pe_ix ix_list (pv 3) pe_int (fun _ _ => rfl)) pa_nil)))) pss_nil)
      (pss_one (ps_raise rfl (takes_of rfl rfl rfl rfl) (pmk_oex (ds := []) (dvs := []) B.O B.i B.t Fe (hr.mono (by decide)) hbe .nil pass0 rfl B.g (pa_cons (pv 1) pa_nil))))))))))), ?_⟩
    have hz : (∃ z, v = .str z ∧ z.length ≤ 1000 ∧ ((∃ wd n, Parse z wd n ∧ ∀ x dx H', Made ⟨CL, CA, CS, CF⟩ H x dx wd n H' → Q (.ref x) H') ∨ ((∀ wd n, ¬ Parse z wd n) ∧ ∀ d H', Told H d v H' → E (.ref CM) (some d) H'))) ∨ (NoStr K H v ∧ ∀ d H', Told H d v H' → E (.ref CM) (some d) H') := by
      rcases h with ⟨z, wd, n, e, hz, hp, q⟩ | ⟨⟨z, e, hz, hp⟩ | hs, q⟩
      · exact .inl ⟨z, e, hz, .inl ⟨wd, n, hp, q⟩⟩
      · exact .inl ⟨z, e, hz, .inr ⟨hp, q⟩⟩
      · exact .inr ⟨hs, q⟩
    rcases hz with ⟨z, rfl, hz, h⟩ | ⟨⟨t, ty, k⟩, q⟩
    · refine ⟨_, rfl, _, _, _, _, true, rfl, .ty "str", .base (.str z), kit_ty (by decide +kernel), true, rfl, iteF ?_⟩
      refine ⟨_, rfl, ⟨z, rfl⟩, z, _, rfl, rfl, by decide +kernel, Nat.le_trans (Nat.add_le_add_right hz 2) (by decide), fun p hp => ?_⟩
      have hpos := PyProof.Rows.split_pos z (Str.ofString " ")
      have hle := PyProof.Rows.split_le z (Str.ofString " ")
      have hsh : ∀ a, a ∈ Txt.split z (Str.ofString " ") → a.length ≤ 1000 := fun a ha => Nat.le_trans (PyProof.Rows.part_short ha) hz
      have s1 : Same H (upd H p (.lst ((Txt.split z (Str.ofString " ")).map V.str))) := Same.new hp
      obtain ⟨w0, rest, el⟩ : ∃ w0 rest, Txt.split z (Str.ofString " ") = w0 :: rest := by
        cases e : Txt.split z (Str.ofString " ") with
        | nil => rw [e] at hpos; cases hpos
        | cons a l => exact ⟨a, l, rfl⟩
      rw [el] at hle hsh s1
      rw [el]
      refine ⟨p, .str w0, rest.map V.str, rfl, SqL.of upd_same, ?_, fun D hD => ?_⟩
      · rw [List.length_map]
        simp only [List.length_cons] at hle
        omega
      have s2 : Same H (upd (upd H p (.lst ((w0 :: rest).map V.str))) D (.lst (rest.map V.str))) := s1.trans (Same.new hD)
      have bad : (∀ wd n, ¬ Parse z wd n) → ∀ d H', Told (upd (upd H p (.lst ((w0 :: rest).map V.str))) D (.lst (rest.map V.str))) d (.str z) H' → E (.ref CM) (some d) H' := fun hp d H' t => by
        rcases h with ⟨wd, n, h, _⟩ | ⟨_, q⟩
        · exact absurd h (hp wd n)
        · exact q d H' (t.old s2)
      refine ⟨_, _, rfl, _, _, rfl, rfl, _, rfl, D, _, rfl, .inl (SqL.of upd_same), rfl, _, rfl, ite2 (fun h1 => ?_) (fun h1 => ?_)⟩
      · have nl : rest.length ≠ 1 := fun e => by
          rw [List.length_map, e] at h1
          exact absurd h1 (by decide)
        refine ⟨_, rfl, mkO_of B.O B.v (bad fun wd n q => ?_)⟩
        have e := el.symm.trans q.1
        injection e with _ e
        rw [e] at nl
        exact nl rfl
      · obtain ⟨n, rfl⟩ : ∃ n, rest = [n] := by
          match rest, h1 with
          | [], h1 => exact absurd (by decide) h1
          | [n], h1 => exact ⟨n, rfl⟩
          | a :: b :: l, h1 =>
            refine absurd ?_ h1
            have n2 : ¬ (V.int ((List.map V.str (a :: b :: l)).length : Nat) = V.int 1) := fun e => by
              injection e with e
              rw [List.length_map] at e
              simp only [List.length_cons] at e
              omega
            rw [decide_eq_false n2]
            rfl
        have hln : n.length ≤ 1000 := hsh n (by simp)
        have good : isW w0 = true → nm n = true → ∀ x dx H', Made ⟨CL, CA, CS, CF⟩ (upd (upd H p (.lst ([w0, n].map V.str))) D (.lst ([n].map V.str))) x dx w0 n H' → Q (.ref x) H' := fun a b x dx H' t => by
          rcases h with ⟨wd, n', h, q⟩ | ⟨q, _⟩
          · have e := el.symm.trans h.1
            injection e with e1 e2
            injection e2 with e2
            rw [← e1, ← e2] at q
            exact q x dx H' (t.old s2)
          · exact absurd ⟨el, a, b⟩ (q w0 n)
        have badn : ¬ (isW w0 = true ∧ nm n = true) → ∀ wd n, ¬ Parse z wd n := fun h wd n' q => by
          have e := el.symm.trans q.1
          injection e with e1 e2
          injection e2 with e2
          rw [e1, e2] at h
          exact h q.2
        refine ⟨_, rfl, D, _, _, _, rfl, rfl, SqL.of upd_same, rfl, _, rfl, .inl ⟨n, rfl, hln, ?_⟩⟩
        cases hn : nm n with
        | false => exact ⟨_, rfl, iteT ⟨_, rfl, mkO_of B.O B.v (bad (badn fun q => by rw [hn] at q; cases q.2))⟩⟩
        | true =>
        refine ⟨_, rfl, iteF ?_⟩
        obtain ⟨mcL, uL, rL, vL⟩ := ML.rd
        refine ⟨_, rfl, _, mcL, _, uL, rfl, rL, vL, rfl, _, rfl, ite2 (fun h2 => ?_) (fun h2L => ?_)⟩
        · have e : w0 = Str.ofString "load" := by
            have e := of_decide_eq_true h2
            injection e
          refine ⟨_, rfl, D, _, _, _, rfl, rfl, SqL.of upd_same, rfl, made_of ML rfl hln hn fun y dy H' hm => ?_⟩
          rw [← e] at hm
          exact good (by rw [e]; decide +kernel) hn y dy H' hm
        obtain ⟨mcA, uA, rA, vA⟩ := MA.rd
        refine ⟨_, rfl, _, mcA, _, uA, rfl, rA, vA, rfl, _, rfl, ite2 (fun h2 => ?_) (fun h2A => ?_)⟩
        · have e : w0 = Str.ofString "again" := by
            have e := of_decide_eq_true h2
            injection e
          refine ⟨_, rfl, D, _, _, _, rfl, rfl, SqL.of upd_same, rfl, made_of MA rfl hln hn fun y dy H' hm => ?_⟩
          rw [← e] at hm
          exact good (by rw [e]; decide +kernel) hn y dy H' hm
        obtain ⟨mcS, uS, rS, vS⟩ := MS.rd
        refine ⟨_, rfl, _, mcS, _, uS, rfl, rS, vS, rfl, _, rfl, ite2 (fun h2 => ?_) (fun h2S => ?_)⟩
        · have e : w0 = Str.ofString "store" := by
            have e := of_decide_eq_true h2
            injection e
          refine ⟨_, rfl, D, _, _, _, rfl, rfl, SqL.of upd_same, rfl, made_of MS rfl hln hn fun y dy H' hm => ?_⟩
          rw [← e] at hm
          exact good (by rw [e]; decide +kernel) hn y dy H' hm
        obtain ⟨mcF, uF, rF, vF⟩ := MF.rd
        refine ⟨_, rfl, _, mcF, _, uF, rfl, rF, vF, rfl, _, rfl, ite2 (fun h2 => ?_) (fun h2F => ?_)⟩
        · have e : w0 = Str.ofString "forget" := by
            have e := of_decide_eq_true h2
            injection e
          refine ⟨_, rfl, D, _, _, _, rfl, rfl, SqL.of upd_same, rfl, made_of MF rfl hln hn fun y dy H' hm => ?_⟩
          rw [← e] at hm
          exact good (by rw [e]; decide +kernel) hn y dy H' hm
        have f : ∀ t : Str, ¬ decide (V.str w0 = V.str t) = true → decide (w0 = t) = false := fun t h => decide_eq_false fun e => h (decide_eq_true (by rw [e]))
        have hw : isW w0 = false := by
          unfold isW
          rw [f _ h2L, f _ h2A, f _ h2S, f _ h2F]
          rfl
        exact ⟨_, rfl, mkO_of B.O B.v (bad (badn fun q => by rw [hw] at q; cases q.1))⟩
    · refine ⟨_, rfl, _, _, _, _, false, rfl, .ty "str", ty, k, false, rfl, iteT ⟨_, rfl, mkO_of B.O B.v q⟩⟩
end
end K18

set_option Elab.async false
set_option linter.all false
set_option maxRecDepth 100000
set_option maxHeartbeats 4000000
namespace K18
open PySem L2 NX
abbrev sEqM : Stmt := inClass (top 10) 3
abbrev sStr : Stmt := inClass (top 10) 4
abbrev sMade : Stmt := top 21
abbrev sKin : Stmt := top 27
theorem scEqM : FnScope ["self", "other"] ["self", "other"] (defScope sEqM) := ⟨rfl, rfl, rfl, by decide +kernel, rfl, by decide +kernel, by decide +kernel⟩
theorem scStr : FnScope ["self"] ["self"] (defScope sStr) := ⟨rfl, rfl, rfl, by decide +kernel, rfl, by decide +kernel, by decide +kernel⟩
theorem scMade : FnScope ["_law_word", "_law_name_here"] ["_law_word", "_law_name_here"] (defScope sMade) := ⟨rfl, rfl, rfl, by decide +kernel, rfl, by decide +kernel, by decide +kernel⟩
theorem scKin : FnScope ["_law_move", "_law_found"] ["_law_move"] (defScope sKin) := ⟨rfl, rfl, rfl, by decide +kernel, rfl, by decide +kernel, by decide +kernel⟩
theorem tyOf_same {K : PySem.W.Frag} {H H' : Hp} {v : V} {t : Value} (s : Same H H') (h : TyOf K H v t) : TyOf K H' v t := by
  cases h with
  | non => exact .non
  | bl x => exact .bl x
  | int x => exact .int x
  | str x => exact .str x
  | flt x => exact .flt x
  | lst h => exact .lst (s _ _ h)
  | frz h => exact .frz (s _ _ h)
  | tup h => exact .tup (s _ _ h)
  | dK h => exact .dK (s _ _ h)
  | dT h => exact .dT (s _ _ h)
  | ins h a b c d e => exact .ins (s _ _ h) a b c d e
theorem tyX_same {K : PySem.W.Frag} {H H' : Hp} {v : V} {t : Value} (s : Same H H') (h : TyX K H v t) : TyX K H' v t := by
  cases h with
  | base h => exact .base (tyOf_same s h)
  | byt b => exact .byt b
  | set h => exact .set (s _ _ h)
  | kList a b => exact .kList a b
  | kTuple a b => exact .kTuple a b
  | kDict a b => exact .kDict a b
  | fTuple h => exact .fTuple (s _ _ h)
  | fDict h => exact .fDict (s _ _ h)
theorem NoStr.same {K : PySem.W.Frag} {H H' : Hp} {v : V} (s : Same H H') (h : NoStr K H v) : NoStr K H' v := by
  obtain ⟨t, a, b⟩ := h
  exact ⟨t, tyX_same s a, b⟩
theorem NoNm.same {K : PySem.W.Frag} {H H' : Hp} {v : V} (s : Same H H') (h : NoNm K H v) : NoNm K H' v := by
  rcases h with h | h
  · exact .inl h
  · exact .inr (NoStr.same s h)
theorem nm_len {n : Str} (h : nm n = true) : 1 ≤ n.length ∧ n.length ≤ 6 := by
  unfold nm at h
  rw [Bool.and_eq_true, Bool.and_eq_true, decide_eq_true_eq, decide_eq_true_eq] at h
  exact ⟨h.1, h.2.1⟩
theorem isW_cases {wd : Str} (h : isW wd = true) : wd = "load" ∨ wd = "again" ∨ wd = "store" ∨ wd = "forget" := by
  unfold isW at h
  rw [Bool.or_eq_true, Bool.or_eq_true, Bool.or_eq_true, decide_eq_true_eq, decide_eq_true_eq, decide_eq_true_eq, decide_eq_true_eq] at h
  exact h
theorem isW_len {wd : Str} (h : isW wd = true) : wd.length ≤ 6 := by
  rcases isW_cases h with e | e | e | e <;> subst e <;> decide +kernel
/-- what the classes of moves say of isinstance -/
structure KinC (K : PySem.W.Frag) (m : M4) (CMv CBr : Addr) (wd : Str) : Prop where
  mv : PySem.W.kitOne K (.ref (m.of wd)) (.ref CMv) = some true
  br : PySem.W.kitOne K (.ref (m.of wd)) (.ref CBr) = some (decide (wd = "load") || decide (wd = "again"))
  l : PySem.W.kitOne K (.ref (m.of wd)) (.ref m.l) = some (decide (wd = "load"))
  a : PySem.W.kitOne K (.ref (m.of wd)) (.ref m.a) = some (decide (wd = "again"))
  s : PySem.W.kitOne K (.ref (m.of wd)) (.ref m.s) = some (decide (wd = "store"))
  f : PySem.W.kitOne K (.ref (m.of wd)) (.ref m.f) = some (decide (wd = "forget"))
  cl : PySem.W.findIn K (.ref (m.of wd)) "__class__" = some (some (.builtin "object.__class__"))
  ob : PySem.W.mroIn K (m.of wd) (.type "object") = some true
structure KinK (K : PySem.W.Frag) (m : M4) (CMv CBr : Addr) : Prop where
  sp : PySem.W.specialIn K (.builtin "object.__class__") "__get__" = some (some (.builtin "getset_descriptor.__get__"))
  tk : PySem.W.takesIn K (.builtin "object.__class__") = some true
  all : ∀ wd, isW wd = true → KinC K m CMv CBr wd
/-- a move -/
def IsMove (m : M4) (H : Hp) (x : Addr) (wd n : Str) : Prop := ∃ dx, isW wd = true ∧ nm n = true ∧ H x = some (.ins (m.of wd) dx [("word", .str wd), ("name", .str n)])
theorem Made.is {m : M4} {H H' : Hp} {x dx : Addr} {wd n : Str} (h : Made m H x dx wd n H') (a : isW wd = true) (b : nm n = true) : IsMove m H' x wd n := ⟨dx, a, b, h.2.2⟩
theorem IsMove.same {m : M4} {H H' : Hp} {x : Addr} {wd n : Str} (s : Same H H') (h : IsMove m H x wd n) : IsMove m H' x wd n := by
  obtain ⟨dx, a, b, c⟩ := h
  exact ⟨dx, a, b, s _ _ c⟩
theorem Mvs.at_ {K : PySem.W.Frag} {mg : Str → Option Value} {fI : Addr} {m : M4} (M : Mvs K mg fI m) {wd : Str} (h : isW wd = true) : Cls K (m.of wd) ∧ NoAttr K (m.of wd) "word" ∧ NoAttr K (m.of wd) "name" := by
  rcases isW_cases h with e | e | e | e <;> subst e
  · exact ⟨M.L.cl, M.L.nw, M.L.nn⟩
  · exact ⟨M.A.cl, M.A.nw, M.A.nn⟩
  · exact ⟨M.S.cl, M.S.nw, M.S.nn⟩
  · exact ⟨M.F.cl, M.F.nw, M.F.nn⟩
theorem KinK.ty {K : PySem.W.Frag} {mg : Str → Option Value} {fI CMv CBr : Addr} {m : M4} (k : KinK K m CMv CBr) (M : Mvs K mg fI m) {H : Hp} {x : Addr} {wd n : Str} (h : IsMove m H x wd n) : TyX K H (.ref x) (.ref (m.of wd)) := by
  obtain ⟨dx, a, b, c⟩ := h
  exact .base (.ins c (M.at_ a).1 (k.all wd a).cl k.sp k.tk (k.all wd a).ob)
def tx (wd n : Str) : Str := Str.empty ++ wd ++ Str.ofString " " ++ n
def spStr (m : M4) : Sp := fun vs H Q _ => ∃ x wd n, vs = [.ref x] ∧ IsMove m H x wd n ∧ Q (.str (tx wd n)) H
def spEq (K : PySem.W.Frag) (m : M4) (CMv : Addr) : Sp := fun vs H Q _ => ∃ (x : Addr) (wd n : Str) (y : V), vs = [.ref x, y] ∧ IsMove m H x wd n ∧
  ((∃ x2 wd2 n2, y = .ref x2 ∧ IsMove m H x2 wd2 n2 ∧ Q (.bl (decide (wd = wd2) && decide (n = n2))) H) ∨ (∃ t, TyX K H y t ∧ PySem.W.kitOne K t (.ref CMv) = some false ∧ Q (.bl false) H))
def spMade (K : PySem.W.Frag) (m : M4) (CN : Addr) : Sp := fun vs H Q E => ∃ (wd : Str) (v : V), vs = [.str wd, v] ∧ isW wd = true ∧
  ((∃ z, IsNm K H v z ∧ ∀ x dx H', Made m H x dx wd z H' → Q (.ref x) H') ∨ (NoNm K H v ∧ ∀ d H', Told H d v H' → E (.ref CN) (some d) H'))
def kinOf (wd : Str) : List V := [.bl true, .bl (decide (wd = "load") || decide (wd = "again")), .bl (decide (wd = "load")), .bl (decide (wd = "again")), .bl (decide (wd = "store")), .bl (decide (wd = "forget"))]
def spKin (m : M4) : Sp := fun vs H Q _ => ∃ x wd n, vs = [.ref x] ∧ IsMove m H x wd n ∧ ∀ p H', H p = none → Same H H' → H' p = some (.lst (kinOf wd)) → Q (.ref p) H'
/-- making a move of what is no name -/
theorem bad_of {K : PySem.W.Frag} {mg : Str → Option Value} {fI CN : Addr} {x : Str} {C : Addr} {wd : Str} {v : V} {H : Hp} {Q : VK} {E : XK} (M : MoveC K mg fI x C wd) (hn : NoNm K H v)
    (q : ∀ d H', Told H d v H' → E (.ref CN) (some d) H') :
    ∀ y dy : Addr, H y = none → H dy = none → dy ≠ y → spInit K CN (.ref y :: ([v] ++ [])) (upd (upd H dy (.own y)) y (.ins C dy [])) (fun v H2 => v = .non ∧ Q (.ref y) H2) E := by
  intro y dy h1 h2 h3
  obtain ⟨u, hu⟩ := M.con
  have s : Same H (upd (upd H dy (.own y)) y (.ins C dy [])) := (Same.new h2).trans (Same.new (by rw [upd_ne (Ne.symm h3)]; exact h1))
  exact ⟨y, C, dy, wd, u, v, rfl, M.cl, hu, M.nw, M.nn, upd_same, .inr ⟨hn.same s, fun d H' t => q d H' (t.old s)⟩⟩
theorem passOf {X : Cx} {E : XK} (tk : Takes X (fun cls d _ H => E cls d H)) : Passes (CX X.prog X.w) X E := fun pins σ H s e s' I h => passAt tk σ pins H s e s' I h
section
variable {P : Program} {w : World} {K : PySem.W.Frag} {mg : Str → Option Value} {base : Heap}
theorem ok_str {fI : Addr} {m : M4} {f : Addr} {fd : FuncData} (F : Fun K "__str__" "Move.__str__" sStr f fd) (M : Mvs K mg fI m) : FnOk P w K mg base CX0 1 f fd ["self"] (spStr m) := by
  refine F.ok scStr (fun vs H Q E h => ?_) (fun cdv A outer s H vs Q E hr h => ?_)
  · obtain ⟨x, wd, n, rfl, _⟩ := h
    rfl
  · obtain ⟨x, wd, n, rfl, ⟨dx, hw, hn, hx⟩, q⟩ := h
    obtain ⟨c1, c2, c3⟩ := M.at_ hw
    have l1 := isW_len hw
    have l2 := nm_len hn
    refine ⟨_, (pss_one (ps_ret (pe_joined (.cons (pe_fmt (pe_fld (pv 0) rfl)) (.cons pe_str (.cons (pe_fmt (pe_fld (pv 0) rfl)) .nil)))))), ?_⟩
    have e0 : (Str.empty : Str).length = 0 := by decide +kernel
    have e1 : (Str.ofString " ").length = 1 := by decide +kernel
    have e2 : (100 : Nat) ≤ sizeLine := by decide
    refine ⟨_, rfl, x, _, dx, _, _, rfl, hx, c1, c2, rfl, .inl ⟨wd, rfl, by omega, wd, rfl, ?_, ?_⟩⟩
    · rw [Str.length_append]
      omega
    refine ⟨_, rfl, ?_, _, rfl, x, _, dx, _, _, rfl, hx, c1, c3, rfl, .inl ⟨n, rfl, by omega, n, rfl, ?_, q⟩⟩
    · rw [Str.length_append, Str.length_append]
      omega
    · rw [Str.length_append, Str.length_append, Str.length_append]
      omega
theorem ok_eq {fI CMv CBr : Addr} {m : M4} {f : Addr} {fd : FuncData} (F : Fun K "__eq__" "Move.__eq__" sEqM f fd) (T : TxtB mg) (M : Mvs K mg fI m) (k : KinK K m CMv CBr) (gMv : mg "Move" = some (.ref CMv)) : FnOk P w K mg base CX0 1 f fd ["self", "other"] (spEq K m CMv) := by
  refine F.ok scEqM (fun vs H Q E h => ?_) (fun cdv A outer s H vs Q E hr h => ?_)
  · obtain ⟨x, wd, n, y, rfl, _⟩ := h
    rfl
  · obtain ⟨x, wd, n, y, rfl, ⟨dx, hw, hn, hx⟩, h⟩ := h
    obtain ⟨c1, c2, c3⟩ := M.at_ hw
    refine ⟨_, (pss_one (ps_ret (pe_and (pe_callB call_isi (by rfl) T.bisinstance (by decide +kernel) (pa_cons (pv 1) (pa_cons (C8.pe_gc (v := .ref CMv) rfl ⟨_, gMv, rfl⟩) pa_nil))) (pe_and (pe_cmpR op_eq (pe_fld (pv 0) rfl) (pe_fld (pv 1) rfl) (nomark _)) (pe_one (pe_cmpR op_eq (pe_fld (pv 0) rfl) (pe_fld (pv 1) rfl) (nomark _))))))), ?_⟩
    rcases h with ⟨x2, wd2, n2, rfl, h2, q⟩ | ⟨t, ty, kt, q⟩
    · have ty := k.ty M h2
      obtain ⟨dx2, hw2, hn2, hx2⟩ := h2
      obtain ⟨d1, d2, d3⟩ := M.at_ hw2
      refine ⟨_, rfl, _, _, _, _, true, rfl, .own CMv, ty, (k.all wd2 hw2).mv, true, rfl, iteT ?_⟩
      have e : ∀ a b : Str, decide (V.str a = V.str b) = decide (a = b) := fun a b => by
        rw [Bool.eq_iff_iff, decide_eq_true_eq, decide_eq_true_eq]
        exact ⟨fun h => by injection h, fun h => by rw [h]⟩
      refine ⟨_, rfl, x, _, dx, _, _, rfl, hx, c1, c2, rfl, _, rfl, x2, _, dx2, _, _, rfl, hx2, d1, d2, rfl, rfl, _, rfl, ite2 (fun h1 => ?_) (fun h1 => ?_)⟩
      · refine ⟨_, rfl, x, _, dx, _, _, rfl, hx, c1, c3, rfl, _, rfl, x2, _, dx2, _, _, rfl, hx2, d1, d3, rfl, rfl, ?_⟩
        rw [e] at h1 ⊢
        rw [h1] at q
        exact q
      · rw [e] at h1
        rw [Bool.eq_false_iff.mpr h1] at q
        exact q
    · exact ⟨_, rfl, _, _, _, _, false, rfl, .own CMv, ty, kt, false, rfl, iteF q⟩
theorem ok_made {CN fI : Addr} {fdi : FuncData} {m : M4} {f : Addr} {fd : FuncData} (F : Fun K "_law_made" "_law_made" sMade f fd)
    (I : FnOk P w K mg base (CX P w) 3 fI fdi ["self", "name"] (spInit K CN)) (hbi : Binds K fdi ["self", "name"] []) (M : Mvs K mg fI m) : FnOk P w K mg base (CX P w) 5 f fd ["_law_word", "_law_name_here"] (spMade K m CN) := by
  obtain ⟨ML, MA, MS, MF⟩ := M
  obtain ⟨CL, CA, CS, CF⟩ := m
  refine F.okX scMade (fun vs H Q E h => ?_) (fun cdv A outer s H vs Q E hr h => ?_)
  · obtain ⟨wd, v, rfl, _⟩ := h
    rfl
  · obtain ⟨wd, v, rfl, hw, h⟩ := h
    refine ⟨_, (pss_cons (ps_if (pt_cmpR op_eq (pv 0) pe_str (nomark _)) (pss_one (ps_ret (pe_make (ds := []) (dvs := []) ML.mak I hr rfl ML.g hbi .nil (passOf (takes_of rfl rfl rfl rfl)) (pa_cons (pv 1) pa_nil)))) pss_nil)
      (pss_cons (ps_if (pt_cmpR op_eq (pv 0) pe_str (nomark _)) (pss_one (ps_ret (pe_make (ds := []) (dvs := []) MA.mak I hr rfl MA.g hbi .nil (passOf (takes_of rfl rfl rfl rfl)) (pa_cons (pv 1) pa_nil)))) pss_nil)
      (pss_one (ps_ret (pe_ifExp (pt_cmpR op_eq (pv 0) pe_str (nomark _)) (pe_make (ds := []) (dvs := []) MS.mak I hr rfl MS.g hbi .nil (passOf (takes_of rfl rfl rfl rfl)) (pa_cons (pv 1) pa_nil)) (pe_make (ds := []) (dvs := []) MF.mak I hr rfl MF.g hbi .nil (passOf (takes_of rfl rfl rfl rfl)) (pa_cons (pv 1) pa_nil))))))), ?_⟩
    have go : ∀ {x : Str} {C : Addr} (Mc : MoveC K mg fI x C wd), (M4.mk CL CA CS CF).of wd = C → ∀ y dy : Addr, H y = none → H dy = none → dy ≠ y → spInit K CN (.ref y :: ([v] ++ [])) (upd (upd H dy (.own y)) y (.ins C dy [])) (fun v H2 => v = .non ∧ Q (.ref y) H2) E := by
      intro x C Mc hC
      rcases h with ⟨z, ⟨rfl, h1, h2⟩, q⟩ | ⟨hn, q⟩
      · exact made_of Mc hC h1 h2 q
      · exact bad_of Mc hn q
    rcases isW_cases hw with e | e | e | e <;> subst e
    · exact ⟨_, rfl, rfl, _, rfl, iteT ⟨_, rfl, go ML rfl⟩⟩
    · exact ⟨_, rfl, rfl, _, rfl, iteF ⟨_, rfl, rfl, _, rfl, iteT ⟨_, rfl, go MA rfl⟩⟩⟩
    · exact ⟨_, rfl, rfl, _, rfl, iteF ⟨_, rfl, rfl, _, rfl, iteF ⟨_, rfl, rfl, _, rfl, iteT ⟨_, rfl, go MS rfl⟩⟩⟩⟩
    · exact ⟨_, rfl, rfl, _, rfl, iteF ⟨_, rfl, rfl, _, rfl, iteF ⟨_, rfl, rfl, _, rfl, iteF ⟨_, rfl, go MF rfl⟩⟩⟩⟩
theorem ok_kin {fI CMv CBr : Addr} {m : M4} {f : Addr} {fd : FuncData} (F : Fun K "_law_kin" "_law_kin" sKin f fd) (T : TxtB mg) (M : Mvs K mg fI m) (k : KinK K m CMv CBr) (gMv : mg "Move" = some (.ref CMv)) (gBr : mg "Bring" = some (.ref CBr)) : FnOk P w K mg base CX0 1 f fd ["_law_move"] (spKin m) := by
  have ML := M.L
  have MA := M.A
  have MS := M.S
  have MF := M.F
  refine F.ok scKin (fun vs H Q E h => ?_) (fun cdv A outer s H vs Q E hr h => ?_)
  · obtain ⟨x, wd, n, rfl, _⟩ := h
    rfl
  · obtain ⟨x, wd, n, rfl, hx, q⟩ := h
    have ty := k.ty M hx
    obtain ⟨dx, hw, hn, hx⟩ := hx
    have kk := k.all wd hw
    refine ⟨_, (pss_cons (ps_set (i := 1) scKin.nd rfl (Or.inl rfl) (pe_lst (pa_cons (pe_callB call_isi (by rfl) T.bisinstance (by decide +kernel) (pa_cons (pv 0) (pa_cons (C8.pe_gc (v := .ref CMv) rfl ⟨_, gMv, rfl⟩) pa_nil))) (pa_cons (pe_callB call_isi (by rfl) T.bisinstance (by decide +kernel) (pa_cons (pv 0) (pa_cons (C8.pe_gc (v := .ref CBr) rfl ⟨_, gBr, rfl⟩) pa_nil))) (pa_cons (pe_callB call_isi (by rfl) T.bisinstance (by decide +kernel) (pa_cons (pv 0) (pa_cons (C8.pe_gc (v := .ref m.l) rfl ⟨_, ML.g, rfl⟩) pa_nil))) (pa_cons (pe_callB call_isi (by rfl) T.bisinstance (by decide +kernel) (pa_cons (pv 0) (pa_cons (C8.pe_gc (v := .ref m.a) rfl ⟨_, MA.g, rfl⟩) pa_nil))) pa_nil))))))
      (pss_one (ps_ret (pe_op op_cat (pv 1) (pe_lst (pa_cons (pe_callB call_isi (by rfl) T.bisinstance (by decide +kernel) (pa_cons (pv 0) (pa_cons (C8.pe_gc (v := .ref m.s) rfl ⟨_, MS.g, rfl⟩) pa_nil))) (pa_cons (pe_callB call_isi (by rfl) T.bisinstance (by decide +kernel) (pa_cons (pv 0) (pa_cons (C8.pe_gc (v := .ref m.f) rfl ⟨_, MF.g, rfl⟩) pa_nil))) pa_nil))))))), ?_⟩
    refine ⟨_, rfl, _, _, _, _, _, rfl, .own CMv, ty, kk.mv, _, rfl, _, _, _, _, _, rfl, .own CBr, ty, kk.br, _, rfl, _, _, _, _, _, rfl, .own m.l, ty, kk.l, _, rfl, _, _, _, _, _, rfl, .own m.a, ty, kk.a, ?_⟩
    refine ⟨by show 4 ≤ sizeLine; decide, fun p hp => ?_⟩
    have s1 : Same H (upd H p (.lst [.bl true, .bl (decide (wd = "load") || decide (wd = "again")), .bl (decide (wd = "load")), .bl (decide (wd = "again"))])) := Same.new hp
    have ty1 := tyX_same s1 ty
    refine ⟨_, rfl, _, rfl, _, _, _, _, _, rfl, .own m.s, ty1, kk.s, _, rfl, _, _, _, _, _, rfl, .own m.f, ty1, kk.f, ?_⟩
    refine ⟨by show 2 ≤ sizeLine; decide, fun r hr' => ?_⟩
    have s2 := s1.trans (Same.new (o := .lst [.bl (decide (wd = "store")), .bl (decide (wd = "forget"))]) hr')
    have npr : p ≠ r := ne_of_none upd_same hr'
    refine ⟨p, r, _, _, rfl, rfl, (upd_ne npr).trans upd_same, upd_same, by show 6 ≤ sizeLine; decide, fun u hu => ?_⟩
    exact q u _ (sameNone s2 hu) (s2.trans (Same.new hu)) upd_same
end
end K18

set_option Elab.async false
set_option linter.all false
set_option maxRecDepth 100000
set_option maxHeartbeats 4000000
namespace K18
open PySem L2 NX
abbrev sName : Stmt := top 22
theorem scName : FnScope ["_law_pen_here", "_law_letters", "_law_fresh", "_law_go"] ["_law_pen_here"] (defScope sName) := ⟨rfl, rfl, rfl, by decide +kernel, rfl, by decide +kernel, by decide +kernel⟩
def spName : Sp := fun vs H Q _ => ∃ (p c : Addr) (ns : List Int) (at_ rest : Int), vs = [.ref p] ∧ Pen H p c ns at_ rest ∧ at_ ≤ 900000 ∧ ∀ n H', nm n = true → Drawn H p c ns (at_ + 8) H' → Q (.str n) H'
theorem But.put {p D : Addr} {H H1 H2 : Hp} {o : HO} (B2 : But p H H2) (B1 : But p H H1) (hD : H1 D = none) : But p H (upd H2 D o) := fun b u hb hn => by
  have n : b ≠ D := fun e => by
    have z := B1 b u hb hn
    rw [e, hD] at z
    cases z
  rw [upd_ne n]
  exact B2 b u hb hn
/-- one letter -/
def one (ch : Nat) : Str := ⟨#[ch]⟩
theorem joinL_ones : ∀ l : List Nat, TL.joinL [] (l.map fun c => [c]) = l
  | [] => rfl
  | [a] => rfl
  | a :: b :: r => by
    have e := joinL_ones (b :: r)
    show [a] ++ [] ++ TL.joinL [] ((b :: r).map fun c => [c]) = a :: b :: r
    rw [e]
    rfl
theorem join_ones (l : List Nat) : (Txt.join (Str.ofString "") (l.map one)).cps.toList = l := by
  have e := SX.join_S [] (l.map fun c => [c])
  rw [joinL_ones, List.map_map] at e
  have e2 : Txt.join (Str.ofString "") (l.map one) = SX.S l := e
  rw [e2]
theorem nm_join {l : List Nat} (h1 : 1 ≤ l.length) (h2 : l.length ≤ 6) (h : ∀ ch ∈ l, lett ch = true) : nm (Txt.join (Str.ofString "") (l.map one)) = true := by
  have e := join_ones l
  have el : (Txt.join (Str.ofString "") (l.map one)).length = l.length := by
    rw [← congrArg List.length e]
    show _ = (Array.toList _).length
    rw [Array.length_toList]
    rfl
  unfold nm
  rw [el, e, decide_eq_true h1, decide_eq_true h2, Bool.true_and, Bool.true_and, List.all_eq_true]
  exact h
section
variable {P : Program} {w : World} {K : PySem.W.Frag} {mg : Str → Option Value} {base : Heap}
theorem ok_name {f : Addr} {fd : FuncData} (F : Fun K "_law_name" "_law_name" sName f fd) (T : TxtB mg) (cDraw : C8.Cal P w K mg base 1 "_law_draw" spDraw []) (cPick : C8.Cal P w K mg base 2 "_law_pick" (spPick K) []) : FnOk P w K mg base CX0 3 f fd ["_law_pen_here"] spName := by
  refine F.ok scName (fun vs H Q E h => ?_) (fun cdv A outer s H vs Q E hr h => ?_)
  · obtain ⟨p, c, ns, a, r, rfl, _⟩ := h
    rfl
  · obtain ⟨p, c, ns, at_, rest, rfl, Pn, ha, k⟩ := h
    refine ⟨_, (pss_cons (ps_set (i := 1) scName.nd rfl (Or.inr rfl) pe_str)
      (pss_cons (ps_set (i := 2) scName.nd rfl (Or.inl rfl) (pe_join pe_str (pe_lc (own := [("_law_go", 3)]) (g := gName 3) rfl scName.nd (pi_range1 (by rfl) T.brange (pa_cons (pe_op op_add pe_int (C8.pe_c cDraw hr (by decide) rfl (pa_cons (pv 0) (pa_cons pe_int pa_nil)))) pa_nil)) (blkOk_by (own := [("_law_go", 3)]) (N := ["_law_pen_here", "_law_letters", "_law_fresh", "_law_go"]) (sc := defScope sName) (by decide +kernel)) (fun _ _ _ _ _ => (pg_name (i := 3) scName.nd rfl (Or.inl rfl))) (fun _ _ _ _ _ => pts_nil) (fun _ _ _ _ _ => (C8.pe_c cPick hr (by decide) rfl (pa_cons (pv 0) (pa_cons (pv 1) pa_nil)))))))
      (pss_one (ps_ret (C8.pe_c cPick hr (by decide) rfl (pa_cons (pv 0) (pa_cons (pe_lst (pa_cons pe_str (pa_cons pe_str (pa_cons pe_str (pa_cons pe_str (pa_cons pe_str (pa_cons pe_str (pa_cons pe_str (pa_cons pe_str (pa_cons (pv 2) (pa_cons (pv 2) pa_nil))))))))))) pa_nil))))))), ?_⟩
    refine ⟨⟨_, rfl⟩, _, rfl, p, c, ns, at_, rest, 6, rfl, Pn, by omega, by decide, by decide, fun d H1 d0 d1 hD => ?_⟩
    obtain ⟨dn, rfl⟩ := Int.eq_ofNat_of_zero_le d0
    have hd6 : dn < 6 := by omega
    obtain ⟨at1, rest1, P1, hat1, B1⟩ := hD
    refine ⟨1, (dn : Int), rfl, rfl, _, rfl, by omega, by omega, fun D hD => ?_⟩
    have nDc : c ≠ D := fun e => by rw [← e, P1.hc] at hD; cases hD
    have nDp : D ≠ p := fun e => by rw [e, P1.hp] at hD; cases hD
    refine lc_range (fun i H' => ∃ (at' rest' : Int) (l : List Nat), Pen H' p c ns at' rest' ∧ at' ≤ at_ + 1 + i ∧ But p H H' ∧ l.length = i ∧ (∀ ch ∈ l, lett ch = true) ∧ H' D = some (.lst (l.map fun ch => V.str (one ch)))) ?_ ?_ ?_
    · exact ⟨at1, rest1, [], P1.same (Same.new hD), by omega, B1.trans (But.new hD), rfl, by simp, upd_same⟩
    · intro i H' hi hP
      obtain ⟨at', rest', l, P', hat, B', hl, hch, hD'⟩ := hP
      have hi' : i < 7 := by omega
      have hi2 : (i : Int) < 7 := by omega
      refine ⟨rfl, ?_⟩
      unfold tYes
      dsimp only
      rw [if_pos rfl]
      refine ⟨_, rfl, _, rfl, p, c, ns, at', rest', _, rfl, P', by omega, .inr ⟨_, rfl, by decide +kernel, by decide +kernel, fun ch H2 hc hD2 => ?_⟩⟩
      obtain ⟨at2, rest2, P2, hat2, B2⟩ := hD2
      refine ⟨_, B2 D _ hD' nDp, ?_, at2, rest2, l ++ [ch], ⟨(upd_ne (Ne.symm nDp)).trans P2.hp, (upd_ne nDc).trans P2.hc, P2.la, P2.lr⟩, by omega, (B'.trans B2).put B1 hD, by rw [List.length_append, hl]; rfl, ?_, ?_⟩
      · rw [List.length_map, hl]
        exact Nat.lt_of_lt_of_le hi' (by decide)
      · intro x hx
        rcases List.mem_append.mp hx with hx | hx
        · exact hch x hx
        · rw [List.mem_singleton.mp hx]
          exact (letters_mem ch).mp hc
      · rw [upd_same, List.map_append]
        rfl
    · intro H' hP
      obtain ⟨at', rest', l, P', hat, B', hl, hch, hD'⟩ := hP
      have hl1 : l.length = 1 + dn := by omega
      have hsum : ((l.map one).map (·.length)).sum = l.length := by
        clear hD' hch hl hl1
        induction l with
        | nil => rfl
        | cons a r ih =>
          rw [List.map_cons, List.map_cons, List.sum_cons, ih, List.length_cons]
          show 1 + _ = _
          omega
      refine ⟨_, D, l.map one, rfl, rfl, .inl (SqL.of (by rw [hD', List.map_map]; rfl)), ?_, ?_⟩
      · rw [hsum, List.length_map]
        show l.length + l.length * 0 ≤ 16777216
        omega
      have hN := nm_join (by omega) (by omega) hch
      refine ⟨_, rfl, _, rfl, _, rfl, by show 10 ≤ sizeLine; decide, fun q hq => ?_⟩
      have nqp : q ≠ p := fun e => by rw [e, P'.hp] at hq; cases hq
      refine ⟨p, c, ns, at', rest', _, rfl, P'.same (Same.new hq), by omega, .inl ⟨q, _, rfl, SqL.of upd_same, nqp, by show 0 < 10; decide, by show 10 < 1000; decide, fun v H2 hv hD2 => ?_⟩⟩
      obtain ⟨at2, rest2, P2, hat2, B2⟩ := hD2
      have dr : Drawn H p c ns (at_ + 8) H2 := ⟨at2, rest2, P2, by omega, (B'.trans (But.new hq)).trans B2⟩
      simp only [List.mem_cons, List.not_mem_nil, or_false] at hv
      rcases hv with h | h | h | h | h | h | h | h | h | h <;> subst h
      all_goals first | exact k _ _ hN dr | exact k _ _ (by decide +kernel) dr
end
end K18

set_option Elab.async false
set_option linter.all false
set_option maxRecDepth 100000
set_option maxHeartbeats 4000000
namespace NX
open PySem L2
/-- a comprehension over the signs of a text -/
theorem lcTxt {z : Str} {tg : TG} {tst : TT} {el : TE} {own : List Nat} {σ₀ : L2.St} {Ha : Hp} {L : Addr} {Fin : Hp → Prop} (Iv : Nat → Hp → Prop) (start : Iv 0 (upd Ha L (.lst [])))
    (turn : ∀ j ch Hb, z.cps[j]? = some ch → Iv j Hb → tg (.str ⟨#[ch]⟩) (wipe σ₀ own) Hb fun τ Hc => wipe τ own = wipe σ₀ own ∧ tst τ Hc fun yes Hd =>
      if yes = true then el τ Hd fun v He => ∃ got, He L = some (.lst got) ∧ got.length < sizeLine ∧ Iv (j + 1) (upd He L (.lst (got ++ [v]))) else Iv (j + 1) Hd) (fin : ∀ Hb, Iv z.cps.size Hb → Fin Hb) :
    ∃ W : Nat → Nat → Hp → Prop, (∃ k, W 0 k (upd Ha L (.lst []))) ∧ ∀ j k Hb, W j k Hb →
      ((Its z).stop j Hb ∧ Fin Hb) ∨ ((Its z).go j Hb ∧ ∃ Nx : Hp → Prop, (∀ Hc, Nx Hc → ∃ k', k' < k ∧ W (j + 1) k' Hc) ∧ ∀ x Hc, (Its z).yld j Hb x Hc → tg x (wipe σ₀ own) Hc fun τ Hd => wipe τ own = wipe σ₀ own ∧ tst τ Hd fun yes He =>
        if yes = true then el τ He fun v Hf => ∃ got, Hf L = some (.lst got) ∧ got.length < sizeLine ∧ Nx (upd Hf L (.lst (got ++ [v]))) else Nx He) := by
  refine ⟨fun j k Hb => k + j = z.cps.size ∧ Iv j Hb, ⟨z.cps.size, rfl, start⟩, fun j k Hb ⟨e, iv⟩ => ?_⟩
  cases k with
  | zero =>
    have e' : j = z.cps.size := by omega
    subst e'
    exact .inl ⟨Nat.le_refl _, fin Hb iv⟩
  | succ k =>
    refine .inr ⟨by show j < z.cps.size; omega, Iv (j + 1), fun Hc q => ⟨k, Nat.lt_succ_self k, by omega, q⟩, fun x Hc y => ?_⟩
    obtain ⟨rfl, ch, hc, rfl⟩ := y
    exact turn j ch _ hc iv
end NX
namespace K18
open PySem L2 NX
abbrev sLIs : Stmt := top 24
theorem scLIs : FnScope ["_law_line", "_law_letters", "_law_sign"] ["_law_line"] (defScope sLIs) := ⟨rfl, rfl, rfl, by decide +kernel, rfl, by decide +kernel, by decide +kernel⟩
theorem strEqv (l : List Nat) : PyData.eqv (.list ((l.map one).map PyData.str)) (.list []) = l.isEmpty := by
  cases l with
  | nil => rfl
  | cons a r => rfl
theorem samePut {H H' : Hp} {D : Addr} {o : HO} (s : Same H H') (h : H D = none) : Same H (upd H' D o) := fun b u hb => by
  rw [upd_ne (ne_of_none hb h)]
  exact s b u hb
theorem layOnes : ∀ l : List Nat, (∀ ch ∈ l, ch < 256) → PyData.canLayAll0 ((l.map one).map PyData.str) = true
  | [], _ => rfl
  | a :: r, h => by
    rw [List.map_cons, List.map_cons, PyData.canLayAll0.eq_2, PyData.canLay0.eq_4, layOnes r (fun c hc => h c (List.mem_cons_of_mem _ hc)), Bool.and_true]
    have z := h a List.mem_cons_self
    show (#[a] : Array Nat).all (fun x => decide (x < 1114112)) = true
    rw [Array.all_eq_true]
    intro i hi
    have e : i = 0 := by simp at hi; exact hi
    subst e
    exact decide_eq_true (Nat.lt_trans z (by decide))
theorem depOnes : ∀ l : List Nat, PyData.depthAll ((l.map one).map PyData.str) = 0
  | [] => rfl
  | a :: r => by
    rw [List.map_cons, List.map_cons, PyData.depthAll.eq_2, depOnes r]
    rfl
theorem shapedOnes (l : List Nat) (h : ∀ ch ∈ l, ch < 256) : SeqAt.shaped (.list ((l.map one).map PyData.str)) = true := by
  unfold SeqAt.shaped
  rw [PyData.canLay0.eq_5, layOnes l h, PyData.depth.eq_def]
  show (true && decide (PyData.depthAll _ + 1 ≤ 64)) = true
  rw [depOnes]
  rfl
/-- signs of small codes -/
def okS (z : Str) : Prop := ∀ ch ∈ z.cps.toList, ch < 256
def spLIs : Sp := fun vs H Q _ => ∃ (z : Str), vs = [.str z] ∧ z.length ≤ 1000 ∧ okS z ∧ ∀ H', Same H H' → Q (.bl (nm z)) H'
section
variable {P : Program} {w : World} {K : PySem.W.Frag} {mg : Str → Option Value} {base : Heap}
theorem dpOnes {H : Hp} : ∀ l : List Nat, DpAll K H (l.map fun ch => V.str (one ch)) ((l.map one).map PyData.str)
  | [] => .nil
  | a :: r => .cons (.str _) (dpOnes r)
theorem ok_lis {f : Addr} {fd : FuncData} (F : Fun K "_law_is_name" "_law_is_name" sLIs f fd) (T : TxtB mg) : FnOk P w K mg base CX0 1 f fd ["_law_line"] spLIs := by
  refine F.ok scLIs (fun vs H Q E h => ?_) (fun cdv A outer s H vs Q E hr h => ?_)
  · obtain ⟨z, rfl, _⟩ := h
    rfl
  · obtain ⟨z, rfl, hz, ho, q⟩ := h
    refine ⟨_, (pss_cons (ps_set (i := 1) scLIs.nd rfl (Or.inr rfl) pe_str)
      (pss_one (ps_ret (pe_and (pe_chain op_le op_le pe_int (pe_callB call_len_str (by rfl) T.blen (by decide +kernel) (pa_cons (pv 0) pa_nil)) pe_int) (pe_one (pe_cmpR (op_eqD hr.units) (pe_lc (own := [("_law_sign", 2)]) (g := gName 2) rfl scLIs.nd (pi_str (pv 0)) (blkOk_by (own := [("_law_sign", 2)]) (N := ["_law_line", "_law_letters", "_law_sign"]) (sc := defScope sLIs) (by decide +kernel)) (fun _ _ _ _ _ => (pg_name (i := 2) scLIs.nd rfl (Or.inl rfl))) (fun _ _ _ _ _ => (pts_one (pt_cmpR op_notIn_sign (pv 2) (pv 1) rfl))) (fun _ _ _ _ _ => (pv 2))) (pe_lst pa_nil) (nomark _))))))), ?_⟩
    refine ⟨_, rfl, z, rfl, Nat.le_of_lt (small1000 hz), 1, _, rfl, rfl, _, rfl, ite2 (fun h1 => ?_) (fun h1 => ?_)⟩
    · refine ⟨_, 6, rfl, rfl, _, rfl, ite2 (fun h2 => ?_) (fun h2 => ?_)⟩
      · have e1 := of_decide_eq_true h1
        have e2 := of_decide_eq_true h2
        refine ⟨_, rfl, z, rfl, fun D hD => ?_⟩
        refine lcTxt (fun i H' => Same H H' ∧ ∃ l : List Nat, l = ((z.cps.toList.take i).filter fun ch => !lett ch) ∧ H' D = some (.lst (l.map fun ch => V.str (one ch)))) ?_ ?_ ?_
        · exact ⟨Same.new hD, [], rfl, upd_same⟩
        · intro i ch H' hc hP
          obtain ⟨s', l, hl, hD'⟩ := hP
          have hin : decide (ch ∈ (Str.ofString "abcdefghijklmnopqrstuvwxyz").cps.toList) = lett ch := by
            rw [Bool.eq_iff_iff, decide_eq_true_eq]
            exact letters_mem ch
          have ht : z.cps.toList.take (i + 1) = z.cps.toList.take i ++ [ch] := by
            rw [List.take_succ, Array.getElem?_toList, hc]
            rfl
          have hf : (z.cps.toList.take (i + 1)).filter (fun ch => !lett ch) = l ++ (if lett ch = true then [] else [ch]) := by
            rw [ht, List.filter_append, hl, List.filter_cons, List.filter_nil]
            cases lett ch <;> rfl
          refine ⟨rfl, _, rfl, _, rfl, ch, _, rfl, rfl, _, rfl, ?_⟩
          rw [hin]
          cases hlt : lett ch with
          | true =>
            refine iteF ⟨s', l, ?_, hD'⟩
            rw [hf, hlt]
            simp
          | false =>
            refine iteT ⟨_, rfl, _, hD', ?_, samePut s' hD, l ++ [ch], ?_, ?_⟩
            · rw [List.length_map, hl]
              refine Nat.lt_of_le_of_lt (List.length_filter_le _ _) (Nat.lt_of_le_of_lt (List.length_take_le' _ _) ?_)
              rw [Array.length_toList]
              exact Nat.lt_of_le_of_lt (show z.length ≤ 1000 from hz) (by decide)
            · rw [hf, hlt]
              simp
            · rw [upd_same, List.map_append]
              rfl
        · intro H' hP
          obtain ⟨s', l, hl, hD'⟩ := hP
          have hl : l = z.cps.toList.filter fun ch => !lett ch := by
            rw [hl, ← Array.length_toList, List.take_length]
          refine ⟨by show 0 ≤ sizeLine; decide, fun r hr2 => ?_⟩
          refine ⟨_, _, .lst (SqL.of (by rw [upd_ne (ne_of_none hD' hr2)]; exact hD')) (dpOnes l), .lst (SqL.of upd_same) .nil, shapedOnes l (fun c hc => ho c (List.mem_filter.mp (hl ▸ hc)).1), by decide +kernel, ?_⟩
          rw [strEqv]
          have e : l.isEmpty = nm z := by
            unfold nm
            rw [decide_eq_true (by omega : 1 ≤ z.length), decide_eq_true (by omega : z.length ≤ 6), hl, Bool.eq_iff_iff, List.isEmpty_iff, List.filter_eq_nil_iff, Bool.true_and, Bool.true_and, List.all_eq_true]
            simp
          rw [e]
          exact q _ (s'.trans (Same.new hr2))
      · have e : nm z = false := by
          have e1 : ¬ (z.length ≤ 6) := fun h => h2 (decide_eq_true (by omega))
          unfold nm; rw [decide_eq_false e1]; simp
        have q := q H (fun _ _ h => h)
        rw [e] at q
        exact q
    · have e1 : ¬ (1 ≤ z.length) := fun h => h1 (decide_eq_true (by omega))
      have e : nm z = false := by unfold nm; rw [decide_eq_false e1]; simp
      have q := q H (fun _ _ h => h)
      rw [e] at q
      exact ⟨false, rfl, iteF q⟩
end
end K18

set_option Elab.async false
set_option linter.all false
set_option maxRecDepth 100000
set_option maxHeartbeats 4000000
namespace K18
open PySem L2 NX
abbrev sOdd : Stmt := top 23
theorem scOdd : FnScope ["_law_pen_here", "_law_some"] ["_law_pen_here"] (defScope sOdd) := ⟨rfl, rfl, rfl, by decide +kernel, rfl, by decide +kernel, by decide +kernel⟩
/-- data whose text is short -/
def Sm (K : PySem.W.Frag) (H : Hp) (v : V) : Prop := ∃ d, Dr K H v d ∧ d.showable = true ∧ d.depth ≤ 3 ∧ d.shown.length ≤ 100000
def spOdd (K : PySem.W.Frag) : Sp := fun vs H Q _ => ∃ (p c : Addr) (ns : List Int) (at_ rest : Int), vs = [.ref p] ∧ Pen H p c ns at_ rest ∧ at_ ≤ 900000 ∧ ∀ v H', NoNm K H' v → Sm K H' v → Drawn H p c ns (at_ + 1) H' → Q v H'
def oddA (a1 a2 a3 : Addr) : List V := [.non, .bl true, .int 0, .int 7, .str "", .str "A", .str "a1", .str "a b", .str " a", .str "a ", .str "abcdefg", .str "a-", .str "load a", .ref a1, .ref a2, .ref a3, .str "a\n"]
def oddB (a5 : Addr) : List V := [.int (10 ^ 50), .str "_", .str "Z", .ref a5]
section
variable {P : Program} {w : World} {K : PySem.W.Frag} {mg : Str → Option Value} {base : Heap}
theorem ok_odd {f : Addr} {fd : FuncData} (F : Fun K "_law_odd" "_law_odd" sOdd f fd) (T : TxtB mg) (cPick : C8.Cal P w K mg base 2 "_law_pick" (spPick K) []) : FnOk P w K mg base CX0 3 f fd ["_law_pen_here"] (spOdd K) := by
  refine F.ok scOdd (fun vs H Q E h => ?_) (fun cdv A outer s H vs Q E hr h => ?_)
  · obtain ⟨p, c, ns, a, r, rfl, _⟩ := h
    rfl
  · obtain ⟨p, c, ns, at_, rest, rfl, Pn, ha, k⟩ := h
    refine ⟨_, (pss_cons (ps_set (i := 1) scOdd.nd rfl (Or.inl rfl) (pe_lst (pa_cons pe_non (pa_cons pe_bl (pa_cons pe_int (pa_cons pe_int (pa_cons pe_str (pa_cons pe_str (pa_cons pe_str (pa_cons pe_str (pa_cons pe_str (pa_cons pe_str (pa_cons pe_str (pa_cons pe_str (pa_cons pe_str (pa_cons (pe_lst (pa_cons pe_str pa_nil)) (pa_cons (pe_tup (pa_cons pe_str pa_nil)) (pa_cons pe_dnewK (pa_cons pe_str pa_nil)))))))))))))))))))
      (pss_one (ps_ret (C8.pe_c cPick hr (by decide) rfl (pa_cons (pv 0) (pa_cons (pe_op op_cat (pv 1) (pe_lst (pa_cons (pe_op op_pow pe_int pe_int) (pa_cons pe_str (pa_cons pe_str (pa_cons (pe_disp (pps_cons pe_str pe_int pps_nil) rfl rfl (by intro h; cases h) (by decide)) pa_nil)))))) pa_nil)))))), ?_⟩
    refine ⟨by decide, fun a1 h1 => ⟨by decide, fun a2 h2 => fun a3 h3 => ?_⟩⟩
    refine ⟨by show 17 ≤ sizeLine; decide, fun a4 h4 => ?_⟩
    have s3 : Same H (upd (upd (upd H a1 (.lst [.str "a"])) a2 (.tup [.str "a"])) a3 (.dK [])) := ((Same.new h1).trans (Same.new h2)).trans (Same.new h3)
    have g1 : (upd (upd (upd H a1 (.lst [.str "a"])) a2 (.tup [.str "a"])) a3 (.dK [])) a1 = some (.lst [.str "a"]) := by
      rw [upd_ne (ne_of_none (by rw [upd_ne (ne_of_none upd_same h2)]; exact upd_same) h3), upd_ne (ne_of_none upd_same h2)]
      exact upd_same
    have g2 : (upd (upd (upd H a1 (.lst [.str "a"])) a2 (.tup [.str "a"])) a3 (.dK [])) a2 = some (.tup [.str "a"]) := by
      rw [upd_ne (ne_of_none upd_same h3)]
      exact upd_same
    have g3 : (upd (upd (upd H a1 (.lst [.str "a"])) a2 (.tup [.str "a"])) a3 (.dK [])) a3 = some (.dK []) := upd_same
    generalize (upd (upd (upd H a1 (.lst [.str "a"])) a2 (.tup [.str "a"])) a3 (.dK [])) = G at *
    have eA : oddA a1 a2 a3 = [V.non, V.bl true, V.int 0, V.int 7, V.str (Str.ofString ""), V.str (Str.ofString "A"), V.str (Str.ofString "a1"), V.str (Str.ofString "a b"), V.str (Str.ofString " a"), V.str (Str.ofString "a "), V.str (Str.ofString "abcdefg"), V.str (Str.ofString "a-"), V.str (Str.ofString "load a"), V.ref a1, V.ref a2, V.ref a3, V.str (Str.ofString "a\n")] := rfl
    rw [← eA]
    have s4 : Same H (upd G a4 (.lst (oddA a1 a2 a3))) := s3.trans (Same.new h4)
    have k1 := (upd_ne (o := .lst (oddA a1 a2 a3)) (ne_of_none g1 h4)).trans g1
    have k2 := (upd_ne (o := .lst (oddA a1 a2 a3)) (ne_of_none g2 h4)).trans g2
    have k3 := (upd_ne (o := .lst (oddA a1 a2 a3)) (ne_of_none g3 h4)).trans g3
    have k4 : (upd G a4 (.lst (oddA a1 a2 a3))) a4 = some (.lst (oddA a1 a2 a3)) := upd_same
    generalize (upd G a4 (.lst (oddA a1 a2 a3))) = G4 at *
    refine ⟨_, rfl, _, rfl, 10, 50, rfl, rfl, ⟨by decide, by decide, by decide⟩, fun a5 h5 => ?_⟩
    refine ⟨upd_same, [(.inr "a", .int 1)], rfl, by decide, ?_⟩
    have em : mergeK [] [(Sum.inr (Str.ofString "a"), V.int 1)] = [((Sum.inr (Str.ofString "a") : Key), V.int 1)] := rfl
    rw [em]
    have s5 : Same H (upd (upd G4 a5 (.dK [])) a5 (.dK [(.inr "a", .int 1)])) := samePut (s4.trans (Same.new h5)) (sameNone s4 h5)
    have put : ∀ {b : Addr} {o : HO}, G4 b = some o → (upd (upd G4 a5 (.dK [])) a5 (.dK [(.inr "a", .int 1)])) b = some o := fun {b o} hb => by
      rw [upd_ne (ne_of_none hb h5), upd_ne (ne_of_none hb h5)]
      exact hb
    have m1 := put k1
    have m2 := put k2
    have m3 := put k3
    have m4 := put k4
    have m5 : (upd (upd G4 a5 (.dK [])) a5 (.dK [(.inr "a", .int 1)])) a5 = some (.dK [(.inr "a", .int 1)]) := upd_same
    clear put
    generalize (upd (upd G4 a5 (.dK [])) a5 (.dK [(.inr "a", .int 1)])) = G5 at *
    refine ⟨by show 4 ≤ sizeLine; decide, fun a6 h6 => ?_⟩
    refine ⟨a4, a6, oddA a1 a2 a3, oddB a5, rfl, rfl, (upd_ne (ne_of_none m4 h6)).trans m4, upd_same, by show 21 ≤ sizeLine; decide, fun a7 h7 => ?_⟩
    have s7 : Same G5 (upd (upd G5 a6 (.lst (oddB a5))) a7 (.lst (oddA a1 a2 a3 ++ oddB a5))) := (Same.new h6).trans (Same.new h7)
    have n7 : a7 ≠ p := fun e => by
      rw [e, upd_ne (ne_of_none (s5 _ _ Pn.hp) h6), s5 _ _ Pn.hp] at h7
      cases h7
    refine ⟨p, c, ns, at_, rest, .ref a7, rfl, Pn.same (s5.trans s7), by omega, .inl ⟨a7, _, rfl, SqL.of upd_same, n7, by show 0 < 21; decide, by show 21 < 1000; decide, fun v H2 hv hD => ?_⟩⟩
    have B : But p G5 H2 := (But.same s7).trans (by obtain ⟨_, _, _, _, B⟩ := hD; exact B)
    have dr : Drawn H p c ns (at_ + 1) H2 := by
      obtain ⟨x, y, P2, l2, B2⟩ := hD
      exact ⟨x, y, P2, l2, (But.same (s5.trans s7)).trans B2⟩
    have np : ∀ {b : Addr} {o : HO}, G5 b = some o → o ≠ .lst [.ref c, .int at_, .int rest] → H2 b = some o := fun {b o} hb hn => B b o hb fun e => by
      rw [e, s5 _ _ Pn.hp] at hb
      injection hb with hb
      exact hn hb.symm
    have q1 := np m1 (by intro h; injection h with h; injection h with h; cases h)
    have q2 := np m2 (by intro h; cases h)
    have q3 := np m3 (by intro h; cases h)
    have q5 := np m5 (by intro h; cases h)
    have hv : v ∈ oddA a1 a2 a3 ++ oddB a5 := hv
    unfold oddA oddB at hv
    simp only [List.mem_append, List.mem_cons, List.not_mem_nil, or_false] at hv
    have str : ∀ z : Str, nm z = false → z.length ≤ 1000 → (PyData.str z).showable = true → (PyData.str z).depth ≤ 3 → (PyData.str z).shown.length ≤ 100000 → Q (.str z) H2 := fun z h1 h2 h3 h4 h5 => k _ _ (.inl ⟨z, rfl, h2, h1⟩) ⟨_, .str z, h3, h4, h5⟩ dr
    have oth : ∀ (v : V) (t : String) (d : PyData), TyX K H2 v (.type t) → PySem.W.kitOne K (.type t) (.type "str") = some false → Dr K H2 v d → d.showable = true → d.depth ≤ 3 → d.shown.length ≤ 100000 → Q v H2 := fun v t d h1 h2 h3 h4 h5 h6 => k _ _ (.inr ⟨_, h1, h2⟩) ⟨d, h3, h4, h5, h6⟩ dr
    rcases hv with (h | h | h | h | h | h | h | h | h | h | h | h | h | h | h | h | h) | h | h | h | h <;> subst h
    · exact oth _ _ _ (.base .non) (kit_ty (by decide +kernel)) .non (by decide +kernel) (by decide +kernel) (by decide +kernel)
    · exact oth _ _ _ (.base (.bl _)) (kit_ty (by decide +kernel)) (.bl _) (by decide +kernel) (by decide +kernel) (by decide +kernel)
    · exact oth _ _ _ (.base (.int _)) (kit_ty (by decide +kernel)) (.int _) (by decide +kernel) (by decide +kernel) (by decide +kernel)
    · exact oth _ _ _ (.base (.int _)) (kit_ty (by decide +kernel)) (.int _) (by decide +kernel) (by decide +kernel) (by decide +kernel)
    · exact str _ (by decide +kernel) (by decide +kernel) (by decide +kernel) (by decide +kernel) (by decide +kernel)
    · exact str _ (by decide +kernel) (by decide +kernel) (by decide +kernel) (by decide +kernel) (by decide +kernel)
    · exact str _ (by decide +kernel) (by decide +kernel) (by decide +kernel) (by decide +kernel) (by decide +kernel)
    · exact str _ (by decide +kernel) (by decide +kernel) (by decide +kernel) (by decide +kernel) (by decide +kernel)
    · exact str _ (by decide +kernel) (by decide +kernel) (by decide +kernel) (by decide +kernel) (by decide +kernel)
    · exact str _ (by decide +kernel) (by decide +kernel) (by decide +kernel) (by decide +kernel) (by decide +kernel)
    · exact str _ (by decide +kernel) (by decide +kernel) (by decide +kernel) (by decide +kernel) (by decide +kernel)
    · exact str _ (by decide +kernel) (by decide +kernel) (by decide +kernel) (by decide +kernel) (by decide +kernel)
    · exact str _ (by decide +kernel) (by decide +kernel) (by decide +kernel) (by decide +kernel) (by decide +kernel)
    · exact oth _ _ (.list [.str "a"]) (.base (.lst q1)) (kit_ty (by decide +kernel)) (.lst (SqL.of q1) (.cons (.str _) .nil)) (by decide +kernel) (by decide +kernel) (by decide +kernel)
    · exact oth _ _ (.tuple [.str "a"]) (.base (.tup q2)) (kit_ty (by decide +kernel)) (.tup (SqT.of q2) (.cons (.str _) .nil)) (by decide +kernel) (by decide +kernel) (by decide +kernel)
    · exact oth _ _ (.dict []) (.base (.dK q3)) (kit_ty (by decide +kernel)) (.dct (ds := []) q3 .nil) (by decide +kernel) (by decide +kernel) (by decide +kernel)
    · exact str _ (by decide +kernel) (by decide +kernel) (by decide +kernel) (by decide +kernel) (by decide +kernel)
    · exact oth _ _ _ (.base (.int _)) (kit_ty (by decide +kernel)) (.int _) (by decide +kernel) (by decide +kernel) (by decide +kernel)
    · exact str _ (by decide +kernel) (by decide +kernel) (by decide +kernel) (by decide +kernel) (by decide +kernel)
    · exact str _ (by decide +kernel) (by decide +kernel) (by decide +kernel) (by decide +kernel) (by decide +kernel)
    · exact oth _ _ (.dict [(.str "a", .int 1)]) (.base (.dK q5)) (kit_ty (by decide +kernel)) (.dct (ds := [.int 1]) q5 (.cons (.int _) .nil)) (by decide +kernel) (by decide +kernel) (by decide +kernel)
end
end K18

set_option Elab.async false
set_option linter.all false
set_option maxRecDepth 100000
set_option maxHeartbeats 4000000
namespace K18
open PySem L2 NX
abbrev sBent : Stmt := top 25
theorem scBent : FnScope ["_law_pen_here", "_law_line", "_law_words", "_law_way"] ["_law_pen_here", "_law_line"] (defScope sBent) := ⟨rfl, rfl, rfl, by decide +kernel, rfl, by decide +kernel, by decide +kernel⟩
/-- a short text of signs of small codes -/
def okL (z : Str) (k : Nat) : Prop := okS z ∧ z.length ≤ k
theorem cps_append (a b : Str) : (a ++ b).cps.toList = a.cps.toList ++ b.cps.toList := by
  show (a.cps ++ b.cps).toList = _
  rw [Array.toList_append]
theorem okL.append {a b : Str} {i j : Nat} (ha : okL a i) (hb : okL b j) : okL (a ++ b) (i + j) := by
  refine ⟨fun ch h => ?_, by rw [Str.length_append]; have := ha.2; have := hb.2; omega⟩
  rw [cps_append, List.mem_append] at h
  rcases h with h | h
  · exact ha.1 ch h
  · exact hb.1 ch h
theorem okL.mono {a : Str} {i j : Nat} (ha : okL a i) (h : i ≤ j) : okL a j := ⟨ha.1, Nat.le_trans ha.2 h⟩
theorem okL_nm {n : Str} (h : nm n = true) : okL n 6 := by
  refine ⟨fun ch hc => ?_, (nm_len h).2⟩
  unfold nm at h
  rw [Bool.and_eq_true, Bool.and_eq_true, List.all_eq_true] at h
  have z := h.2.2 ch hc
  unfold lett at z
  rw [Bool.and_eq_true, decide_eq_true_eq, decide_eq_true_eq] at z
  omega
theorem okL_w {wd : Str} (h : isW wd = true) : okL wd 6 := by
  refine ⟨?_, isW_len h⟩
  rcases isW_cases h with e | e | e | e <;> subst e <;> (unfold okS; decide +kernel)
theorem okL_c {z : Str} {k : Nat} (h : (z.cps.toList.all (fun ch => decide (ch < 256)) && decide (z.length ≤ k)) = true) : okL z k := by
  rw [Bool.and_eq_true, List.all_eq_true, decide_eq_true_eq] at h
  exact ⟨fun ch hc => of_decide_eq_true (h.1 ch hc), h.2⟩
theorem empty_append (a : Str) : Str.empty ++ a = a := by
  obtain ⟨x⟩ := a
  show Str.mk (#[] ++ x) = _
  rw [Array.empty_append]
theorem tx_eq (wd n : Str) : tx wd n = wd ++ Str.ofString " " ++ n := by
  unfold tx
  rw [empty_append]
theorem tx_join (wd n : Str) : Txt.join (Str.ofString " ") [wd, n] = tx wd n := by
  rw [TL.join_eq, tx_eq]
  rfl
theorem okL_tx {wd n : Str} (h1 : isW wd = true) (h2 : nm n = true) : okL (tx wd n) 13 := by
  rw [tx_eq]
  exact ((okL_w h1).append (okL_c (k := 1) (by decide +kernel))).append (okL_nm h2)
theorem split_tx {wd n : Str} (h1 : isW wd = true) (h2 : nm n = true) : Txt.split (tx wd n) (Str.ofString " ") = [wd, n] := by
  rw [← tx_join]
  refine TL.split_join (s := 32) (S := []) (by decide +kernel) (by decide +kernel) (by simp) ?_
  intro p hp
  simp only [List.mem_cons, List.not_mem_nil, or_false] at hp
  rcases hp with e | e <;> subst e
  · rcases isW_cases h1 with e | e | e | e <;> subst e <;> decide +kernel
  · intro h
    unfold nm at h2
    rw [Bool.and_eq_true, Bool.and_eq_true, List.all_eq_true] at h2
    have z := h2.2.2 32 h
    revert z
    decide +kernel
def Thing (K : PySem.W.Frag) (H : Hp) (v : V) : Prop := Sm K H v ∧ ((∃ z, v = .str z ∧ z.length ≤ 1000 ∧ okS z) ∨ NoStr K H v)
theorem Thing.str {K : PySem.W.Frag} {H : Hp} {z : Str} {k : Nat} (h : okL z k) (hk : k ≤ 100) : Thing K H (.str z) := by
  have l := h.2
  refine ⟨⟨.str z, .str z, rfl, by show (0 : Nat) ≤ 3; decide, ?_⟩, .inl ⟨z, rfl, by omega, h.1⟩⟩
  rw [PyData.shown.eq_def]
  have r := PySem.StrLaws.reprText_len z (fun c hc => Nat.lt_trans (h.1 c hc) (by decide))
  exact Nat.le_trans r (by omega)
def spBent (K : PySem.W.Frag) : Sp := fun vs H Q _ => ∃ (p c : Addr) (ns : List Int) (at_ rest : Int) (wd n : Str), vs = [.ref p, .str (tx wd n)] ∧ isW wd = true ∧ nm n = true ∧ Pen H p c ns at_ rest ∧ at_ ≤ 900000 ∧ ∀ v H', Thing K H' v → Drawn H p c ns (at_ + 2) H' → Q v H'
def AllS (xs : List V) : Prop := ∀ v ∈ xs, ∃ s, v = .str s ∧ okL s 20
theorem allN : AllS [] := fun v h => by cases h
theorem allC {s : Str} {xs : List V} (h : okL s 20) (t : AllS xs) : AllS (.str s :: xs) := fun v hv => by
  rcases List.mem_cons.mp hv with e | hv
  · exact ⟨s, e, h⟩
  · exact t v hv
theorem allK {s : Str} {xs : List V} (t : AllS xs) (h : (s.cps.toList.all (fun ch => decide (ch < 256)) && decide (s.length ≤ 20)) = true := by decide +kernel) : AllS (.str s :: xs) := allC (okL_c h) t
theorem repL {z : Str} {k : Nat} (h : okL z k) (hk : k ≤ 100) : (reprText z).length ≤ 1002 := by
  have l := h.2
  have r := PySem.StrLaws.reprText_len z (fun c hc => Nat.lt_trans (h.1 c hc) (by decide))
  omega
theorem shownL {z : Str} {k : Nat} (h : okL z k) (hk : k ≤ 100 := by decide) : (PyData.list [.str z]).shown.length ≤ 100000 := by
  have r := repL h hk
  rw [PyData.shown.eq_def]
  show (listText [reprText z]).length ≤ 100000
  have l := listText_len_le [reprText z]
  simp only [List.map_cons, List.map_nil, List.sum_cons, List.sum_nil, List.length_cons, List.length_nil] at l
  omega
theorem shownT1 {z : Str} {k : Nat} (h : okL z k) (hk : k ≤ 100 := by decide) : (PyData.tuple [.str z]).shown.length ≤ 100000 := by
  have r := repL h hk
  rw [PyData.shown.eq_def]
  show (Str.ofString "(" ++ reprText z ++ Str.ofString ",)").length ≤ 100000
  rw [Str.length_append, Str.length_append]
  have a : (Str.ofString "(").length = 1 := by decide +kernel
  have b : (Str.ofString ",)").length = 2 := by decide +kernel
  omega
theorem shownT2 {y z : Str} {k j : Nat} (h : okL y k) (h' : okL z j) (hk : k ≤ 100 := by decide) (hj : j ≤ 100 := by decide) : (PyData.tuple [.str y, .str z]).shown.length ≤ 100000 := by
  have r := repL h hk
  have r' := repL h' hj
  rw [PyData.shown.eq_def]
  show (Str.ofString "(" ++ (reprText y ++ Str.ofString ", " ++ reprText z) ++ Str.ofString ")").length ≤ 100000
  repeat rw [Str.length_append]
  have a : (Str.ofString "(").length = 1 := by decide +kernel
  have b : (Str.ofString ", ").length = 2 := by decide +kernel
  have c : (Str.ofString ")").length = 1 := by decide +kernel
  omega
theorem okL.fit {a b : Str} {i j : Nat} (ha : okL a i) (hb : okL b j) (h : i + j ≤ 1000 := by decide) : a.length + b.length ≤ sizeLine := by
  have := ha.2
  have := hb.2
  exact Nat.le_trans (by omega : a.length + b.length ≤ 1000) (by decide)
section
variable {P : Program} {w : World} {K : PySem.W.Frag} {mg : Str → Option Value} {base : Heap}
theorem ok_bent {f : Addr} {fd : FuncData} (F : Fun K "_law_bent" "_law_bent" sBent f fd) (T : TxtB mg) (cDraw : C8.Cal P w K mg base 1 "_law_draw" spDraw []) (cPick : C8.Cal P w K mg base 2 "_law_pick" (spPick K) []) : FnOk P w K mg base CX0 3 f fd ["_law_pen_here", "_law_line"] (spBent K) := by
  refine F.ok scBent (fun vs H Q E h => ?_) (fun cdv A outer s H vs Q E hr h => ?_)
  · obtain ⟨p, c, ns, a, r, wd, n, rfl, _⟩ := h
    rfl
  · obtain ⟨p, c, ns, at_, rest, wd, n, rfl, hw, hn, Pn, ha, k⟩ := h
    refine ⟨_, (pss_cons (ps_par (i := 2) (j := 3) (by rfl) scBent.nd rfl rfl (by decide) rfl rfl (pa_cons (pe_split (pv 1) pe_str) (pa_cons (C8.pe_c cDraw hr (by decide) rfl (pa_cons (pv 0) (pa_cons pe_int pa_nil))) pa_nil)) (by rfl))
      (pss_cons (ps_if (pt_cmpR op_eq (pv 3) pe_int (nomark _)) (pss_one (ps_ret (C8.pe_c cPick hr (by decide) rfl (pa_cons (pv 0) (pa_cons (pe_lst (pa_cons pe_non (pa_cons pe_int (pa_cons pe_bl (pa_cons (pe_lst (pa_cons (pv 1) pa_nil)) (pa_cons (pe_tup (pa_cons (pv 1) pa_nil)) (pa_cons (pe_callTy call_tuple_of (by rfl) T.btuple (by decide +kernel) (pa_cons (pv 2) pa_nil)) (pa_cons pe_dnewK (pa_cons pe_str (pa_cons pe_str (pa_cons pe_str pa_nil))))))))))) pa_nil))))) pss_nil)
      (pss_cons (ps_if (pt_cmpR op_eq (pv 3) pe_int (nomark _)) (pss_one (ps_ret (pe_ix ix_list (pv 2) (C8.pe_c cDraw hr (by decide) rfl (pa_cons (pv 0) (pa_cons pe_int pa_nil))) (fun _ _ => rfl)))) pss_nil)
      (pss_cons (ps_if (pt_cmpR op_eq (pv 3) pe_int (nomark _)) (pss_one (ps_ret (pe_op op_add_str (pv 1) (C8.pe_c cPick hr (by decide) rfl (pa_cons (pv 0) (pa_cons (pe_lst (pa_cons pe_str (pa_cons pe_str (pa_cons pe_str (pa_cons pe_str (pa_cons (pe_op op_add_str pe_str (pe_ix ix_list (pv 2) pe_int (fun _ _ => rfl))) (pa_cons pe_str pa_nil))))))) pa_nil)))))) pss_nil)
      (pss_cons (ps_if (pt_cmpR op_eq (pv 3) pe_int (nomark _)) (pss_one (ps_ret (pe_op op_add_str (C8.pe_c cPick hr (by decide) rfl (pa_cons (pv 0) (pa_cons (pe_lst (pa_cons pe_str (pa_cons pe_str (pa_cons pe_str (pa_cons pe_str pa_nil))))) pa_nil))) (pv 1)))) pss_nil)
      (pss_cons (ps_if (pt_cmpR op_eq (pv 3) pe_int (nomark _)) (pss_one (ps_ret (pe_op op_add_str (pe_op op_add_str (pe_ix ix_list (pv 2) pe_int (fun _ _ => rfl)) pe_str) (pe_ix ix_list (pv 2) pe_int (fun _ _ => rfl))))) pss_nil)
      (pss_cons (ps_if (pt_cmpR op_eq (pv 3) pe_int (nomark _)) (pss_one (ps_ret (pe_op op_add_str (pe_op op_add_str (pe_ix ix_list (pv 2) pe_int (fun _ _ => rfl)) pe_str) (pe_ix ix_list (pv 2) pe_int (fun _ _ => rfl))))) pss_nil)
      (pss_cons (ps_if (pt_cmpR op_eq (pv 3) pe_int (nomark _)) (pss_one (ps_ret (pe_op op_add_str (pe_op op_add_str (C8.pe_c cPick hr (by decide) rfl (pa_cons (pv 0) (pa_cons (pe_lst (pa_cons pe_str (pa_cons pe_str (pa_cons pe_str (pa_cons pe_str (pa_cons pe_str (pa_cons pe_str pa_nil))))))) pa_nil))) pe_str) (pe_ix ix_list (pv 2) pe_int (fun _ _ => rfl))))) pss_nil)
      (pss_cons (ps_if (pt_cmpR op_eq (pv 3) pe_int (nomark _)) (pss_one (ps_ret (pe_op op_add_str (pe_op op_add_str (pe_ix ix_list (pv 2) pe_int (fun _ _ => rfl)) pe_str) (C8.pe_c cPick hr (by decide) rfl (pa_cons (pv 0) (pa_cons (pe_lst (pa_cons pe_str (pa_cons pe_str (pa_cons pe_str (pa_cons pe_str (pa_cons pe_str pa_nil)))))) pa_nil)))))) pss_nil)
      (pss_cons (ps_if (pt_cmpR op_eq (pv 3) pe_int (nomark _)) (pss_one (ps_ret (pe_op op_add_str (pe_ix ix_list (pv 2) pe_int (fun _ _ => rfl)) (pe_ix ix_list (pv 2) pe_int (fun _ _ => rfl))))) pss_nil)
      (pss_one (ps_ret (pe_op op_add_str (pe_op op_add_str (C8.pe_c cPick hr (by decide) rfl (pa_cons (pv 0) (pa_cons (pe_lst (pa_cons pe_str (pa_cons pe_str (pa_cons pe_str (pa_cons pe_str pa_nil))))) pa_nil))) pe_str) (pe_ix ix_list (pv 2) pe_int (fun _ _ => rfl))))))))))))))), ?_⟩
    have hl := okL_tx hw hn
    have hs : (100 : Nat) ≤ sizeLine := by decide
    refine ⟨_, rfl, ⟨_, rfl⟩, _, _, rfl, rfl, by decide +kernel, by have := hl.2; omega, fun D hD => ?_⟩
    rw [split_tx hw hn]
    have nDp : D ≠ p := fun e => by rw [e, Pn.hp] at hD; cases hD
    refine ⟨_, rfl, p, c, ns, at_, rest, 10, rfl, Pn.same (Same.new hD), by omega, by decide, by decide, fun d H1 d0 d1 hD1 => ?_⟩
    have hW : H1 D = some (.lst [.str wd, .str n]) := by
      obtain ⟨_, _, _, _, B⟩ := hD1
      exact B D _ upd_same nDp
    have dr1 : Drawn H p c ns (at_ + 1) H1 := by
      obtain ⟨x, y, P2, l2, B2⟩ := hD1
      exact ⟨x, y, P2, l2, (But.same (Same.new hD)).trans B2⟩
    clear hD1
    obtain ⟨at1, rest1, P1, hat1, B1⟩ := dr1
    refine ⟨_, _, rfl, ?_⟩
    have dr : ∀ {H2}, Drawn H1 p c ns (at1 + 1) H2 → Drawn H p c ns (at_ + 2) H2 := fun {H2} h => by
      obtain ⟨x, y, P2, l2, B2⟩ := h
      exact ⟨x, y, P2, by omega, B1.trans B2⟩
    have dr0 : Drawn H p c ns (at_ + 2) H1 := ⟨at1, rest1, P1, by omega, B1⟩
    have hW2 : ∀ {H2}, Drawn H1 p c ns (at1 + 1) H2 → H2 D = some (.lst [.str wd, .str n]) := fun {H2} h => by
      obtain ⟨_, _, _, _, B2⟩ := h
      exact B2 D _ hW nDp
    have drN : ∀ {q : Addr} {o : HO} {H2}, H1 q = none → Drawn (upd H1 q o) p c ns (at1 + 1) H2 → Drawn H1 p c ns (at1 + 1) H2 := fun {q o H2} hq h => by
      obtain ⟨x, y, P2, l2, B2⟩ := h
      exact ⟨x, y, P2, l2, (But.same (Same.new hq)).trans B2⟩
    have pick : ∀ (xs : List V) (Q' : VK), AllS xs → 0 < xs.length → xs.length < 1000 → (∀ s H2, okL s 20 → Drawn H p c ns (at_ + 2) H2 → H2 D = some (.lst [.str wd, .str n]) → Q' (.str s) H2) → ∀ q, H1 q = none → spPick K [.ref p, .ref q] (upd H1 q (.lst xs)) Q' C8.E0 := by
      intro xs Q' hx h0 h1 kk q hq
      have nqp : q ≠ p := fun e => by rw [e, P1.hp] at hq; cases hq
      refine ⟨p, c, ns, at1, rest1, _, rfl, P1.same (Same.new hq), by omega, .inl ⟨q, xs, rfl, SqL.of upd_same, nqp, h0, h1, fun v H2 hv hD => ?_⟩⟩
      obtain ⟨s, rfl, hs⟩ := hx v hv
      have hD := drN hq hD
      exact kk s H2 hs (dr hD) (hW2 hD)
    have o1 := okL_w hw
    have o2 := okL_nm hn
    have sp2 : okL (Str.ofString "  ") 2 := okL_c (by decide +kernel)
    have sp1 : okL (Str.ofString " ") 1 := okL_c (by decide +kernel)
    refine ⟨_, rfl, rfl, _, rfl, ite2 (fun h0 => ?_) (fun h0 => ?_)⟩
    · refine ⟨_, rfl, _, rfl, by show 1 ≤ sizeLine; decide, fun a1 h1 => ⟨_, rfl, by show 1 ≤ sizeLine; decide, fun a2 h2 => ⟨_, rfl, D, _, rfl, .inl ⟨SqL.of ((upd_ne (ne_of_none ((upd_ne (ne_of_none hW h1)).trans hW) h2)).trans ((upd_ne (ne_of_none hW h1)).trans hW)), fun a3 h3 => fun a4 h4 => ?_⟩⟩⟩⟩
      have s4 : Same H1 (upd (upd (upd (upd H1 a1 (.lst [.str (tx wd n)])) a2 (.tup [.str (tx wd n)])) a3 (.tup [.str wd, .str n])) a4 (.dK [])) := (((Same.new h1).trans (Same.new h2)).trans (Same.new h3)).trans (Same.new h4)
      have g1 : (upd (upd (upd (upd H1 a1 (.lst [.str (tx wd n)])) a2 (.tup [.str (tx wd n)])) a3 (.tup [.str wd, .str n])) a4 (.dK [])) a1 = some (.lst [.str (tx wd n)]) := ((Same.new h2).trans ((Same.new h3).trans (Same.new h4))) _ _ upd_same
      have g2 : (upd (upd (upd (upd H1 a1 (.lst [.str (tx wd n)])) a2 (.tup [.str (tx wd n)])) a3 (.tup [.str wd, .str n])) a4 (.dK [])) a2 = some (.tup [.str (tx wd n)]) := ((Same.new h3).trans (Same.new h4)) _ _ upd_same
      have g3 : (upd (upd (upd (upd H1 a1 (.lst [.str (tx wd n)])) a2 (.tup [.str (tx wd n)])) a3 (.tup [.str wd, .str n])) a4 (.dK [])) a3 = some (.tup [.str wd, .str n]) := (Same.new h4) _ _ upd_same
      have g4 : (upd (upd (upd (upd H1 a1 (.lst [.str (tx wd n)])) a2 (.tup [.str (tx wd n)])) a3 (.tup [.str wd, .str n])) a4 (.dK [])) a4 = some (.dK []) := upd_same
      clear h2 h3 h4
      show _ ∧ _
      generalize (upd (upd (upd (upd H1 a1 (.lst [.str (tx wd n)])) a2 (.tup [.str (tx wd n)])) a3 (.tup [.str wd, .str n])) a4 (.dK [])) = G at *
      refine ⟨by show 10 ≤ sizeLine; decide, fun a5 h5 => ?_⟩
      have n5 : a5 ≠ p := fun e => by rw [e, s4 _ _ P1.hp] at h5; cases h5
      refine ⟨p, c, ns, at1, rest1, _, rfl, P1.same (s4.trans (Same.new h5)), by omega, .inl ⟨a5, _, rfl, SqL.of upd_same, n5, by show 0 < 10; decide, by show 10 < 1000; decide, fun v H2 hv hD => ?_⟩⟩
      have hD1 : Drawn H1 p c ns (at1 + 1) H2 := by
        obtain ⟨x, y, P2, l2, B2⟩ := hD
        exact ⟨x, y, P2, l2, (But.same (s4.trans (Same.new h5))).trans B2⟩
      have B : But p G H2 := (But.same (Same.new h5)).trans (by obtain ⟨_, _, _, _, B⟩ := hD; exact B)
      have d2 := dr hD1
      have np : ∀ {b : Addr} {o : HO}, G b = some o → o ≠ .lst [.ref c, .int at1, .int rest1] → H2 b = some o := fun {b o} hb hn => B b o hb fun e => by
        rw [e, s4 _ _ P1.hp] at hb
        injection hb with hb
        exact hn hb.symm
      have q1 := np g1 (by intro h; injection h with h; injection h with h; cases h)
      have q2 := np g2 (by intro h; cases h)
      have q3 := np g3 (by intro h; cases h)
      have q4 := np g4 (by intro h; cases h)
      simp only [List.mem_cons, List.not_mem_nil, or_false] at hv
      have oth : ∀ (v : V) (t : String) (d : PyData), TyX K H2 v (.type t) → PySem.W.kitOne K (.type t) (.type "str") = some false → Dr K H2 v d → d.showable = true → d.depth ≤ 3 → d.shown.length ≤ 100000 → Q v H2 := fun v t d h1 h2 h3 h4 h5 h6 => k _ _ ⟨⟨d, h3, h4, h5, h6⟩, .inr ⟨_, h1, h2⟩⟩ d2
      rcases hv with h | h | h | h | h | h | h | h | h | h <;> subst h
      · exact oth _ _ _ (.base .non) (kit_ty (by decide +kernel)) .non (by decide +kernel) (by decide +kernel) (by decide +kernel)
      · exact oth _ _ _ (.base (.int _)) (kit_ty (by decide +kernel)) (.int _) (by decide +kernel) (by decide +kernel) (by decide +kernel)
      · exact oth _ _ _ (.base (.bl _)) (kit_ty (by decide +kernel)) (.bl _) (by decide +kernel) (by decide +kernel) (by decide +kernel)
      · exact oth _ _ (.list [.str (tx wd n)]) (.base (.lst q1)) (kit_ty (by decide +kernel)) (.lst (SqL.of q1) (.cons (.str _) .nil)) rfl (by show (1 : Nat) ≤ 3; decide) (shownL hl)
      · exact oth _ _ (.tuple [.str (tx wd n)]) (.base (.tup q2)) (kit_ty (by decide +kernel)) (.tup (SqT.of q2) (.cons (.str _) .nil)) rfl (by show (1 : Nat) ≤ 3; decide) (shownT1 hl)
      · exact oth _ _ (.tuple [.str wd, .str n]) (.base (.tup q3)) (kit_ty (by decide +kernel)) (.tup (SqT.of q3) (.cons (.str _) (.cons (.str _) .nil))) rfl (by show (1 : Nat) ≤ 3; decide) (shownT2 o1 o2)
      · exact oth _ _ (.dict []) (.base (.dK q4)) (kit_ty (by decide +kernel)) (.dct (ds := []) q4 .nil) (by decide +kernel) (by decide +kernel) (by decide +kernel)
      · exact k _ _ (Thing.str (k := 20) (okL_c (by decide +kernel)) (by decide)) d2
      · exact k _ _ (Thing.str (k := 20) (okL_c (by decide +kernel)) (by decide)) d2
      · exact k _ _ (Thing.str (k := 20) (okL_c (by decide +kernel)) (by decide)) d2
    refine ⟨_, rfl, rfl, _, rfl, ite2 (fun h1 => ?_) (fun h1 => ?_)⟩
    · refine ⟨_, rfl, _, rfl, p, c, ns, at1, rest1, 2, rfl, P1, by omega, by decide, by decide, fun e H2 e0 e1 hD2 => ?_⟩
      rcases (by omega : e = 0 ∨ e = 1) with rfl | rfl
      · exact ⟨D, _, _, _, rfl, rfl, SqL.of (hW2 hD2), rfl, k _ _ (Thing.str o1 (by decide)) (dr hD2)⟩
      · exact ⟨D, _, _, _, rfl, rfl, SqL.of (hW2 hD2), rfl, k _ _ (Thing.str o2 (by decide)) (dr hD2)⟩
    refine ⟨_, rfl, rfl, _, rfl, ite2 (fun h2 => ?_) (fun h2 => ?_)⟩
    · refine ⟨_, rfl, _, rfl, _, rfl, D, _, _, _, rfl, rfl, SqL.of hW, rfl, _, _, rfl, rfl, sp1.fit o2, by show 6 ≤ sizeLine; decide, pick _ _ (allK (allK (allK (allK (allC ((sp1.append o2).mono (by decide)) (allK allN)))))) (by show 0 < 6; decide) (by show 6 < 1000; decide) fun s H2 hs d2 w2 => ⟨_, _, rfl, rfl, hl.fit hs, k _ _ (Thing.str (hl.append hs) (by decide)) d2⟩⟩
    refine ⟨_, rfl, rfl, _, rfl, ite2 (fun h3 => ?_) (fun h3 => ?_)⟩
    · refine ⟨_, rfl, by show 4 ≤ sizeLine; decide, pick _ _ (allK (allK (allK (allK allN)))) (by show 0 < 4; decide) (by show 4 < 1000; decide) fun s H2 hs d2 w2 => ⟨_, rfl, _, _, rfl, rfl, hs.fit hl, k _ _ (Thing.str (hs.append hl) (by decide)) d2⟩⟩
    refine ⟨_, rfl, rfl, _, rfl, ite2 (fun h4 => ?_) (fun h4 => ?_)⟩
    · refine ⟨_, rfl, D, _, _, _, rfl, rfl, SqL.of hW, rfl, _, _, rfl, rfl, o1.fit sp2, _, rfl, D, _, _, _, rfl, rfl, SqL.of hW, rfl, _, _, rfl, rfl, (o1.append sp2).fit o2, k _ _ (Thing.str ((o1.append sp2).append o2) (by decide)) dr0⟩
    refine ⟨_, rfl, rfl, _, rfl, ite2 (fun h5 => ?_) (fun h5 => ?_)⟩
    · refine ⟨_, rfl, D, _, _, _, rfl, rfl, SqL.of hW, rfl, _, _, rfl, rfl, o2.fit sp1, _, rfl, D, _, _, _, rfl, rfl, SqL.of hW, rfl, _, _, rfl, rfl, (o2.append sp1).fit o1, k _ _ (Thing.str ((o2.append sp1).append o1) (by decide)) dr0⟩
    refine ⟨_, rfl, rfl, _, rfl, ite2 (fun h6 => ?_) (fun h6 => ?_)⟩
    · refine ⟨_, rfl, by show 6 ≤ sizeLine; decide, pick _ _ (allK (allK (allK (allK (allK (allK allN)))))) (by show 0 < 6; decide) (by show 6 < 1000; decide) fun s H2 hs d2 w2 => ⟨_, _, rfl, rfl, hs.fit sp1, _, rfl, D, _, _, _, rfl, rfl, SqL.of w2, rfl, _, _, rfl, rfl, (hs.append sp1).fit o2, k _ _ (Thing.str ((hs.append sp1).append o2) (by decide)) d2⟩⟩
    refine ⟨_, rfl, rfl, _, rfl, ite2 (fun h7 => ?_) (fun h7 => ?_)⟩
    · refine ⟨_, rfl, D, _, _, _, rfl, rfl, SqL.of hW, rfl, _, _, rfl, rfl, o1.fit sp1, _, rfl, by show 5 ≤ sizeLine; decide, pick _ _ (allK (allK (allK (allK (allK allN))))) (by show 0 < 5; decide) (by show 5 < 1000; decide) fun s H2 hs d2 w2 => ⟨_, _, rfl, rfl, (o1.append sp1).fit hs, k _ _ (Thing.str ((o1.append sp1).append hs) (by decide)) d2⟩⟩
    refine ⟨_, rfl, rfl, _, rfl, ite2 (fun h8 => ?_) (fun h8 => ?_)⟩
    · refine ⟨_, rfl, D, _, _, _, rfl, rfl, SqL.of hW, rfl, _, rfl, D, _, _, _, rfl, rfl, SqL.of hW, rfl, _, _, rfl, rfl, o1.fit o2, k _ _ (Thing.str (o1.append o2) (by decide)) dr0⟩
    · refine ⟨_, rfl, by show 4 ≤ sizeLine; decide, pick _ _ (allK (allK (allK (allK allN)))) (by show 0 < 4; decide) (by show 4 < 1000; decide) fun s H2 hs d2 w2 => ⟨_, _, rfl, rfl, hs.fit sp1, _, rfl, D, _, _, _, rfl, rfl, SqL.of w2, rfl, _, _, rfl, rfl, (hs.append sp1).fit o2, k _ _ (Thing.str ((hs.append sp1).append o2) (by decide)) d2⟩⟩
end
end K18

set_option Elab.async false
set_option linter.all false
set_option maxRecDepth 100000
set_option maxHeartbeats 4000000
namespace K18
open PySem L2 NX LamX
abbrev sHeard : Stmt := top 20
theorem scHeard : FnScope ["_law_ask", "_law_caught", "error"] ["_law_ask"] (defScope sHeard) := ⟨rfl, rfl, rfl, by decide +kernel, rfl, by decide +kernel, by decide +kernel⟩
/-- the two errors of ours: what the written part says of them -/
structure ErrK (K : PySem.W.Frag) (mg : Str → Option Value) (CS CM CN : Addr) : Prop where
  gS : mg "StowError" = some (.ref CS)
  gM : mg "BadMove" = some (.ref CM)
  gN : mg "BadName" = some (.ref CN)
  eM : PySem.W.exmOne K (.ref CM) (.ref CS) = some true
  eN : PySem.W.exmOne K (.ref CN) (.ref CS) = some true
  cM : ExcC K CM
  cN : ExcC K CN
  xM : XfC K CM
  xN : XfC K CN
  vM : PySem.W.findIn K (.ref CM) "value" = some none
  vN : PySem.W.findIn K (.ref CN) "value" = some none
  mm : PySem.W.kitOne K (.ref CM) (.ref CM) = some true
  mn : PySem.W.kitOne K (.ref CM) (.ref CN) = some false
  mv : PySem.W.kitOne K (.ref CM) (.type "ValueError") = some true
  nm_ : PySem.W.kitOne K (.ref CN) (.ref CM) = some false
  nn : PySem.W.kitOne K (.ref CN) (.ref CN) = some true
  nv : PySem.W.kitOne K (.ref CN) (.type "ValueError") = some true
/-- what _law_heard makes of what it asks -/
def THeard (CM CN : Addr) : (XK → Hp → VK → Prop) → Hp → VK → Prop := fun tl H Q =>
  tl (fun cls d H' => ∃ (C dd : Addr) (v : V) (wd : Str), cls = .ref C ∧ d = some dd ∧ H' dd = some (.xd [("value", v)]) ∧ ((C = CM ∧ wd = "move") ∨ (C = CN ∧ wd = "name")) ∧ ∀ p H'', Same H' H'' → H' p = none → H'' p = some (.tup [.str wd, v]) → Q (.ref p) H'') H
    (fun v H1 => [v].length ≤ sizeLine ∧ ∀ p, H1 p = none → Q (.ref p) (upd H1 p (.lst [v])))
section
variable {X : Cx}
theorem takesLen {X : Cx} {W : WX} (h : Takes X W) : Takes X (fun cls d σ H => σ.length = X.N.length → W cls d σ H) := fun u s' ⟨a, B, sI, pins, σ, H, cls, d, e1, I, e2, e3, e4, e5, e6, e7, w⟩ => h u s' ⟨a, B, sI, pins, σ, H, cls, d, e1, I, e2, e3, e4, e5, e6, e7, w I.len⟩
theorem heard_gives {q : Str} {g CS CM CN : Addr} {cdg : Value} (T : TxtB X.mg) (E : ErrK X.K X.mg CS CM CN) :
    GivesTo X ["_law_ask", "_law_caught", "error"] "_law_heard" (defScope sHeard) g cdg (defBody sHeard) "_law_ask" q (THeard CM CN) := by
  intro f c' s H Q tl act hc h
  refine ⟨_, (pss_cons (ps_set (i := 1) scHeard.nd rfl (Or.inl rfl) pe_non)
      (pss_cons (ps_try_keep (X := (cxOf C8.CX0 X.prog X.w X.K X.mg X.base ["_law_ask", "_law_caught", "error"] "_law_heard" (defScope sHeard) g cdg X.A X.stack s H C8.E0).nox) (c := .ref CS) (i := 2)
      (tb := fun W D σ H => ∃ Ech : XK, (∀ cls d σ' H', Ech cls d H' → σ'.length = 3 → W cls d σ' H') ∧ σ[0]? = some (some (.ref f)) ∧ H c' = some (CodeO c' q) ∧ tl Ech H fun v H1 => [v].length ≤ sizeLine ∧ ∀ p, H1 p = none → D.rt (.ref p) (upd H1 p (.lst [v])))
      rfl rfl scHeard.nd rfl rfl rfl ⟨rfl, by decide, .inl E.gS⟩ L2.takes0 (fun W pn xe tk _ => ?_) (fun a oe cls d pn _ _ => pss_one (ps_set (i := 1) scHeard.nd rfl (Or.inl rfl) (pv 2))))
      (pss_cons (ps_if (PW.pt (pw_and (pt_val (pe_callB (CallR.or call_isKept call_isi) (by rfl) T.bisinstance (by decide +kernel) (pa_cons (pv 1) (pa_cons (C8.pe_gc (v := .ref CM) rfl ⟨_, E.gM, rfl⟩) pa_nil)))) (pw_and (pt_val (pe_callB (CallR.or call_isKept call_isi) (by rfl) T.bisinstance (by decide +kernel) (pa_cons (pv 1) (pa_cons (pe_bltn (v := .ty "ValueError") (by rfl) T.bVE (by decide +kernel) rfl) pa_nil)))) (pw_and1 (pt_not (pt_val (pe_callB (CallR.or call_isKept call_isi) (by rfl) T.bisinstance (by decide +kernel) (pa_cons (pv 1) (pa_cons (C8.pe_gc (v := .ref CN) rfl ⟨_, E.gN, rfl⟩) pa_nil))))))))) (pss_one (ps_ret (pe_tup (pa_cons pe_str (pa_cons (pe_kept (pv 1)) pa_nil))))) pss_nil)
      (pss_cons (ps_if (PW.pt (pw_and (pt_val (pe_callB (CallR.or call_isKept call_isi) (by rfl) T.bisinstance (by decide +kernel) (pa_cons (pv 1) (pa_cons (C8.pe_gc (v := .ref CN) rfl ⟨_, E.gN, rfl⟩) pa_nil)))) (pw_and (pt_val (pe_callB (CallR.or call_isKept call_isi) (by rfl) T.bisinstance (by decide +kernel) (pa_cons (pv 1) (pa_cons (pe_bltn (v := .ty "ValueError") (by rfl) T.bVE (by decide +kernel) rfl) pa_nil)))) (pw_and1 (pt_not (pt_val (pe_callB (CallR.or call_isKept call_isi) (by rfl) T.bisinstance (by decide +kernel) (pa_cons (pv 1) (pa_cons (C8.pe_gc (v := .ref CM) rfl ⟨_, E.gM, rfl⟩) pa_nil))))))))) (pss_one (ps_ret (pe_tup (pa_cons pe_str (pa_cons (pe_kept (pv 1)) pa_nil))))) pss_nil)
      (pss_one (ps_ret (pe_tup (pa_cons pe_str (pa_cons pe_non pa_nil))))))))), ?_⟩
  · refine ⟨fun pins s' σ H' D I h' => ?_⟩
    obtain ⟨Ech, hW, h1, h2, h3⟩ := h'
    exact (pss_one (ps_ret (pe_lst (pa_cons (act (fun cls d σ H => σ.length = 3 → W cls d σ H) pn xe Ech _ _ (takesLen tk) hW) pa_nil)))).run pins s' σ H' D I ⟨h1, h2, h3⟩
  · refine ⟨fun cls d H' => ∃ (C dd : Addr) (v : V) (wd : Str), cls = .ref C ∧ d = some dd ∧ H' dd = some (.xd [("value", v)]) ∧ ((C = CM ∧ wd = "move") ∨ (C = CN ∧ wd = "name")) ∧ ∀ p H'', Same H' H'' → H' p = none → H'' p = some (.tup [.str wd, v]) → Q (.ref p) H'', fun cls d σ' H' hx hlen => ?_, rfl, hc, h⟩
    obtain ⟨C, dd, v, wd, rfl, rfl, hdd, hC, k⟩ := hx
    match σ', hlen with
    | [x0, x1, x2], _ =>
    refine ⟨true, ?_, (fun h => by cases h), fun _ a ha => ?_⟩
    · rcases hC with ⟨rfl, _⟩ | ⟨rfl, _⟩
      · exact E.eM
      · exact E.eN
    · have hd' : upd H' a (Kept a (.ref C) (some dd)) dd = some (.xd [("value", v)]) := (upd_ne (ne_of_none hdd ha)).trans hdd
      refine ⟨_, rfl, ?_⟩
      rcases hC with ⟨rfl, rfl⟩ | ⟨rfl, rfl⟩
      · refine ⟨_, rfl, .inl ⟨a, _, dd, _, _, _, true, rfl, .own C, upd_same, hd', E.cM, E.mm, true, rfl, iteT ?_⟩⟩
        refine ⟨_, rfl, .inl ⟨a, _, dd, _, _, _, true, rfl, .ty "ValueError", upd_same, hd', E.cM, E.mv, true, rfl, iteT ?_⟩⟩
        refine ⟨_, rfl, .inl ⟨a, _, dd, _, _, _, false, rfl, .own CN, upd_same, hd', E.cM, E.mn, false, rfl, iteT ?_⟩⟩
        refine ⟨_, rfl, a, _, dd, _, v, rfl, upd_same, hd', E.xM, E.vM, rfl, by show 2 ≤ sizeLine; decide, fun p hp => ?_⟩
        exact k p _ ((Same.new ha).trans (Same.new hp)) (sameNone (Same.new ha) hp) upd_same
      · refine ⟨_, rfl, .inl ⟨a, _, dd, _, _, _, false, rfl, .own CM, upd_same, hd', E.cN, E.nm_, false, rfl, iteF (iteF ?_)⟩⟩
        refine ⟨_, rfl, .inl ⟨a, _, dd, _, _, _, true, rfl, .own C, upd_same, hd', E.cN, E.nn, true, rfl, iteT ?_⟩⟩
        refine ⟨_, rfl, .inl ⟨a, _, dd, _, _, _, true, rfl, .ty "ValueError", upd_same, hd', E.cN, E.nv, true, rfl, iteT ?_⟩⟩
        refine ⟨_, rfl, .inl ⟨a, _, dd, _, _, _, false, rfl, .own CM, upd_same, hd', E.cN, E.nm_, false, rfl, iteT ?_⟩⟩
        refine ⟨_, rfl, a, _, dd, _, v, rfl, upd_same, hd', E.xN, E.vN, rfl, by show 2 ≤ sizeLine; decide, fun p hp => ?_⟩
        exact k p _ ((Same.new ha).trans (Same.new hp)) (sameNone (Same.new ha) hp) upd_same
end
end K18

set_option Elab.async false
set_option linter.all false
set_option maxRecDepth 100000
set_option maxHeartbeats 4000000
namespace K18
open PySem L2 NX LamX
theorem SqL.ext {K : PySem.W.Frag} {H H' : Hp} {a : Addr} {xs : List V} (s : ExtN H H') (h : SqL K H a xs) : SqL K H' a xs := by
  rcases h with (h | ⟨o, h⟩) | h
  · exact .inl (.inl (s _ _ h (by intro p e; cases e)))
  · exact .inl (.inr ⟨o, s _ _ h (by intro p e; cases e)⟩)
  · exact .inr h
theorem SqT.ext {K : PySem.W.Frag} {H H' : Hp} {a : Addr} {xs : List V} (s : ExtN H H') (h : SqT K H a xs) : SqT K H' a xs := by
  rcases h with (h | ⟨o, h⟩) | h
  · exact .inl (.inl (s _ _ h (by intro p e; cases e)))
  · exact .inl (.inr ⟨o, s _ _ h (by intro p e; cases e)⟩)
  · exact .inr h
mutual
theorem Dr.ext {K : PySem.W.Frag} {H H' : Hp} (s : ExtN H H') : ∀ {v : V} {d : PyData}, Dr K H v d → Dr K H' v d
  | _, _, .non => .non
  | _, _, .bl b => .bl b
  | _, _, .int i => .int i
  | _, _, .str x => .str x
  | _, _, .lst a b => .lst (SqL.ext s a) (DrAll.ext s b)
  | _, _, .tup a b => .tup (SqT.ext s a) (DrAll.ext s b)
  | _, _, .dct a b => .dct (s _ _ a (by intro p e; cases e)) (DrAll.ext s b)
theorem DrAll.ext {K : PySem.W.Frag} {H H' : Hp} (s : ExtN H H') : ∀ {v : List V} {d : List PyData}, DrAll K H v d → DrAll K H' v d
  | _, _, .nil => .nil
  | _, _, .cons a b => .cons (Dr.ext s a) (DrAll.ext s b)
end
theorem tyOf_ext {K : PySem.W.Frag} {H H' : Hp} {v : V} {t : Value} (s : ExtN H H') (h : TyOf K H v t) : TyOf K H' v t := by
  cases h with
  | non => exact .non
  | bl x => exact .bl x
  | int x => exact .int x
  | str x => exact .str x
  | flt x => exact .flt x
  | lst h => exact .lst (s _ _ h (by intro p e; cases e))
  | frz h => exact .frz (s _ _ h (by intro p e; cases e))
  | tup h => exact .tup (s _ _ h (by intro p e; cases e))
  | dK h => exact .dK (s _ _ h (by intro p e; cases e))
  | dT h => exact .dT (s _ _ h (by intro p e; cases e))
  | ins h a b c d e => exact .ins (s _ _ h (by intro p e; cases e)) a b c d e
theorem tyX_ext {K : PySem.W.Frag} {H H' : Hp} {v : V} {t : Value} (s : ExtN H H') (h : TyX K H v t) : TyX K H' v t := by
  cases h with
  | base h => exact .base (tyOf_ext s h)
  | byt b => exact .byt b
  | set h => exact .set (s _ _ h (by intro p e; cases e))
  | kList a b => exact .kList a b
  | kTuple a b => exact .kTuple a b
  | kDict a b => exact .kDict a b
  | fTuple h => exact .fTuple (s _ _ h (by intro p e; cases e))
  | fDict h => exact .fDict (s _ _ h (by intro p e; cases e))
theorem NoStr.ext {K : PySem.W.Frag} {H H' : Hp} {v : V} (s : ExtN H H') (h : NoStr K H v) : NoStr K H' v := by
  obtain ⟨t, a, b⟩ := h
  exact ⟨t, tyX_ext s a, b⟩
theorem NoMove.ext {K : PySem.W.Frag} {H H' : Hp} {v : V} (s : ExtN H H') (h : NoMove K H v) : NoMove K H' v := by
  rcases h with h | h
  · exact .inl h
  · exact .inr (NoStr.ext s h)
theorem NoNm.ext {K : PySem.W.Frag} {H H' : Hp} {v : V} (s : ExtN H H') (h : NoNm K H v) : NoNm K H' v := by
  rcases h with h | h
  · exact .inl h
  · exact .inr (NoStr.ext s h)
theorem Sm.ext {K : PySem.W.Frag} {H H' : Hp} {v : V} (s : ExtN H H') (h : Sm K H v) : Sm K H' v := by
  obtain ⟨d, a, b⟩ := h
  exact ⟨d, Dr.ext s a, b⟩
theorem IsMove.ext {m : M4} {H H' : Hp} {x : Addr} {wd n : Str} (s : ExtN H H') (h : IsMove m H x wd n) : IsMove m H' x wd n := by
  obtain ⟨dx, a, b, c⟩ := h
  exact ⟨dx, a, b, s _ _ c (by intro p e; cases e)⟩
/-- an object is written that was not there -/
theorem extPut {H H' : Hp} {D : Addr} {o : HO} (s : ExtN H H') (h : H D = none) : ExtN H (upd H' D o) := fun b u hb hn => by
  rw [upd_ne (ne_of_none hb h)]
  exact s b u hb hn
theorem extNone {H H' : Hp} {d : Addr} (s : ExtN H H') (hn : H' d = none) : H d = none ∨ ∃ ps, H d = some (.tbl ps) := by
  cases e : H d with
  | none => exact .inl rfl
  | some o =>
    by_cases h : ∃ ps, o = .tbl ps
    · obtain ⟨ps, rfl⟩ := h
      exact .inr ⟨ps, rfl⟩
    · have z := s d o e (fun ps q => h ⟨ps, q⟩)
      rw [hn] at z
      cases z
/-- what a thing is: a move's text, or none -/
def Good (z wd n : Str) (v : V) : Prop := v = .str z ∧ z.length ≤ 1000 ∧ Parse z wd n
theorem thing_or {K : PySem.W.Frag} {H : Hp} {v : V} (h : Thing K H v) : (∃ z wd n, Good z wd n v) ∨ NoMove K H v := by
  rcases h.2 with ⟨z, e, hz, ho⟩ | hs
  · by_cases hp : ∃ wd n, Parse z wd n
    · obtain ⟨wd, n, hp⟩ := hp
      exact .inl ⟨z, wd, n, e, hz, hp⟩
    · exact .inr (.inl ⟨z, e, hz, fun wd n q => hp ⟨wd, n, q⟩⟩)
  · exact .inr (.inr hs)
/-- what stands at r when a thing was read -/
def ResG (m : M4) (wd n : Str) (H : Hp) (r : Addr) : Prop := ∃ x, IsMove m H x wd n ∧ H r = some (.lst [.ref x])
def ResB (v : V) (H : Hp) (r : Addr) : Prop := H r = some (.tup [.str "move", v])
theorem askG {K : PySem.W.Frag} {m : M4} {CM CN CMv : Addr} {z wd n : Str} {v : V} {H : Hp} {Q : VK} (g : Good z wd n v) (k : ∀ r H', Same H H' → H r = none → ResG m wd n H' r → Q (.ref r) H') :
    THeard CM CN (fun E H' Q' => spRead K m CM [.ref CMv, v] H' Q' E) H Q := by
  obtain ⟨rfl, hz, hp⟩ := g
  refine ⟨CMv, _, rfl, .inl ⟨z, wd, n, rfl, hz, hp, fun x dx H' hm => ⟨by show 1 ≤ sizeLine; decide, fun p hn => ?_⟩⟩⟩
  refine k p _ (hm.1.trans (Same.new hn)) (sameNone hm.1 hn) ⟨x, ?_, upd_same⟩
  exact IsMove.same (Same.new hn) (hm.is hp.2.1 hp.2.2)
theorem askB {K : PySem.W.Frag} {m : M4} {CM CN CMv : Addr} {v : V} {H : Hp} {Q : VK} (g : NoMove K H v) (k : ∀ r H', Same H H' → H r = none → ResB v H' r → Q (.ref r) H') :
    THeard CM CN (fun E H' Q' => spRead K m CM [.ref CMv, v] H' Q' E) H Q := by
  refine ⟨CMv, _, rfl, .inr ⟨g, fun d H' t => ⟨CM, d, v, "move", rfl, rfl, t.2.2, .inl ⟨rfl, rfl⟩, fun p H'' s hp hv => ?_⟩⟩⟩
  exact k p H'' (t.1.trans s) (sameNone t.1 hp) hv
theorem askG2 {K : PySem.W.Frag} {m : M4} {CM CMv : Addr} {z wd n : Str} {v : V} {H : Hp} {Q : VK} {E : XK} (g : Good z wd n v) (k : ∀ x H', Same H H' → IsMove m H' x wd n → Q (.ref x) H') : spRead K m CM [.ref CMv, v] H Q E := by
  obtain ⟨rfl, hz, hp⟩ := g
  exact ⟨CMv, _, rfl, .inl ⟨z, wd, n, rfl, hz, hp, fun x dx H' hm => k x H' hm.1 (hm.is hp.2.1 hp.2.2)⟩⟩
theorem askB2 {K : PySem.W.Frag} {m : M4} {CM CMv : Addr} {v : V} {H : Hp} {Q : VK} {E : XK} (g : NoMove K H v) (k : ∀ d H', Told H d v H' → E (.ref CM) (some d) H') : spRead K m CM [.ref CMv, v] H Q E := ⟨CMv, _, rfl, .inr ⟨g, k⟩⟩
theorem extPut2 {H H1 H' : Hp} {D : Addr} {o : HO} (s : ExtN H H') (s1 : ExtN H H1) (h : H1 D = none) : ExtN H (upd H' D o) := fun b u hb hn => by
  have n : b ≠ D := fun e => by
    have z := s1 b u hb hn
    rw [e, h] at z
    cases z
  rw [upd_ne n]
  exact s b u hb hn
/-- a list is written over: the tables stay -/
theorem tabsPut {TT : List (Addr × Str)} {H : Hp} {h : Addr} {xs ys : List V} (t : Tabs TT H) (hh : H h = some (.lst xs)) : Tabs TT (upd H h (.lst ys)) := fun p hp => by
  obtain ⟨ps, a, b, c⟩ := t p hp
  refine ⟨ps, ?_, b, fun pos cv hc => ?_⟩
  · rw [upd_ne (fun e => by rw [e, hh] at a; cases a)]
    exact a
  · obtain ⟨c', e1, e2⟩ := c pos cv hc
    refine ⟨c', e1, ?_⟩
    rw [upd_ne (fun e => by rw [e, hh] at e2; unfold CodeO at e2; cases e2)]
    exact e2
theorem inV_w {wd : Str} (h : isW wd = true) : inV (.str wd) [.str (Str.ofString "load"), .str (Str.ofString "again"), .str (Str.ofString "store"), .str (Str.ofString "forget")] = true := by
  rcases isW_cases h with e | e | e | e <;> subst e <;> decide +kernel
theorem inV_not {wd : Str} (h : inV (.str wd) [.str (Str.ofString "load"), .str (Str.ofString "again"), .str (Str.ofString "store"), .str (Str.ofString "forget")] = true) : isW wd = true := by
  unfold inV at h
  simp only [List.any_cons, List.any_nil, Bool.or_false, eqV, Bool.or_eq_true, beq_iff_eq] at h
  rcases h with e | e | e | e <;> subst e <;> decide +kernel
theorem parse_tx {z wd n : Str} (h : Parse z wd n) : z = tx wd n := by
  have e := PySem.StrLaws.join_split z (Str.ofString " ")
  have hs : Txt.split z (Str.ofString " ") = [wd, n] := h.1
  rw [hs] at e
  rw [← e, ← TL.join_eq]
  exact tx_join wd n
/-- the answers to what is no move, as data -/
def twoM (d : PyData) : PyData := .list [.tuple [.str (Str.ofString "move"), d], .tuple [.str (Str.ofString "move"), d]]
theorem twoM_show {d : PyData} (h : d.showable = true) : (twoM d).showable = true := by
  have e : (twoM d).showable = ((true && (d.showable && true)) && ((true && (d.showable && true)) && true)) := rfl
  rw [e, h]
  rfl
theorem twoM_depth {d : PyData} (h : d.depth ≤ 3) : (twoM d).depth ≤ 50 := by
  have e : (twoM d).depth = max (max 0 (max d.depth 0) + 1) (max (max 0 (max d.depth 0) + 1) 0) + 1 := rfl
  rw [e]
  omega
theorem twoM_shown {d : PyData} (h : d.shown.length ≤ 100000) : (twoM d).shown.length ≤ sizeLine := by
  have e : (twoM d).shown = listText [tupleText [reprText (Str.ofString "move"), d.shown], tupleText [reprText (Str.ofString "move"), d.shown]] := rfl
  have t : (tupleText [reprText (Str.ofString "move"), d.shown]).length ≤ 100020 := by
    show (Str.ofString "(" ++ (reprText (Str.ofString "move") ++ Str.ofString ", " ++ d.shown) ++ Str.ofString ")").length ≤ 100020
    repeat rw [Str.length_append]
    have a : (Str.ofString "(").length = 1 := by decide +kernel
    have b : (Str.ofString ", ").length = 2 := by decide +kernel
    have c : (Str.ofString ")").length = 1 := by decide +kernel
    have r : (reprText (Str.ofString "move")).length = 6 := by decide +kernel
    omega
  rw [e]
  have l := listText_len_le [tupleText [reprText (Str.ofString "move"), d.shown], tupleText [reprText (Str.ofString "move"), d.shown]]
  simp only [List.map_cons, List.map_nil, List.sum_cons, List.sum_nil, List.length_cons, List.length_nil] at l
  exact Nat.le_trans (by omega : _ ≤ 300000) (by decide)
theorem okS_part {z a b : Str} (h : Txt.split z (Str.ofString " ") = [a, b]) (ho : okS z) : okS b := by
  have e := PySem.StrLaws.join_split z (Str.ofString " ")
  rw [h] at e
  have e2 : a ++ Str.ofString " " ++ b = z := e
  intro ch hc
  refine ho ch ?_
  rw [← e2, cps_append]
  exact List.mem_append_right _ hc
def BadT (K : PySem.W.Frag) (H : Hp) (v : V) : Prop := (∃ z, v = .str z ∧ z.length ≤ 1000 ∧ okS z ∧ ∀ wd n, ¬ Parse z wd n) ∨ NoStr K H v
theorem BadT.no {K : PySem.W.Frag} {H : Hp} {v : V} (h : BadT K H v) : NoMove K H v := by
  rcases h with ⟨z, a, b, _, c⟩ | h
  · exact .inl ⟨z, a, b, c⟩
  · exact .inr h
theorem thing_or2 {K : PySem.W.Frag} {H : Hp} {v : V} (h : Thing K H v) : (∃ z wd n, Good z wd n v) ∨ BadT K H v := by
  rcases h.2 with ⟨z, e, hz, ho⟩ | hs
  · by_cases hp : ∃ wd n, Parse z wd n
    · obtain ⟨wd, n, hp⟩ := hp
      exact .inl ⟨z, wd, n, e, hz, hp⟩
    · exact .inr (.inl ⟨z, e, hz, ho, fun wd n q => hp ⟨wd, n, q⟩⟩)
  · exact .inr (.inr hs)
end K18

set_option Elab.async false
set_option linter.all false
set_option maxRecDepth 100000
set_option maxHeartbeats 4000000
namespace K18
open PySem L2 NX LamX
abbrev sRR : Stmt := top 26
theorem scRR : FnScope ["_law_thing", "_law_heard_here", "_law_words", "_law_due", "_law_same", "_law_one"] ["_law_thing"] (defScope sRR) := ⟨rfl, rfl, rfl, by decide +kernel, rfl, by decide +kernel, by decide +kernel⟩
/-- a def of ours, with its code object -/
structure FunC (K : PySem.W.Frag) (x : Str) (st : Stmt) (f : Addr) (fd : FuncData) (c : Addr) : Prop where
  ex : ∃ oc od kV doc pm an ct osl, fd = PySem.W.fnOf x x (defArgs st) (defBody st) (defScope st) .none kV doc pm an (.ref c) ct ∧ K.lookup f = some ⟨oc, od, .func fd, osl⟩ ∧ PySem.W.codeIn K (.ref c) x = true
  kp : PySem.W.keepIn K (.ref f) = true
/-- what is said of the things that _law_read_right uses -/
structure RRTxt (P : Program) (w : World) (K : PySem.W.Frag) (mg : Str → Option Value) (base : Heap) (m : M4) (CMv CS CM CN fH fI : Addr) (fdH : FuncData) : Prop where
  T : TxtB mg
  E : ErrK K mg CS CM CN
  gMv : mg "Move" = some (.ref CMv)
  rd : ∃ mc, ClX.CRead K CMv mc ∧ ∃ p g, ClX.CMet K CMv mc "read" p g ∧ ∃ fd, FnOk P w K mg base (CX P w) 5 g fd ["cls", "text"] (spRead K m CM) ∧ Binds K fd ["cls", "text"] [] ∧
    ∀ (s : Shared) (us : List Value), us.length + 1 = ["cls", "text"].length → BindsTo s fd ⟨[.ref CMv], (["text"] : List Str).zip us⟩ ((["cls", "text"] : List Str).zip (.ref CMv :: us))
  FH : Fun K "_law_heard" "_law_heard" sHeard fH fdH
  gH : mg "_law_heard" = some (.ref fH)
  hbH : Binds K fdH ["_law_ask"] []
  mv : Mvs K mg fI m
  made : ∃ f fd, FnOk P w K mg base (CX P w) 5 f fd ["_law_word", "_law_name_here"] (spMade K m CN) ∧ mg "_law_made" = some (.ref f) ∧ PySem.W.keepIn K (.ref f) = true ∧ Binds K fd ["_law_word", "_law_name_here"] []
  eq : ∃ f fd, FnOk P w K mg base CX0 1 f fd ["self", "other"] (spEq K m CMv) ∧ Binds K fd ["self", "other"] [] ∧ ∀ wd, isW wd = true → NX.EqC K (m.of wd) f ∧ PySem.W.notFirst K (m.of wd) (.type "str") = true ∧ PySem.W.notFirst K (m.of wd) (.type "tuple") = true ∧ ∀ wd2, isW wd2 = true → PySem.W.notFirst K (m.of wd) (.ref (m.of wd2)) = true
  st : ∃ f fd, FnOk P w K mg base CX0 1 f fd ["self"] (spStr m) ∧ Binds K fd ["self"] [] ∧ ∀ wd, isW wd = true → NX.StrC K (m.of wd) f
  lis : C8.Cal P w K mg base 1 "_law_is_name" spLIs []
  sys : SysB base
  kin : ∃ CBr, KinK K m CMv CBr
def spRR (K : PySem.W.Frag) (TT : List (Addr × Str)) : Sp := fun vs H Q _ => ∃ v, vs = [v] ∧ Thing K H v ∧ Tabs TT H ∧ ∀ H', ExtN H H' → Tabs TT H' → Q (.bl true) H'
section
variable {P : Program} {w : World} {K : PySem.W.Frag} {mg : Str → Option Value} {base : Heap}
theorem ok_rr {m : M4} {CMv CS CM CN fH fI : Addr} {fdH : FuncData} {f c Pc : Addr} {fd : FuncData} {TT : List (Addr × Str)} (F : FunC K "_law_read_right" sRR f fd c) (X : RRTxt P w K mg base m CMv CS CM CN fH fI fdH) (TB : TabB base mg c Pc)
    (hmT : (Pc, Str.ofString "_law_read_right.<locals>.<lambda>") ∈ TT) (hu2 : ∀ p ∈ TT, p.1 = Pc → p.2 = Str.ofString "_law_read_right.<locals>.<lambda>") : FnG P w K mg base 8 f fd ["_law_thing"] (spRR K TT) := by
  obtain ⟨T, E, gMv, ⟨mc, rd, pr, gr, cmt, fdr, FR, hbR, hbK⟩, FH, gH, hbH, mv, ⟨fMd, fdMd, FMd, gMd, kMd, hbMd⟩, ⟨fEq, fdEq, FEq, hbEq, cEq⟩, ⟨fSt, fdSt, FSt, hbSt, cSt⟩, cLIs, S, ⟨CBr, kin⟩⟩ := X
  obtain ⟨oc, od, kV, doc, pm, an, ct, osl, rfl, lk, hcd⟩ := F.ex
  obtain ⟨ocH, odH, kVH, docH, pmH, anH, cdvH, ctH, oslH, rfl, lkH, hcH⟩ := FH.ex
  refine ⟨fun vs H Q E h => ?_, fun A st s H args us vs Q gd hr0 e0 hb rv h => ?_⟩
  · obtain ⟨v, rfl, _⟩ := h
    rfl
  · obtain ⟨v, rfl, hT, hTb, k⟩ := h
    refine run_ofS (k := 7) (N := ["_law_thing", "_law_heard_here", "_law_words", "_law_due", "_law_same", "_law_one"]) (ps := ["_law_thing"]) lk hcd scRR hr0 e0 hb rv rfl fun hr => ?_
    have gd : (A.deeper (PyProof.Rows.envOfC "_law_read_right" (defScope sRR) s.heap.objs.size f (.ref c))).guards = some [] := gd
    have hu := hr.units
    refine ⟨_, (pss_cons (ps_set (i := 1) scRR.nd rfl (Or.inl rfl) (pe_lst (pa_cons (pe_lamcall (T := TT) (TT := THeard CM CN) (c := c) (P := Pc) (Ng := ["_law_ask", "_law_caught", "error"]) (a := "_law_ask") (t := fun E => ClX.tCMeth CMv (fun vs H Q E => spRead K m CM (vs ++ []) H Q E) E (tC (.ref CMv)) (tCons (tVar 0) tNil)) rfl gH FH.kp lkH hcH hbH scHeard rfl (Or.inl rfl) (heard_gives T E) TB rfl hmT hu2 (k := 5) hr (lamS_by (sc := defScope sRR) (by decide +kernel)) rfl (fun _ _ _ _ _ => rfl) (fun A outer s H E f c' hr2 => ClX.pe_cmeth (C8.pe_gc (v := .ref CMv) rfl ⟨_, gMv, rfl⟩) rd cmt (FR.raw hbR .nil) hr2 (passOf (takes_of rfl rfl rfl rfl)) (pa_cons (pv 0) pa_nil))) pa_nil)))
      (pss_cons (ps_expr (pe_bm PySem.F.plainAttrs_list PySem.F.slot_list_append PySem.F.type_list_append mt_append (pv 1) (pa_cons (pe_lamcall (T := TT) (TT := THeard CM CN) (c := c) (P := Pc) (Ng := ["_law_ask", "_law_caught", "error"]) (a := "_law_ask") (t := fun E => ClX.tCMeth CMv (spRead K m CM) E (tC (.ref CMv)) (tCons (tVar 0) tNil)) rfl gH FH.kp lkH hcH hbH scHeard rfl (Or.inl rfl) (heard_gives T E) TB rfl hmT hu2 (k := 5) hr (lamS_by (sc := defScope sRR) (by decide +kernel)) rfl (fun _ _ _ _ _ => rfl) (fun A outer s H E f c' hr2 => pe_cmethK (ks := ["text"]) (C8.pe_gc (v := .ref CMv) rfl ⟨_, gMv, rfl⟩) rd cmt FR hbK hr2 (passOf (takes_of rfl rfl rfl rfl)) (pk_cons (pv 0) pk_nil))) pa_nil)))
      (pss_cons (ps_set (i := 2) scRR.nd rfl (Or.inl rfl) (pe_ifExp (pt_val (pe_callB call_isi (by rfl) T.bisinstance (by decide +kernel) (pa_cons (pv 0) (pa_cons (pe_bltn (v := .ty "str") (by rfl) T.bstr (by decide +kernel) rfl) pa_nil)))) (pe_split (pv 0) pe_str) (pe_lst pa_nil)))
      (C8.pss_cut (ps_if (PW.pt (pw_and (pt_cmpR op_eq (pe_callB call_len_seq (by rfl) T.blen (by decide +kernel) (pa_cons (pv 2) pa_nil)) pe_int (nomark _)) (pw_and (pt_cmpR op_in_seq (pe_ix ix_list (pv 2) pe_int (fun _ _ => rfl)) (pe_tup (pa_cons pe_str (pa_cons pe_str (pa_cons pe_str (pa_cons pe_str pa_nil))))) rfl) (pw_and1 (pt_val (C8.pe_c cLIs hr (by decide) rfl (pa_cons (pe_ix ix_list (pv 2) pe_int (fun _ _ => rfl)) pa_nil))))))) (pss_cons (ps_set (i := 3) scRR.nd rfl (Or.inr rfl) (pe_callS (CX := CX P w) (E := fun _ => L2.E0) FMd (hr.mono (by decide)) rfl gMd kMd hbMd (fun σ pins H s e s' I h => passL pins σ H s e s' I h) (pa_cons (pe_ix ix_list (pv 2) pe_int (fun _ _ => rfl)) (pa_cons (pe_ix ix_list (pv 2) pe_int (fun _ _ => rfl)) pa_nil))))
      (pss_cons (ps_setLc (i := 4) (own := [("_law_one", 5)]) (g := gName 5) rfl scRR.nd rfl rfl (sw_true rfl rfl rfl (by decide +kernel)) (pi_list (pv 1)) (blkOk_by (own := [("_law_one", 5)]) (N := ["_law_thing", "_law_heard_here", "_law_words", "_law_due", "_law_same", "_law_one"]) (sc := defScope sRR) (by decide +kernel)) (fun _ _ _ _ _ => (pg_name (i := 5) scRR.nd rfl (Or.inl rfl))) (fun _ _ _ _ _ => (pts_one (PW.pt (pw_and (pt_val (pe_callB (show CallR _ (.builtin "isinstance") (rIsi K) from call_isi) (by rfl) T.bisinstance (by decide +kernel) (pa_cons (pv 5) (pa_cons (pe_bltn (v := .ty "list") (by rfl) T.blist (by decide +kernel) rfl) pa_nil)))) (pw_and (pt_cmpR (show OpR _ (compareOp .Eq) (rOwn K fEq (spEq K m CMv) L2.E0 false) from op_eqOwn FEq hbEq pass0 (hr.mono (by decide : 1 ≤ 7))) (pe_ix (show IxR _ (rIxL K) from ix_list) (pv 5) pe_int (fun _ _ => rfl)) (pv 3) (nomark _)) (pw_and1 (pt_cmpR op_eq (pe_callTy (show CallR _ (.type "str") (rStrOwn K fSt (spStr m) L2.E0) from call_strOwn FSt hbSt pass0 (hr.mono (by decide : 3 ≤ 7))) (by rfl) T.bstr (by decide +kernel) (pa_cons (pe_ix (show IxR _ (rIxL K) from ix_list) (pv 5) pe_int (fun _ _ => rfl)) pa_nil)) (pv 0) (nomark _)))))))) (fun _ _ _ _ _ => pe_int))
      (pss_one (ps_ret (pe_cmpR (op_eqD hr.units) (pv 4) (pe_lst (pa_cons pe_int (pa_cons pe_int pa_nil))) (nomark _)))))) pss_nil)
      (pss_one (ps_ret (pe_cmpR op_eq (pe_callB (call_repr gd hu S) (by rfl) T.brepr (by decide +kernel) (pa_cons (pv 1) pa_nil)) (pe_callB (call_repr gd hu S) (by rfl) T.brepr (by decide +kernel) (pa_cons (pe_lst (pa_cons (pe_tup (pa_cons pe_str (pa_cons (pv 0) pa_nil))) (pa_cons (pe_tup (pa_cons pe_str (pa_cons (pv 0) pa_nil))) pa_nil))) pa_nil)) (nomark _)))))))), ?_⟩
    have base : ∀ {H1 H2 : Hp}, Same H1 H2 → ExtN H1 H2 := fun s => ExtN.of s
    rcases thing_or2 hT with ⟨z, wd, n, hg⟩ | hn
    · have hg0 := hg
      obtain ⟨rfl, hz, hsp, hw, hnm⟩ := hg0
      have ez := parse_tx ⟨hsp, hw, hnm⟩
      subst ez
      refine ⟨hTb, fun H1 e1 T1 => ⟨rfl, _, rfl, ?_⟩⟩
      dsimp only [tNil, List.append_nil]
      refine askG2 hg fun x1 H2 s2 M1 => ?_
      refine ⟨by show 1 ≤ sizeLine; decide, fun r1 hr1 => ?_⟩
      refine ⟨by show 1 ≤ sizeLine; decide, fun h hh => ?_⟩
      have e2h : ExtN H (upd H2 r1 (.lst [.ref x1])) := (e1.trans (base s2)).trans (base (Same.new hr1))
      have hh0 := hh
      have nr1 : ∀ {H2 : Hp} {a b : Addr} {o : HO}, upd H2 a o b = none → a ≠ b := fun hb e => by rw [e, upd_same] at hb; cases hb
      have e3 : ExtN H (upd (upd H2 r1 (.lst [.ref x1])) h (.lst [.ref r1])) := ((e1.trans (base s2)).trans (base (Same.new hr1))).trans (base (Same.new hh))
      have T3 : Tabs TT (upd (upd H2 r1 (.lst [.ref x1])) h (.lst [.ref r1])) := ((T1.ext s2).ext (Same.new hr1)).ext (Same.new hh)
      have M3 : IsMove m (upd (upd H2 r1 (.lst [.ref x1])) h (.lst [.ref r1])) x1 wd n := IsMove.same (Same.new hh) (IsMove.same (Same.new hr1) M1)
      have R3 : (upd (upd H2 r1 (.lst [.ref x1])) h (.lst [.ref r1])) r1 = some (.lst [.ref x1]) := (upd_ne (nr1 hh)).trans upd_same
      have L3 : (upd (upd H2 r1 (.lst [.ref x1])) h (.lst [.ref r1])) h = some (.lst [.ref r1]) := upd_same
      have nh : r1 ≠ h := nr1 hh
      clear hh nr1
      generalize (upd (upd H2 r1 (.lst [.ref x1])) h (.lst [.ref r1])) = G3 at *
      refine ⟨_, rfl, .inl ⟨rfl, _, SqL.of L3⟩, T3, fun H4 e4 T4 => ⟨rfl, _, rfl, ?_⟩⟩
      dsimp only [tNil, List.append_nil]
      refine askG2 hg fun x2 H5 s5 M2 => ?_
      refine ⟨by show 1 ≤ sizeLine; decide, fun r2 hr2 => ?_⟩
      have e5 : ExtN G3 (upd H5 r2 (.lst [.ref x2])) := (e4.trans (base s5)).trans (base (Same.new hr2))
      have L5 : (upd H5 r2 (.lst [.ref x2])) h = some (.lst [.ref r1]) := e5 _ _ L3 (by intro p e; cases e)
      have nr2 : r2 ≠ h := fun e => by
        rw [e, (e4.trans (base s5)) _ _ L3 (by intro p e; cases e)] at hr2
        cases hr2
      refine ⟨h, [.ref r1], .ref r2, rfl, rfl, L5, by show 1 < sizeLine; decide, ?_⟩
      have E6 : ExtN H (upd (upd H5 r2 (.lst [.ref x2])) h (.lst ([.ref r1] ++ [.ref r2]))) := extPut2 (e3.trans e5) e2h hh0
      have T6 : Tabs TT (upd (upd H5 r2 (.lst [.ref x2])) h (.lst ([.ref r1] ++ [.ref r2]))) := tabsPut ((T4.ext s5).ext (Same.new hr2)) L5
      have R6 : ∀ r ∈ [r1, r2], ResG m wd n (upd (upd H5 r2 (.lst [.ref x2])) h (.lst ([.ref r1] ++ [.ref r2]))) r := by
        have mv : ∀ {x : Addr}, IsMove m (upd H5 r2 (.lst [.ref x2])) x wd n → IsMove m (upd (upd H5 r2 (.lst [.ref x2])) h (.lst ([.ref r1] ++ [.ref r2]))) x wd n := fun {x} ⟨dx, a, b, c⟩ => ⟨dx, a, b, by
          rw [upd_ne (fun e => by rw [e, L5] at c; cases c)]
          exact c⟩
        intro r hr
        simp only [List.mem_cons, List.not_mem_nil, or_false] at hr
        rcases hr with rfl | rfl
        · exact ⟨x1, mv (IsMove.ext e5 M3), by rw [upd_ne nh]; exact e5 _ _ R3 (by intro p e; cases e)⟩
        · exact ⟨x2, mv (IsMove.same (Same.new hr2) M2), by rw [upd_ne nr2]; exact upd_same⟩
      have L6 : (upd (upd H5 r2 (.lst [.ref x2])) h (.lst ([.ref r1] ++ [.ref r2]))) h = some (.lst [.ref r1, .ref r2]) := upd_same
      clear nr2 e5 L5
      generalize (upd (upd H5 r2 (.lst [.ref x2])) h (.lst ([.ref r1] ++ [.ref r2]))) = G6 at *
      refine ⟨_, rfl, _, _, _, _, true, rfl, .ty "str", .base (.str (tx wd n)), kit_ty (by decide +kernel), true, rfl, iteT ⟨_, rfl, ⟨_, rfl⟩, tx wd n, _, rfl, rfl, by decide +kernel, Nat.le_trans (Nat.add_le_add_right hz 2) (by decide), fun D hD => ?_⟩⟩
      have hsp' : Txt.split (tx wd n) (Str.ofString " ") = [wd, n] := hsp
      rw [hsp']
      have o1 := okL_w hw
      have o2 := okL_nm hnm
      refine ⟨fun _ _ => False, ?_, fun _ _ h => h.elim⟩
      refine ⟨_, rfl, D, _, rfl, .inl (SqL.of upd_same), rfl, _, rfl, iteT ?_⟩
      refine ⟨_, rfl, D, _, _, _, rfl, rfl, SqL.of upd_same, rfl, by show 4 ≤ sizeLine; decide, fun q hq => ?_⟩
      refine ⟨q, _, rfl, .inr (SqT.of upd_same), rfl, rfl, _, rfl, ?_⟩
      have nDq : D ≠ q := ne_of_none upd_same hq
      have E7 : ExtN H (upd (upd G6 D (.lst ([wd, n].map V.str))) q (.tup [.str (Str.ofString "load"), .str (Str.ofString "again"), .str (Str.ofString "store"), .str (Str.ofString "forget")])) := (E6.trans (base (Same.new hD))).trans (base (Same.new hq))
      have T7 : Tabs TT (upd (upd G6 D (.lst ([wd, n].map V.str))) q (.tup [.str (Str.ofString "load"), .str (Str.ofString "again"), .str (Str.ofString "store"), .str (Str.ofString "forget")])) := (T6.ext (Same.new hD)).ext (Same.new hq)
      have S7 : Same G6 (upd (upd G6 D (.lst ([wd, n].map V.str))) q (.tup [.str (Str.ofString "load"), .str (Str.ofString "again"), .str (Str.ofString "store"), .str (Str.ofString "forget")])) := (Same.new hD).trans (Same.new hq)
      have D7 : (upd (upd G6 D (.lst ([wd, n].map V.str))) q (.tup [.str (Str.ofString "load"), .str (Str.ofString "again"), .str (Str.ofString "store"), .str (Str.ofString "forget")])) D = some (.lst [.str wd, .str n]) := (upd_ne nDq).trans upd_same
      generalize (upd (upd G6 D (.lst ([wd, n].map V.str))) q (.tup [.str (Str.ofString "load"), .str (Str.ofString "again"), .str (Str.ofString "store"), .str (Str.ofString "forget")])) = G7 at *
      rw [if_neg (by decide), inV_w hw]
      refine iteT ?_
      refine ⟨_, rfl, D, _, _, _, rfl, rfl, SqL.of D7, rfl, n, rfl, by have := o2.2; omega, o2.1, fun H8 s8 => ?_⟩
      rw [hnm]
      refine ⟨_, rfl, iteT ?_⟩
      have D8 := s8 _ _ D7
      refine ⟨_, rfl, D, _, _, _, rfl, rfl, SqL.of D8, rfl, _, rfl, D, _, _, _, rfl, rfl, SqL.of D8, rfl, wd, .str n, rfl, hw, .inl ⟨n, ⟨rfl, by have := o2.2; omega, hnm⟩, fun x3 dx3 H9 hm => ?_⟩⟩
      have M9 := hm.is hw hnm
      have S9 : Same G6 H9 := (S7.trans s8).trans hm.1
      have R9 : ∀ r ∈ [r1, r2], ResG m wd n H9 r := fun r hr => by
        obtain ⟨x, a, b⟩ := R6 r hr
        exact ⟨x, IsMove.same S9 a, S9 _ _ b⟩
      have L9 := S9 _ _ L6
      have E9 : ExtN H H9 := E6.trans (base S9)
      have T9 : Tabs TT H9 := T6.ext S9
      clear hm
      refine ⟨_, rfl, h, rfl, ⟨_, SqL.of L9⟩, fun D2 hD2 => ?_⟩
      refine lc_list (xs := [V.ref r1, V.ref r2]) (fun i H' => Same H9 H' ∧ H' D2 = some (.lst (List.replicate i (V.int 1)))) ?_ ?_ ?_ ?_
      · exact ⟨Same.new hD2, upd_same⟩
      · intro i H' _ hP
        exact SqL.of (hP.1 _ _ L9)
      · intro i x H' hx hP
        obtain ⟨sP, dP⟩ := hP
        have hi : i < 2 := by
          obtain ⟨hh, _⟩ := List.getElem?_eq_some_iff.mp hx
          exact hh
        obtain ⟨r, rfl, hr⟩ : ∃ r, x = .ref r ∧ r ∈ [r1, r2] := by
          match i, hx with
          | 0, hx => exact ⟨r1, by simpa using hx.symm, by simp⟩
          | 1, hx => exact ⟨r2, by simpa using hx.symm, by simp⟩
          | i + 2, hx => simp at hx
        obtain ⟨x', Mx, Rx⟩ := R9 r hr
        have Mx := IsMove.same sP Mx
        have Rx := sP _ _ Rx
        have M3 := IsMove.same sP M9
        have ty3 := kin.ty mv M3
        have Mx0 := Mx
        obtain ⟨dx', _, _, Hx⟩ := Mx0
        refine ⟨rfl, _, rfl, _, _, _, _, true, rfl, .ty "list", .base (.lst Rx), kit_ty (by decide +kernel), true, rfl, iteT ?_⟩
        refine ⟨_, rfl, r, _, _, _, rfl, rfl, SqL.of Rx, rfl, _, rfl, x', _, dx', _, _, rfl, Hx, (cEq wd hw).1, (cEq wd hw).2.2.2 wd hw, ty3, x', wd, n, .ref x3, rfl, Mx, .inl ⟨x3, wd, n, rfl, M3, _, rfl, _, rfl, ite2 (fun _ => ?_) (fun hne => absurd (by simp) hne)⟩⟩
        refine ⟨_, rfl, r, _, _, _, rfl, rfl, SqL.of Rx, rfl, x', _, dx', _, rfl, Hx, cSt wd hw, x', wd, n, rfl, Mx, _, rfl, _, rfl, rfl, _, rfl, ite2 (fun _ => ?_) (fun hne => absurd (decide_eq_true rfl) hne)⟩
        refine ⟨_, dP, by rw [List.length_replicate]; exact Nat.lt_trans hi (by decide), samePut sP hD2, ?_⟩
        rw [upd_same, List.replicate_succ']
      · intro H' hP
        obtain ⟨sP, dP⟩ := hP
        have dP : H' D2 = some (.lst (([1, 1] : List Int).map V.int)) := dP
        refine ⟨_, rfl, by show 2 ≤ sizeLine; decide, fun u hu => ⟨_, _, .lst (SqL.of ((upd_ne (ne_of_none dP hu)).trans dP)) (dpInts [1, 1]), .lst (SqL.of upd_same) (dpInts [1, 1]), by decide +kernel, by decide +kernel, ?_⟩⟩
        have ev : PyData.eqv (.list (([1, 1] : List Int).map PyData.int)) (.list (([1, 1] : List Int).map PyData.int)) = true := by decide +kernel
        rw [ev]
        exact k _ (E9.trans (base (sP.trans (Same.new hu)))) ((T9.ext sP).ext (Same.new hu))
    · refine ⟨hTb, fun H1 e1 T1 => ⟨rfl, _, rfl, ?_⟩⟩
      dsimp only [tNil, List.append_nil]
      refine askB2 (NoMove.ext e1 hn.no) fun d1 H2 t1 => ?_
      refine ⟨CM, d1, v, Str.ofString "move", rfl, rfl, t1.2.2, .inl ⟨rfl, rfl⟩, fun r1 G1 sg ng hr1 => ?_⟩
      refine ⟨by show 1 ≤ sizeLine; decide, fun h hh => ?_⟩
      have e2h : ExtN H G1 := e1.trans (base (t1.1.trans sg))
      have hh0 := hh
      have E3 : ExtN H (upd G1 h (.lst [.ref r1])) := e2h.trans (base (Same.new hh))
      have T3 : Tabs TT (upd G1 h (.lst [.ref r1])) := ((T1.ext t1.1).ext sg).ext (Same.new hh)
      have nh : r1 ≠ h := ne_of_none hr1 hh
      have R3 : (upd G1 h (.lst [.ref r1])) r1 = some (.tup [.str "move", v]) := (upd_ne nh).trans hr1
      have L3 : (upd G1 h (.lst [.ref r1])) h = some (.lst [.ref r1]) := upd_same
      clear hh
      generalize (upd G1 h (.lst [.ref r1])) = G3 at *
      refine ⟨_, rfl, .inl ⟨rfl, _, SqL.of L3⟩, T3, fun H4 e4 T4 => ⟨rfl, _, rfl, ?_⟩⟩
      dsimp only [tNil, List.append_nil]
      refine askB2 (NoMove.ext (E3.trans e4) hn.no) fun d2 H5 t2 => ?_
      refine ⟨CM, d2, v, Str.ofString "move", rfl, rfl, t2.2.2, .inl ⟨rfl, rfl⟩, fun r2 G5 sg5 ng5 hr2 => ?_⟩
      have e5 : ExtN G3 G5 := e4.trans (base (t2.1.trans sg5))
      have L5 : G5 h = some (.lst [.ref r1]) := e5 _ _ L3 (by intro p e; cases e)
      have nr2 : r2 ≠ h := fun e => by rw [e, L5] at hr2; cases hr2
      refine ⟨h, [.ref r1], .ref r2, rfl, rfl, L5, by show 1 < sizeLine; decide, ?_⟩
      have E6 : ExtN H (upd G5 h (.lst ([.ref r1] ++ [.ref r2]))) := extPut2 (E3.trans e5) e2h hh0
      have T6 : Tabs TT (upd G5 h (.lst ([.ref r1] ++ [.ref r2]))) := tabsPut ((T4.ext t2.1).ext sg5) L5
      have R6a : (upd G5 h (.lst ([.ref r1] ++ [.ref r2]))) r1 = some (.tup [.str "move", v]) := (upd_ne nh).trans (e5 _ _ R3 (by intro p e; cases e))
      have R6b : (upd G5 h (.lst ([.ref r1] ++ [.ref r2]))) r2 = some (.tup [.str "move", v]) := (upd_ne nr2).trans hr2
      have L6 : (upd G5 h (.lst ([.ref r1] ++ [.ref r2]))) h = some (.lst [.ref r1, .ref r2]) := upd_same
      clear nr2 e5 L5 sg5 ng5 hr2
      generalize (upd G5 h (.lst ([.ref r1] ++ [.ref r2]))) = G6 at *
      obtain ⟨d, hd, hd1, hd2, hd3⟩ := hT.1
      rcases hn with ⟨z, rfl, hz, ho, np⟩ | ns
      · refine ⟨_, rfl, _, _, _, _, true, rfl, .ty "str", .base (.str z), kit_ty (by decide +kernel), true, rfl, iteT ⟨_, rfl, ⟨_, rfl⟩, z, _, rfl, rfl, by decide +kernel, Nat.le_trans (Nat.add_le_add_right hz 2) (by decide), fun D hD => ?_⟩⟩
        refine ⟨fun σ' H' => σ' = [some (.str z), some (.ref h), some (.ref D), none, none, none] ∧ Same G6 H', ?_, ?_⟩
        · have hpart : ∀ a ∈ Txt.split z (Str.ofString " "), a.length ≤ z.length := fun a ha => PyProof.Rows.part_short ha
          have hok : ∀ a b, Txt.split z (Str.ofString " ") = [a, b] → okS b := fun a b e => okS_part e ho
          have hnp : ∀ a b, Txt.split z (Str.ofString " ") = [a, b] → isW a = true → nm b = true → False := fun a b e h1 h2 => np a b ⟨e, h1, h2⟩
          generalize Txt.split z (Str.ofString " ") = l at *
          have SD : Same G6 (upd G6 D (.lst (l.map V.str))) := Same.new hD
          refine ⟨_, rfl, D, _, rfl, .inl (SqL.of upd_same), rfl, _, rfl, ite2 (fun h2 => ?_) (fun h2 => iteF ⟨rfl, SD⟩)⟩
          have hl2 : l.length = 2 := by
            have e := of_decide_eq_true h2
            injection e with e
            rw [List.length_map] at e
            omega
          obtain ⟨a, b, rfl⟩ : ∃ a b, l = [a, b] := by
            match l, hl2 with
            | [a, b], _ => exact ⟨a, b, rfl⟩
          refine ⟨_, rfl, D, _, _, _, rfl, rfl, SqL.of upd_same, rfl, by show 4 ≤ sizeLine; decide, fun q hq => ?_⟩
          have SQ := SD.trans (Same.new (o := .tup [.str (Str.ofString "load"), .str (Str.ofString "again"), .str (Str.ofString "store"), .str (Str.ofString "forget")]) hq)
          have nDq : D ≠ q := ne_of_none upd_same hq
          refine ⟨q, _, rfl, .inr (SqT.of upd_same), rfl, rfl, _, rfl, ?_⟩
          rw [if_neg (by decide)]
          refine ite2 (fun h3 => ?_) (fun h3 => iteF ⟨rfl, SQ⟩)
          refine ⟨_, rfl, D, _, _, _, rfl, rfl, SqL.of ((upd_ne nDq).trans upd_same), rfl, b, rfl, Nat.le_trans (hpart b (by simp)) hz, hok a b rfl, fun H8 s8 => ?_⟩
          cases hb : nm b with
          | true => exact (hnp a b rfl (inV_not h3) hb).elim
          | false => exact ⟨_, rfl, iteF ⟨rfl, SQ.trans s8⟩⟩
        · rintro σ' H' ⟨rfl, hS⟩
          have hdr7 := Dr.ext (E6.trans (base hS)) hd
          refine ⟨_, rfl, h, twoM d, rfl, .lst (SqL.of (hS _ _ L6)) (.cons (.tup (SqT.of (hS _ _ R6a)) (.cons (.str _) (.cons hdr7 .nil))) (.cons (.tup (SqT.of (hS _ _ R6b)) (.cons (.str _) (.cons hdr7 .nil))) .nil)), twoM_show hd1, twoM_depth hd2, twoM_shown hd3, ?_⟩
          refine ⟨_, rfl, by show 2 ≤ sizeLine; decide, fun t1 ht1 => ⟨_, rfl, by show 2 ≤ sizeLine; decide, fun t2 ht2 => ⟨by show 2 ≤ sizeLine; decide, fun l hl => ?_⟩⟩⟩
          have S1 := Same.new (o := .tup [.str (Str.ofString "move"), .str z]) ht1
          have S2 := Same.new (o := .tup [.str (Str.ofString "move"), .str z]) ht2
          have S3 := Same.new (o := .lst [.ref t1, .ref t2]) hl
          have hdr8 := Dr.ext (base ((S1.trans S2).trans S3)) hdr7
          refine ⟨l, twoM d, rfl, .lst (SqL.of upd_same) (.cons (.tup (SqT.of ((S2.trans S3) _ _ upd_same)) (.cons (.str _) (.cons hdr8 .nil))) (.cons (.tup (SqT.of (S3 _ _ upd_same)) (.cons (.str _) (.cons hdr8 .nil))) .nil)), twoM_show hd1, twoM_depth hd2, twoM_shown hd3, rfl, ?_⟩
          exact (show ∀ (b : Bool) (J : Hp), b = true → ExtN H J → Tabs TT J → Q (.bl b) J from fun b J hb he ht => by rw [hb]; exact k J he ht) _ _ (decide_eq_true rfl) ((E6.trans (base hS)).trans (base ((S1.trans S2).trans S3))) ((T6.ext hS).ext ((S1.trans S2).trans S3))
      · obtain ⟨t, ty, kt⟩ := NoStr.ext E6 ns
        refine ⟨_, rfl, _, _, _, _, false, rfl, .ty "str", ty, kt, false, rfl, iteF ⟨by show 0 ≤ sizeLine; decide, fun D hD => ?_⟩⟩
        refine ⟨fun σ' H' => σ' = [some v, some (.ref h), some (.ref D), none, none, none] ∧ Same G6 H', ?_, ?_⟩
        · exact ⟨_, rfl, D, _, rfl, .inl (SqL.of upd_same), rfl, _, rfl, ite2 (fun h2 => absurd h2 (by decide)) (fun h2 => iteF ⟨rfl, Same.new hD⟩)⟩
        · rintro σ' H' ⟨rfl, hS⟩
          have hdr7 := Dr.ext (E6.trans (base hS)) hd
          refine ⟨_, rfl, h, twoM d, rfl, .lst (SqL.of (hS _ _ L6)) (.cons (.tup (SqT.of (hS _ _ R6a)) (.cons (.str _) (.cons hdr7 .nil))) (.cons (.tup (SqT.of (hS _ _ R6b)) (.cons (.str _) (.cons hdr7 .nil))) .nil)), twoM_show hd1, twoM_depth hd2, twoM_shown hd3, ?_⟩
          refine ⟨_, rfl, by show 2 ≤ sizeLine; decide, fun t1 ht1 => ⟨_, rfl, by show 2 ≤ sizeLine; decide, fun t2 ht2 => ⟨by show 2 ≤ sizeLine; decide, fun l hl => ?_⟩⟩⟩
          have S1 := Same.new (o := .tup [.str (Str.ofString "move"), v]) ht1
          have S2 := Same.new (o := .tup [.str (Str.ofString "move"), v]) ht2
          have S3 := Same.new (o := .lst [.ref t1, .ref t2]) hl
          have hdr8 := Dr.ext (base ((S1.trans S2).trans S3)) hdr7
          refine ⟨l, twoM d, rfl, .lst (SqL.of upd_same) (.cons (.tup (SqT.of ((S2.trans S3) _ _ upd_same)) (.cons (.str _) (.cons hdr8 .nil))) (.cons (.tup (SqT.of (S3 _ _ upd_same)) (.cons (.str _) (.cons hdr8 .nil))) .nil)), twoM_show hd1, twoM_depth hd2, twoM_shown hd3, rfl, ?_⟩
          exact (show ∀ (b : Bool) (J : Hp), b = true → ExtN H J → Tabs TT J → Q (.bl b) J from fun b J hb he ht => by rw [hb]; exact k J he ht) _ _ (decide_eq_true rfl) ((E6.trans (base hS)).trans (base ((S1.trans S2).trans S3))) ((T6.ext hS).ext ((S1.trans S2).trans S3))
end
end K18

set_option Elab.async false
set_option linter.all false
set_option maxRecDepth 100000
set_option maxHeartbeats 4000000
namespace NX
open PySem L2
/-- for i, x in enumerate(xs), xs a list -/
theorem forEnum {K : PySem.W.Frag} {q : Addr} {items : List V} {tg : TG} {body : TS} {D : Ends} {σ₀ : L2.St} {Ha : Hp} (Iv : Nat → L2.St → Hp → Prop) (start : Iv 0 σ₀ Ha) (ls : ∀ j σ Hb, Iv j σ Hb → SqL K Hb q items)
    (turn : ∀ j y σ Hb, items[j]? = some y → Iv j σ Hb → ∀ v Hc, (Ite K q).yld j Hb v Hc → tg v σ Hc fun τ Hd => body { nx := Iv (j + 1), rt := D.rt, bk := D.nx, ct := Iv (j + 1) } τ Hd) (fin : ∀ σ Hb, Iv items.length σ Hb → D.nx σ Hb) :
    ∃ W : Nat → Nat → L2.St → Hp → Prop, (∃ k, W 0 k σ₀ Ha) ∧ ∀ j k σ Hb, W j k σ Hb → ((Ite K q).stop j Hb ∧ D.nx σ Hb) ∨ ((Ite K q).go j Hb ∧ ∃ N : L2.St → Hp → Prop, (∀ τ Hc, N τ Hc → ∃ k', k' < k ∧ W (j + 1) k' τ Hc) ∧
      ∀ v Hc, (Ite K q).yld j Hb v Hc → tg v σ Hc fun τ Hd => body { nx := N, rt := D.rt, bk := D.nx, ct := N } τ Hd) := by
  refine ⟨fun j k σ Hb => k + j = items.length ∧ Iv j σ Hb, ⟨items.length, rfl, start⟩, fun j k σ Hb ⟨e, iv⟩ => ?_⟩
  have q0 := ls j σ Hb iv
  cases k with
  | zero =>
    have e' : j = items.length := by omega
    subst e'
    exact .inl ⟨⟨items, q0, Nat.le_refl _⟩, fin σ Hb iv⟩
  | succ k =>
    have hj : j < items.length := by omega
    refine .inr ⟨⟨items, items[j], q0, by simp [hj]⟩, Iv (j + 1), fun τ Hc z => ⟨k, Nat.lt_succ_self k, by omega, z⟩, fun v Hc y => turn j items[j] σ Hb (by simp [hj]) iv v Hc y⟩
end NX
namespace K18
open PySem L2 NX LamX
/-- all stays but the pen and the tables -/
def Keep (p : Addr) (H H' : Hp) : Prop := ∀ b o, H b = some o → b ≠ p → (∀ ps, o ≠ .tbl ps) → H' b = some o
theorem Keep.refl {p : Addr} {H : Hp} : Keep p H H := fun _ _ h _ _ => h
theorem Keep.trans {p : Addr} {H H1 H2 : Hp} (a : Keep p H H1) (b : Keep p H1 H2) : Keep p H H2 := fun c o h n m => b c o (a c o h n m) n m
theorem Keep.ext {p : Addr} {H H' : Hp} (s : ExtN H H') : Keep p H H' := fun b o h _ m => s b o h m
theorem Keep.but {p : Addr} {H H' : Hp} (s : But p H H') : Keep p H H' := fun b o h n _ => s b o h n
theorem Keep.same {p : Addr} {H H' : Hp} (s : Same H H') : Keep p H H' := fun b o h _ _ => s b o h
/-- the pen stays through what keeps all but the tables -/
theorem Pen.ext {H H' : Hp} {p c : Addr} {ns : List Int} {at_ rest : Int} (P : Pen H p c ns at_ rest) (s : ExtN H H') : Pen H' p c ns at_ rest := ⟨s _ _ P.hp (by intro q e; cases e), s _ _ P.hc (by intro q e; cases e), P.la, P.lr⟩
/-- the tables stay while the pen draws -/
theorem tabsBut {TT : List (Addr × Str)} {H H' : Hp} {p : Addr} {xs : List V} (t : Tabs TT H) (hp : H p = some (.lst xs)) (s : But p H H') : Tabs TT H' := fun e he => by
  obtain ⟨ps, a, b, c⟩ := t e he
  refine ⟨ps, s _ _ a (fun z => by rw [z, hp] at a; cases a), b, fun pos cv hc => ?_⟩
  obtain ⟨c', e1, e2⟩ := c pos cv hc
  exact ⟨c', e1, s _ _ e2 (fun z => by rw [z, hp] at e2; unfold CodeO at e2; cases e2)⟩
/-- the four lists of kinds, and the dict that tells them -/
structure KinD (H : Hp) (kd : Addr) (ks : List Addr) : Prop where
  d : ∃ k1 k2 k3 k4, ks = [k1, k2, k3, k4] ∧ H kd = some (.dK [(.inr "load", .ref k1), (.inr "again", .ref k2), (.inr "store", .ref k3), (.inr "forget", .ref k4)]) ∧
    H k1 = some (.lst (kinOf "load")) ∧ H k2 = some (.lst (kinOf "again")) ∧ H k3 = some (.lst (kinOf "store")) ∧ H k4 = some (.lst (kinOf "forget"))
/-- a dict is written over: the tables stay -/
theorem tabsPutD {TT : List (Addr × Str)} {H : Hp} {h : Addr} {xs ys : List (Key × V)} (t : Tabs TT H) (hh : H h = some (.dK xs)) : Tabs TT (upd H h (.dK ys)) := fun p hp => by
  obtain ⟨ps, a, b, c⟩ := t p hp
  refine ⟨ps, ?_, b, fun pos cv hc => ?_⟩
  · rw [upd_ne (fun e => by rw [e, hh] at a; cases a)]
    exact a
  · obtain ⟨c', e1, e2⟩ := c pos cv hc
    refine ⟨c', e1, ?_⟩
    rw [upd_ne (fun e => by rw [e, hh] at e2; unfold CodeO at e2; cases e2)]
    exact e2
def wordsL : List V := [.str (Str.ofString "load"), .str (Str.ofString "again"), .str (Str.ofString "store"), .str (Str.ofString "forget")]
/-- what the law's loops keep -/
structure LawI (TT : List (Addr × Str)) (p c : Addr) (ms : List Int) (wl kd : Addr) (ks : List Addr) (B : Int) (H : Hp) : Prop where
  pen : ∃ at' rest', Pen H p c ms at' rest' ∧ at' ≤ B
  hwl : H wl = some (.lst wordsL)
  wp : wl ≠ p
  kp : ∀ k ∈ ks, k ≠ p
  hkd : KinD H kd ks
  tab : Tabs TT H
theorem KinD.keep {H H' : Hp} {p kd : Addr} {ks : List Addr} {xs : List V} (h : KinD H kd ks) (hp : H p = some (.lst xs)) (hk : ∀ k ∈ ks, k ≠ p) (s : Keep p H H') : KinD H' kd ks := by
  obtain ⟨k1, k2, k3, k4, rfl, d, a1, a2, a3, a4⟩ := h.d
  have n : kd ≠ p := fun e => by rw [e, hp] at d; cases d
  exact ⟨k1, k2, k3, k4, rfl, s _ _ d n (by intro q e; cases e), s _ _ a1 (hk k1 (by simp)) (by intro q e; cases e), s _ _ a2 (hk k2 (by simp)) (by intro q e; cases e), s _ _ a3 (hk k3 (by simp)) (by intro q e; cases e), s _ _ a4 (hk k4 (by simp)) (by intro q e; cases e)⟩
/-- a draw -/
theorem LawI.drawn {TT : List (Addr × Str)} {p c : Addr} {ms : List Int} {wl kd : Addr} {ks : List Addr} {B B' : Int} {H H' : Hp} (h : LawI TT p c ms wl kd ks B H) (hd : But p H H') (hp : ∃ a r, Pen H' p c ms a r ∧ a ≤ B') : LawI TT p c ms wl kd ks B' H' := by
  obtain ⟨a, r, P, _⟩ := h.pen
  exact ⟨hp, hd _ _ h.hwl h.wp, h.wp, h.kp, h.hkd.keep P.hp h.kp (Keep.but hd), tabsBut h.tab P.hp hd⟩
/-- something new is made -/
theorem LawI.same {TT : List (Addr × Str)} {p c : Addr} {ms : List Int} {wl kd : Addr} {ks : List Addr} {B : Int} {H H' : Hp} (h : LawI TT p c ms wl kd ks B H) (s : Same H H') : LawI TT p c ms wl kd ks B H' := by
  obtain ⟨a, r, P, ha⟩ := h.pen
  exact ⟨⟨a, r, P.same s, ha⟩, s _ _ h.hwl, h.wp, h.kp, h.hkd.keep P.hp h.kp (Keep.same s), h.tab.ext s⟩
/-- a table has grown -/
theorem LawI.ext {TT : List (Addr × Str)} {p c : Addr} {ms : List Int} {wl kd : Addr} {ks : List Addr} {B : Int} {H H' : Hp} (h : LawI TT p c ms wl kd ks B H) (s : ExtN H H') (t : Tabs TT H') : LawI TT p c ms wl kd ks B H' := by
  obtain ⟨a, r, P, ha⟩ := h.pen
  exact ⟨⟨a, r, P.ext s, ha⟩, s _ _ h.hwl (by intro q e; cases e), h.wp, h.kp, h.hkd.keep P.hp h.kp (Keep.ext s), t⟩
theorem LawI.mono {TT : List (Addr × Str)} {p c : Addr} {ms : List Int} {wl kd : Addr} {ks : List Addr} {B B' : Int} {H : Hp} (h : LawI TT p c ms wl kd ks B H) (hb : B ≤ B') : LawI TT p c ms wl kd ks B' H := by
  obtain ⟨a, r, P, ha⟩ := h.pen
  exact ⟨⟨a, r, P, Int.le_trans ha hb⟩, h.hwl, h.wp, h.kp, h.hkd, h.tab⟩
theorem newAt {H : Hp} {a : Addr} {o : HO} (h : H a = none) : upd H a o a = some o := upd_same
theorem strOk_of {a : Str} (h : okS a) : PyData.strOk a = true := by
  show a.cps.all (fun x => decide (x < 1114112)) = true
  rw [← Array.all_toList, List.all_eq_true]
  exact fun c hc => decide_eq_true (Nat.lt_trans (h c hc) (by decide))
def three (a b c : Str) : PyData := .list [.str a, .str b, .str c]
theorem eqv3 (a b c : Str) : PyData.eqv (three a b c) (three a b c) = true := by
  show (a == a && (b == b && (c == c && true))) = true
  simp
theorem shaped3 {a b c : Str} (ha : okS a) (hb : okS b) (hc : okS c) : SeqAt.shaped (three a b c) = true := by
  have e : SeqAt.shaped (three a b c) = ((PyData.strOk a && (PyData.strOk b && (PyData.strOk c && true))) && true) := rfl
  rw [e, strOk_of ha, strOk_of hb, strOk_of hc]
  rfl
theorem dp3 {K : PySem.W.Frag} {H : Hp} (a b c : Str) : DpAll K H [.str a, .str b, .str c] [.str a, .str b, .str c] := .cons (.str _) (.cons (.str _) (.cons (.str _) .nil))
def kinP (wd : Str) : PyData := .list [.bool true, .bool (decide (wd = "load") || decide (wd = "again")), .bool (decide (wd = "load")), .bool (decide (wd = "again")), .bool (decide (wd = "store")), .bool (decide (wd = "forget"))]
theorem eqvK (wd : Str) : PyData.eqv (kinP wd) (kinP wd) = true := by
  show ((true == true) && (_ == _ && (_ == _ && (_ == _ && (_ == _ && (_ == _ && true)))))) = true
  simp
theorem shapedK (wd : Str) : SeqAt.shaped (kinP wd) = true := rfl
theorem dpK {K : PySem.W.Frag} {H : Hp} {q : Addr} {wd : Str} (h : H q = some (.lst (kinOf wd))) : Dp K H (.ref q) (kinP wd) := .lst (SqL.of h) (.cons (.bl _) (.cons (.bl _) (.cons (.bl _) (.cons (.bl _) (.cons (.bl _) (.cons (.bl _) .nil))))))
/-- the kinds that the dict tells of a word -/
theorem KinD.get {H : Hp} {kd : Addr} {ks : List Addr} (h : KinD H kd ks) {wd : Str} (hw : isW wd = true) : ∃ q, DGet H kd (.str wd) (some (.ref q)) ∧ H q = some (.lst (kinOf wd)) := by
  obtain ⟨k1, k2, k3, k4, rfl, d, a1, a2, a3, a4⟩ := h.d
  rcases isW_cases hw with e | e | e | e <;> subst e
  · exact ⟨k1, .inl ⟨_, .inr (Str.ofString "load"), .inl d, rfl, rfl⟩, a1⟩
  · exact ⟨k2, .inl ⟨_, .inr (Str.ofString "again"), .inl d, rfl, rfl⟩, a2⟩
  · exact ⟨k3, .inl ⟨_, .inr (Str.ofString "store"), .inl d, rfl, rfl⟩, a3⟩
  · exact ⟨k4, .inl ⟨_, .inr (Str.ofString "forget"), .inl d, rfl, rfl⟩, a4⟩
theorem IsMove.but {m : M4} {H H' : Hp} {p x : Addr} {wd n : Str} {xs : List V} (h : IsMove m H x wd n) (hp : H p = some (.lst xs)) (s : But p H H') : IsMove m H' x wd n := by
  obtain ⟨dx, a, b, c⟩ := h
  exact ⟨dx, a, b, s _ _ c (fun e => by rw [e, hp] at c; cases c)⟩
/-- the answer to what is no name, as data -/
def oneN (d : PyData) : PyData := .tuple [.str (Str.ofString "name"), d]
theorem oneN_show {d : PyData} (h : d.showable = true) : (oneN d).showable = true := by
  have e : (oneN d).showable = (true && (d.showable && true)) := rfl
  rw [e, h]
  rfl
theorem oneN_depth {d : PyData} (h : d.depth ≤ 3) : (oneN d).depth ≤ 50 := by
  have e : (oneN d).depth = max 0 (max d.depth 0) + 1 := rfl
  rw [e]
  omega
theorem oneN_shown {d : PyData} (h : d.shown.length ≤ 100000) : (oneN d).shown.length ≤ sizeLine := by
  show (Str.ofString "(" ++ (reprText (Str.ofString "name") ++ Str.ofString ", " ++ d.shown) ++ Str.ofString ")").length ≤ sizeLine
  repeat rw [Str.length_append]
  have a : (Str.ofString "(").length = 1 := by decide +kernel
  have b : (Str.ofString ", ").length = 2 := by decide +kernel
  have c : (Str.ofString ")").length = 1 := by decide +kernel
  have r : (reprText (Str.ofString "name")).length = 6 := by decide +kernel
  exact Nat.le_trans (by omega : _ ≤ 300000) (by decide)
theorem words_at {j : Nat} {y : V} (hy : wordsL[j]? = some y) : ∃ wd, y = .str wd ∧ isW wd = true := by
  match j, hy with
  | 0, hy => exact ⟨_, (Option.some.inj hy).symm, by decide +kernel⟩
  | 1, hy => exact ⟨_, (Option.some.inj hy).symm, by decide +kernel⟩
  | 2, hy => exact ⟨_, (Option.some.inj hy).symm, by decide +kernel⟩
  | 3, hy => exact ⟨_, (Option.some.inj hy).symm, by decide +kernel⟩
  | k + 4, hy => exact absurd hy (by simp [wordsL])
def twoB (b : Bool) : PyData := .list [.bool b, .bool (!b)]
theorem eqv2 (b : Bool) : PyData.eqv (twoB b) (twoB b) = true := by
  show (b == b && ((!b) == (!b) && true)) = true
  simp
end K18

set_option Elab.async false
set_option linter.all false
set_option maxRecDepth 100000
set_option maxHeartbeats 8000000
namespace K18
open PySem L2 NX LamX
abbrev sLaw : Stmt := top 28
theorem scLaw : FnScope ["_law_script", "_law_pen_here", "_law_words", "_law_kin_here", "_law_go", "_law_name_here", "_law_other", "_law_at", "_law_word", "_law_move", "_law_also", "_law_second", "_law_due", "_law_twin", "_law_odd_here", "_law_heard_here"] ["_law_script"] (defScope sLaw) := ⟨rfl, rfl, rfl, by decide +kernel, rfl, by decide +kernel, by decide +kernel⟩
/-- what the law uses beside what _law_read_right uses -/
structure LawTxt (P : Program) (w : World) (K : PySem.W.Frag) (mg : Str → Option Value) (base : Heap) (m : M4) (CMv : Addr) (TT : List (Addr × Str)) : Prop where
  kstr : PySem.W.kitOne K (.type "str") (.ref CMv) = some false
  ktup : PySem.W.kitOne K (.type "tuple") (.ref CMv) = some false
  pen : C8.Cal P w K mg base 1 "_law_pen" (spPen K) []
  name : C8.Cal P w K mg base 3 "_law_name" spName []
  odd : C8.Cal P w K mg base 3 "_law_odd" (spOdd K) []
  bent : C8.Cal P w K mg base 3 "_law_bent" (spBent K) []
  kin : C8.Cal P w K mg base 1 "_law_kin" (spKin m) []
  rr : ∃ f fd, FnG P w K mg base 8 f fd ["_law_thing"] (spRR K TT) ∧ mg "_law_read_right" = some (.ref f) ∧ PySem.W.keepIn K (.ref f) = true ∧ Binds K fd ["_law_thing"] []
def spLaw (K : PySem.W.Frag) (TT : List (Addr × Str)) : Sp := fun vs H Q _ => ∃ (a : Addr) (ns : List Int), vs = [.ref a] ∧ SqL K H a (ns.map V.int) ∧ Tabs TT H ∧ ∀ H', Q (.bl true) H'
section
variable {P : Program} {w : World} {K : PySem.W.Frag} {mg : Str → Option Value} {base : Heap}
theorem ok_law {m : M4} {CMv CS CM CN fH fI : Addr} {fdH : FuncData} {f c Pc : Addr} {fd : FuncData} {TT : List (Addr × Str)} (F : FunC K "law" sLaw f fd c) (X : RRTxt P w K mg base m CMv CS CM CN fH fI fdH) (Y : LawTxt P w K mg base m CMv TT) (TB : TabB base mg c Pc)
    (hmT : (Pc, Str.ofString "law.<locals>.<lambda>") ∈ TT) (hu2 : ∀ p ∈ TT, p.1 = Pc → p.2 = Str.ofString "law.<locals>.<lambda>") : FnG P w K mg base 10 f fd ["_law_script"] (spLaw K TT) := by
  obtain ⟨T, E, gMv, _, FH, gH, hbH, mv, ⟨fMd, fdMd, FMd, gMd, kMd, hbMd⟩, ⟨fEq, fdEq, FEq, hbEq, cEq⟩, ⟨fSt, fdSt, FSt, hbSt, cSt⟩, _, S, ⟨CBr, kin⟩⟩ := X
  obtain ⟨kstr, ktup, cPen, cName, cOdd, cBent, cKin, ⟨fRR, fdRR, FRR, gRR, kRR, hbRR⟩⟩ := Y
  obtain ⟨oc, od, kV, doc, pm, an, ct, osl, rfl, lk, hcd⟩ := F.ex
  obtain ⟨ocH, odH, kVH, docH, pmH, anH, cdvH, ctH, oslH, rfl, lkH, hcH⟩ := FH.ex
  refine ⟨fun vs H Q E h => ?_, fun A st s H args us vs Q gd hr0 e0 hb rv h => ?_⟩
  · obtain ⟨a, ns, rfl, _⟩ := h
    rfl
  · obtain ⟨a, ns, rfl, hS, hTb, k⟩ := h
    refine run_ofS (k := 9) (N := ["_law_script", "_law_pen_here", "_law_words", "_law_kin_here", "_law_go", "_law_name_here", "_law_other", "_law_at", "_law_word", "_law_move", "_law_also", "_law_second", "_law_due", "_law_twin", "_law_odd_here", "_law_heard_here"]) (ps := ["_law_script"]) lk hcd scLaw hr0 e0 hb rv rfl fun hr => ?_
    have gd : (A.deeper (PyProof.Rows.envOfC "law" (defScope sLaw) s.heap.objs.size f (.ref c))).guards = some [] := gd
    have hu := hr.units0
    refine ⟨_, PSs.nox (pss_cons (ps_set (i := 1) scLaw.nd rfl (Or.inl rfl) (C8.pe_c cPen hr (by decide) rfl (pa_cons (pv 0) pa_nil)))
      (pss_cons (ps_set (i := 2) scLaw.nd rfl (Or.inl rfl) (pe_lst (pa_cons pe_str (pa_cons pe_str (pa_cons pe_str (pa_cons pe_str pa_nil))))))
      (pss_cons (ps_set (i := 3) scLaw.nd rfl (Or.inl rfl) (pe_disp (pps_cons pe_str (pe_lst (pa_cons pe_bl (pa_cons pe_bl (pa_cons pe_bl (pa_cons pe_bl (pa_cons pe_bl (pa_cons pe_bl pa_nil))))))) (pps_cons pe_str (pe_lst (pa_cons pe_bl (pa_cons pe_bl (pa_cons pe_bl (pa_cons pe_bl (pa_cons pe_bl (pa_cons pe_bl pa_nil))))))) (pps_cons pe_str (pe_lst (pa_cons pe_bl (pa_cons pe_bl (pa_cons pe_bl (pa_cons pe_bl (pa_cons pe_bl (pa_cons pe_bl pa_nil))))))) (pps_cons pe_str (pe_lst (pa_cons pe_bl (pa_cons pe_bl (pa_cons pe_bl (pa_cons pe_bl (pa_cons pe_bl (pa_cons pe_bl pa_nil))))))) pps_nil)))) rfl rfl (by intro h; cases h) (by decide)))
      (pss_cons (ps_for PassesOwn.never rfl (pi_range1 (by rfl) T.brange (pa_cons pe_int pa_nil)) (pg_name (i := 4) scLaw.nd rfl (Or.inl rfl)) (pss_cons (ps_par (i := 5) (j := 6) (by rfl) scLaw.nd rfl rfl (by decide) rfl rfl (pa_cons (C8.pe_c cName hr (by decide) rfl (pa_cons (pv 1) pa_nil)) (pa_cons (C8.pe_c cName hr (by decide) rfl (pa_cons (pv 1) pa_nil)) pa_nil)) (by rfl))
      (pss_one (ps_for PassesOwn.never rfl (pi_enum (by rfl) T.benumerate (pa_cons (pv 2) pa_nil)) (pg_tup rfl (pgs_cons (pg_name (i := 7) scLaw.nd rfl (Or.inl rfl)) (pgs_cons (pg_name (i := 8) scLaw.nd rfl (Or.inr rfl)) pgs_nil))) (pss_cons (ps_set (i := 9) scLaw.nd rfl (Or.inl rfl) (pe_callS (CX := CX P w) (E := fun _ => L2.E0) FMd (hr.mono (by decide)) rfl gMd kMd hbMd (fun σ pins H s e s' I h => passL pins σ H s e s' I h) (pa_cons (pv 8) (pa_cons (pv 5) pa_nil))))
      (pss_cons (ps_if (pt_cmpR (op_neD hr.units) (pe_lst (pa_cons (pe_fld (pv 9) rfl) (pa_cons (pe_fld (pv 9) rfl) (pa_cons (pe_callTy (call_strOwn FSt hbSt pass0 (hr.mono (by decide : 3 ≤ 9))) (by rfl) T.bstr (by decide +kernel) (pa_cons (pv 9) pa_nil)) pa_nil)))) (pe_lst (pa_cons (pv 8) (pa_cons (pv 5) (pa_cons (pe_op op_add_str (pe_op op_add_str (pv 8) pe_str) (pv 5)) pa_nil)))) (nomark _)) (pss_one (ps_ret pe_bl)) pss_nil)
      (pss_cons (ps_if (pt_cmpR (op_neD hr.units) (C8.pe_c cKin hr (by decide) rfl (pa_cons (pv 9) pa_nil)) (pe_dget (hu_of hr) (pv 3) (pv 8) (fun _ _ => rfl)) (nomark _)) (pss_one (ps_ret pe_bl)) pss_nil)
      (pss_cons (ps_for PassesOwn.never rfl (pi_list (pv 2)) (pg_name (i := 10) scLaw.nd rfl (Or.inl rfl)) (pss_one (ps_for PassesOwn.never rfl (pi_tup (pe_tup (pa_cons (pv 5) (pa_cons (pv 6) pa_nil)))) (pg_name (i := 11) scLaw.nd rfl (Or.inl rfl)) (C8.pss_cut (ps_set (i := 12) scLaw.nd rfl (Or.inl rfl) (pe_and (pe_cmpR op_eq (pv 8) (pv 10) (nomark _)) (pe_one (pe_cmpR op_eq (pv 5) (pv 11) (nomark _)))))
      (pss_cons (ps_set (i := 13) scLaw.nd rfl (Or.inl rfl) (pe_callS (CX := CX P w) (E := fun _ => L2.E0) FMd (hr.mono (by decide)) rfl gMd kMd hbMd (fun σ pins H s e s' I h => passL pins σ H s e s' I h) (pa_cons (pv 10) (pa_cons (pv 11) pa_nil))))
      (pss_one (ps_if (pt_cmpR (op_neD hr.units) (pe_lst (pa_cons (pe_cmpR (op_eqOwn FEq hbEq pass0 (hr.mono (by decide : 1 ≤ 9))) (pv 9) (pv 13) (nomark _)) (pa_cons (pe_cmpR (op_neOwn FEq hbEq pass0 (hr.mono (by decide : 2 ≤ 9))) (pv 9) (pv 13) (nomark _)) pa_nil))) (pe_lst (pa_cons (pv 12) (pa_cons (pe_not (pv 12)) pa_nil))) (nomark _)) (pss_one (ps_ret pe_bl)) pss_nil)))))))
      (pss_cons (ps_set (i := 14) scLaw.nd rfl (Or.inr rfl) (C8.pe_c cOdd hr (by decide) rfl (pa_cons (pv 1) pa_nil)))
      (pss_cons (ps_set (i := 15) scLaw.nd rfl (Or.inl rfl) (pe_lamcall (T := TT) (TT := THeard CM CN) (c := c) (P := Pc) (Ng := ["_law_ask", "_law_caught", "error"]) (a := "_law_ask") (t := fun E => tCallS (spMade K m CN) (fun _ => E) (tCons (tVar 8) (tCons (tVar 14) tNil))) rfl gH FH.kp lkH hcH hbH scHeard rfl (Or.inl rfl) (heard_gives T E) TB rfl hmT hu2 (k := 5) (hr.mono (by decide)) (lamS_by (sc := defScope sLaw) (by decide +kernel)) rfl (fun _ _ _ _ _ => rfl) (fun A outer s H E f c' hr2 => pe_callS (CX := CX P w) (E := fun _ => E) FMd hr2 rfl gMd kMd hbMd (fun σ pins H s e s' I h => passOf (takes_of rfl rfl rfl rfl) pins σ H s e s' I h) (pa_cons (pv 8) (pa_cons (pv 14) pa_nil)))))
      (pss_cons (ps_if (PW.pt (pw_or (pt_not (pt_val (pe_callB call_isi (by rfl) T.bisinstance (by decide +kernel) (pa_cons (pv 15) (pa_cons (pe_bltn (v := .ty "tuple") (by rfl) T.btuple (by decide +kernel) rfl) pa_nil))))) (pw_or1 (pt_cmpR op_ne (pe_callB (call_repr gd hr.units S) (by rfl) T.brepr (by decide +kernel) (pa_cons (pv 15) pa_nil)) (pe_callB (call_repr gd hr.units S) (by rfl) T.brepr (by decide +kernel) (pa_cons (pe_tup (pa_cons pe_str (pa_cons (pv 14) pa_nil))) pa_nil)) (nomark _))))) (pss_one (ps_ret pe_bl)) pss_nil)
      (pss_cons (ps_if (PW.pt (pw_or (pt_not (pt_val (pe_callG FRR gd hr (by decide) rfl gRR kRR hbRR (pa_cons (pe_callTy (call_strOwn FSt hbSt pass0 (hr.mono (by decide : 3 ≤ 9))) (by rfl) T.bstr (by decide +kernel) (pa_cons (pv 9) pa_nil)) pa_nil)))) (pw_or1 (pt_not (pt_val (pe_callG FRR gd hr (by decide) rfl gRR kRR hbRR (pa_cons (C8.pe_c cBent hr (by decide) rfl (pa_cons (pv 1) (pa_cons (pe_callTy (call_strOwn FSt hbSt pass0 (hr.mono (by decide : 3 ≤ 9))) (by rfl) T.bstr (by decide +kernel) (pa_cons (pv 9) pa_nil)) pa_nil))) pa_nil))))))) (pss_one (ps_ret pe_bl)) pss_nil)
      (pss_one (ps_if (PW.pt (pw_or (pt_cmpR (op_eqOwn FEq hbEq pass0 (hr.mono (by decide : 1 ≤ 9))) (pv 9) (pe_callTy (call_strOwn FSt hbSt pass0 (hr.mono (by decide : 3 ≤ 9))) (by rfl) T.bstr (by decide +kernel) (pa_cons (pv 9) pa_nil)) (nomark _)) (pw_or1 (pt_cmpR (op_eqOwn FEq hbEq pass0 (hr.mono (by decide : 1 ≤ 9))) (pv 9) (pe_tup (pa_cons (pv 8) (pa_cons (pv 5) pa_nil))) (nomark _))))) (pss_one (ps_ret pe_bl)) pss_nil))))))))))))))
      (pss_one (ps_ret pe_bl)))))), ?_⟩
    refine ⟨_, rfl, a, ns, rfl, hS, fun p c ms H1 hp P1 s1 => ?_⟩
    refine ⟨by show 4 ≤ sizeLine; decide, fun wl hwl => fun kd hkd => ?_⟩
    refine ⟨by show 6 ≤ sizeLine; decide, fun k1 h1 => ⟨by show 6 ≤ sizeLine; decide, fun k2 h2 => ⟨by show 6 ≤ sizeLine; decide, fun k3 h3 => ⟨by show 6 ≤ sizeLine; decide, fun k4 h4 => ?_⟩⟩⟩⟩
    have T1 : Tabs TT H1 := hTb.ext s1
    have S2 := Same.new (o := .lst [V.str (Str.ofString "load"), V.str (Str.ofString "again"), V.str (Str.ofString "store"), V.str (Str.ofString "forget")]) hwl
    have S3 := Same.new (o := .dK []) hkd
    have S4 := Same.new (o := .lst [V.bl true, V.bl true, V.bl true, V.bl false, V.bl false, V.bl false]) h1
    have S5 := Same.new (o := .lst [V.bl true, V.bl true, V.bl false, V.bl true, V.bl false, V.bl false]) h2
    have S6 := Same.new (o := .lst [V.bl true, V.bl false, V.bl false, V.bl false, V.bl true, V.bl false]) h3
    have S7 := Same.new (o := .lst [V.bl true, V.bl false, V.bl false, V.bl false, V.bl false, V.bl true]) h4
    have SA := S2.trans (S3.trans (S4.trans (S5.trans (S6.trans S7))))
    have gw := (S3.trans (S4.trans (S5.trans (S6.trans S7)))) _ _ (newAt hwl)
    have gd0 := (S4.trans (S5.trans (S6.trans S7))) _ _ (newAt hkd)
    have g1 := (S5.trans (S6.trans S7)) _ _ (newAt h1)
    have g2 := (S6.trans S7) _ _ (newAt h2)
    have g3 := S7 _ _ (newAt h3)
    have g4 := newAt (o := .lst [V.bl true, V.bl false, V.bl false, V.bl false, V.bl false, V.bl true]) h4
    have PA := P1.same SA
    have TA := T1.ext SA
    clear S2 S3 S4 S5 S6 S7 h1 h2 h3 h4 hwl hkd
    show tPairs [] _ (upd (upd (upd (upd (upd (upd H1 wl (.lst [V.str (Str.ofString "load"), V.str (Str.ofString "again"), V.str (Str.ofString "store"), V.str (Str.ofString "forget")])) kd (.dK [])) k1 (.lst [V.bl true, V.bl true, V.bl true, V.bl false, V.bl false, V.bl false])) k2 (.lst [V.bl true, V.bl true, V.bl false, V.bl true, V.bl false, V.bl false])) k3 (.lst [V.bl true, V.bl false, V.bl false, V.bl false, V.bl true, V.bl false])) k4 (.lst [V.bl true, V.bl false, V.bl false, V.bl false, V.bl false, V.bl true])) _
    generalize (upd (upd (upd (upd (upd (upd H1 wl (.lst [V.str (Str.ofString "load"), V.str (Str.ofString "again"), V.str (Str.ofString "store"), V.str (Str.ofString "forget")])) kd (.dK [])) k1 (.lst [V.bl true, V.bl true, V.bl true, V.bl false, V.bl false, V.bl false])) k2 (.lst [V.bl true, V.bl true, V.bl false, V.bl true, V.bl false, V.bl false])) k3 (.lst [V.bl true, V.bl false, V.bl false, V.bl false, V.bl true, V.bl false])) k4 (.lst [V.bl true, V.bl false, V.bl false, V.bl false, V.bl false, V.bl true])) = G5 at *
    refine ⟨gd0, [(.inr "load", .ref k1), (.inr "again", .ref k2), (.inr "store", .ref k3), (.inr "forget", .ref k4)], rfl, by show 4 ≤ 15; decide, ?_⟩
    have em : mergeK [] [((.inr (Str.ofString "load") : Key), V.ref k1), (.inr (Str.ofString "again"), .ref k2), (.inr (Str.ofString "store"), .ref k3), (.inr (Str.ofString "forget"), .ref k4)] = [((.inr (Str.ofString "load") : Key), V.ref k1), (.inr (Str.ofString "again"), .ref k2), (.inr (Str.ofString "store"), .ref k3), (.inr (Str.ofString "forget"), .ref k4)] := rfl
    rw [em]
    have no : ∀ {b : Addr} {xs : List V}, G5 b = some (.lst xs) → b ≠ kd := fun {b xs} h e => by rw [e, gd0] at h; cases h
    have np : ∀ {b : Addr} {xs : List V}, G5 b = some (.lst xs) → xs ≠ [.ref c, .int 0, .int 0] → b ≠ p := fun {b xs} h hn e => by
      rw [e, PA.hp] at h
      injection h with h
      injection h with h
      exact hn h.symm
    have I0 : LawI TT p c ms wl kd [k1, k2, k3, k4] 0 (upd G5 kd (.dK [(.inr (Str.ofString "load"), .ref k1), (.inr (Str.ofString "again"), .ref k2), (.inr (Str.ofString "store"), .ref k3), (.inr (Str.ofString "forget"), .ref k4)])) := by
      refine ⟨⟨0, 0, ⟨(upd_ne (no PA.hp)).trans PA.hp, (upd_ne (no PA.hc)).trans PA.hc, PA.la, PA.lr⟩, Int.le_refl _⟩, (upd_ne (no gw)).trans gw, np gw (by intro h; cases h), ?_, ⟨k1, k2, k3, k4, rfl, upd_same, (upd_ne (no g1)).trans g1, (upd_ne (no g2)).trans g2, (upd_ne (no g3)).trans g3, (upd_ne (no g4)).trans g4⟩, tabsPutD TA gd0⟩
      intro k hk
      simp only [List.mem_cons, List.not_mem_nil, or_false] at hk
      rcases hk with rfl | rfl | rfl | rfl
      · exact np g1 (by intro h; cases h)
      · exact np g2 (by intro h; cases h)
      · exact np g3 (by intro h; cases h)
      · exact np g4 (by intro h; cases h)
    clear gw gd0 g1 g2 g3 g4 PA TA no np SA
    generalize (upd G5 kd (.dK [(.inr (Str.ofString "load"), .ref k1), (.inr (Str.ofString "again"), .ref k2), (.inr (Str.ofString "store"), .ref k3), (.inr (Str.ofString "forget"), .ref k4)])) = G6 at *
    refine ⟨10, rfl, by decide, by decide, ?_⟩
    refine for_range (fun i σ H' => ∃ x4 x5 x6 x7 x8 x9 x10 x11 x12 x13 x14 x15, σ = [some (.ref a), some (.ref p), some (.ref wl), some (.ref kd), x4, x5, x6, x7, x8, x9, x10, x11, x12, x13, x14, x15] ∧ LawI TT p c ms wl kd [k1, k2, k3, k4] (100 * i) H') ?_ ?_ ?_
    · exact ⟨_, _, _, _, _, _, _, _, _, _, _, _, rfl, I0⟩
    · rintro i σ H' hi ⟨x4, x5, x6, x7, x8, x9, x10, x11, x12, x13, x14, x15, rfl, I⟩
      have hi2 : (i : Int) < 10 := by omega
      obtain ⟨at1, rest1, P2, hat1⟩ := I.pen
      refine ⟨_, rfl, p, c, ms, at1, rest1, rfl, P2, by omega, fun n1 H2 hn1 d1 => ?_⟩
      obtain ⟨at2, rest2, P3, hat2, B3⟩ := d1
      refine ⟨_, rfl, p, c, ms, at2, rest2, rfl, P3, by omega, fun n2 H3 hn2 d2 => ⟨_, _, rfl, ?_⟩⟩
      obtain ⟨at3, rest3, P4, hat3, B4⟩ := d2
      have I3 : LawI TT p c ms wl kd [k1, k2, k3, k4] (100 * i + 16) H3 := I.drawn (B3.trans B4) ⟨at3, rest3, P4, by omega⟩
      clear P2 P3 P4 B3 B4 hat1 hat2 hat3 I
      refine ⟨_, rfl, wl, wordsL, rfl, SqL.of I3.hwl, ?_⟩
      refine forEnum (items := wordsL) (fun j σ H' => ∃ x4 x7 x8 x9 x10 x11 x12 x13 x14 x15, σ = [some (.ref a), some (.ref p), some (.ref wl), some (.ref kd), x4, some (.str n1), some (.str n2), x7, x8, x9, x10, x11, x12, x13, x14, x15] ∧ LawI TT p c ms wl kd [k1, k2, k3, k4] (100 * i + 16 + 10 * j) H') ?_ ?_ ?_ ?_
      · exact ⟨_, _, _, _, _, _, _, _, _, _, rfl, I3.mono (by omega)⟩
      · rintro j σ Hb ⟨_, _, _, _, _, _, _, _, _, _, rfl, I⟩
        exact SqL.of I.hwl
      · rintro j y σ Hb hy ⟨x4, x7, x8, x9, x10, x11, x12, x13, x14, x15, rfl, I⟩ v Hc ⟨tq, x, rfl, htq, rfl, hx⟩
        have hj : j < 4 := by
          obtain ⟨hh, _⟩ := List.getElem?_eq_some_iff.mp hy
          exact hh
        obtain ⟨wd, rfl, hw⟩ : ∃ wd, y = .str wd ∧ isW wd = true := by
          match j, hj, hy with
          | 0, _, hy => exact ⟨_, (Option.some.inj hy).symm, by decide +kernel⟩
          | 1, _, hy => exact ⟨_, (Option.some.inj hy).symm, by decide +kernel⟩
          | 2, _, hy => exact ⟨_, (Option.some.inj hy).symm, by decide +kernel⟩
          | 3, _, hy => exact ⟨_, (Option.some.inj hy).symm, by decide +kernel⟩
        have ex : x = .str wd := Option.some.inj ((hx wordsL (SqL.of I.hwl)).symm.trans hy)
        subst ex
        have I4 := I.same (Same.new (o := .tup [.int j, .str wd]) htq)
        refine ⟨tq, _, rfl, SqT.of upd_same, rfl, _, _, rfl, _, _, rfl, rfl, ?_⟩
        have o1 := okL_w hw
        have o2 := okL_nm hn1
        refine ⟨_, rfl, _, rfl, wd, .str n1, rfl, hw, .inl ⟨n1, ⟨rfl, by have := o2.2; omega, hn1⟩, fun x dx0 H4 hm => ?_⟩⟩
        have Mx := hm.is hw hn1
        have I5 := I4.same hm.1
        obtain ⟨c1, c2, c3⟩ := mv.at_ hw
        clear hm I4 I hx htq
        have Mx0 := Mx
        obtain ⟨dx, _, _, Hx⟩ := Mx0
        refine ⟨_, rfl, x, _, dx, _, _, rfl, Hx, c1, c2, rfl, _, rfl, x, _, dx, _, _, rfl, Hx, c1, c3, rfl, _, rfl, x, _, dx, _, rfl, Hx, cSt wd hw, x, wd, n1, rfl, Mx, _, rfl, by show 3 ≤ sizeLine; decide, fun l1 hl1 => ?_⟩
        refine ⟨_, rfl, _, rfl, _, rfl, _, _, rfl, rfl, o1.fit (okL_c (z := Str.ofString " ") (k := 1) (by decide +kernel)), _, rfl, _, _, rfl, rfl, (o1.append (okL_c (k := 1) (by decide +kernel))).fit o2, by show 3 ≤ sizeLine; decide, fun l2 hl2 => ?_⟩
        rw [← tx_eq]
        have hx3 : okS (tx wd n1) := (okL_tx hw hn1).1
        refine ⟨three wd n1 (tx wd n1), three wd n1 (tx wd n1), .lst (SqL.of ((upd_ne (ne_of_none upd_same hl2)).trans upd_same)) (dp3 _ _ _), .lst (SqL.of upd_same) (dp3 _ _ _), shaped3 o1.1 o2.1 hx3, shaped3 o1.1 o2.1 hx3, ?_⟩
        rw [eqv3]
        refine ⟨_, rfl, iteF ?_⟩
        have S6 := (Same.new (o := .lst [.str wd, .str n1, .str (tx wd n1)]) hl1).trans (Same.new (o := .lst [.str wd, .str n1, .str (tx wd n1)]) hl2)
        have I6 := I5.same S6
        have M6 := IsMove.same S6 Mx
        clear Mx Hx I5
        generalize (upd (upd H4 l1 (.lst [.str wd, .str n1, .str (tx wd n1)])) l2 (.lst [.str wd, .str n1, .str (tx wd n1)])) = G6 at *
        refine ⟨_, rfl, x, wd, n1, rfl, M6, fun q G7 hq s7 hq7 => ?_⟩
        have I7 := I6.same s7
        have M7 := IsMove.same s7 M6
        obtain ⟨qk, hqk, hk⟩ := I7.hkd.get hw
        refine ⟨_, rfl, _, rfl, kd, .ref qk, rfl, hqk, kinP wd, kinP wd, dpK hq7, dpK hk, shapedK wd, shapedK wd, ?_⟩
        rw [eqvK]
        refine ⟨_, rfl, iteF ?_⟩
        clear hqk hk hq7 hq s7 I6 M6
        refine ⟨_, rfl, wl, rfl, ⟨_, SqL.of I7.hwl⟩, ?_⟩
        refine for_list (xs := wordsL) (fun _ σ H' => ∃ x4 x7 x10 x11 x12 x13 x14 x15, σ = [some (.ref a), some (.ref p), some (.ref wl), some (.ref kd), x4, some (.str n1), some (.str n2), x7, some (.str wd), some (.ref x), x10, x11, x12, x13, x14, x15] ∧ LawI TT p c ms wl kd [k1, k2, k3, k4] (100 * i + 16 + 10 * j) H' ∧ IsMove m H' x wd n1) ?_ ?_ ?_ ?_
        · exact ⟨_, _, _, _, _, _, _, _, rfl, I7, M7⟩
        · rintro _ σ Hb _ ⟨_, _, _, _, _, _, _, _, rfl, I, _⟩
          exact SqL.of I.hwl
        · rintro j2 y σ Hb hy2 ⟨x4, x7, x10, x11, x12, x13, x14, x15, rfl, I, Mx⟩
          clear I7 M7
          obtain ⟨also, rfl, hwa⟩ := words_at hy2
          refine ⟨_, rfl, _, rfl, by show 2 ≤ sizeLine; decide, fun tt ht => ⟨tt, rfl, ⟨_, SqT.of upd_same⟩, ?_⟩⟩
          have S := Same.new (o := .tup [.str n1, .str n2]) ht
          refine for_tup (xs := [.str n1, .str n2]) (fun _ σ H' => ∃ x4 x7 x11 x12 x13 x14 x15, σ = [some (.ref a), some (.ref p), some (.ref wl), some (.ref kd), x4, some (.str n1), some (.str n2), x7, some (.str wd), some (.ref x), some (.str also), x11, x12, x13, x14, x15] ∧ LawI TT p c ms wl kd [k1, k2, k3, k4] (100 * i + 16 + 10 * j) H' ∧ IsMove m H' x wd n1 ∧ H' tt = some (.tup [.str n1, .str n2])) ?_ ?_ ?_ ?_
          · exact ⟨_, _, _, _, _, _, _, rfl, I.same S, IsMove.same S Mx, upd_same⟩
          · rintro _ σ Hc _ ⟨_, _, _, _, _, _, _, rfl, _, _, h⟩
            exact SqT.of h
          · rintro j3 y σ Hc hy3 ⟨x4, x7, x11, x12, x13, x14, x15, rfl, I, Mx, hTt⟩
            obtain ⟨sec, rfl, hns⟩ : ∃ sec, y = .str sec ∧ nm sec = true := by
              match j3, hy3 with
              | 0, hy3 => exact ⟨n1, (Option.some.inj hy3).symm, hn1⟩
              | 1, hy3 => exact ⟨n2, (Option.some.inj hy3).symm, hn2⟩
              | k + 2, hy3 => simp at hy3
            refine ⟨fun σ' H' => σ' = [some (.ref a), some (.ref p), some (.ref wl), some (.ref kd), x4, some (.str n1), some (.str n2), x7, some (.str wd), some (.ref x), some (.str also), some (.str sec), some (.bl (decide (wd = also) && decide (n1 = sec))), x13, x14, x15] ∧ H' = Hc, ?_, ?_⟩
            · have e : ∀ a b : Str, decide (V.str a = V.str b) = decide (a = b) := fun a b => by
                rw [Bool.eq_iff_iff, decide_eq_true_eq, decide_eq_true_eq]
                exact ⟨fun h => by injection h, fun h => by rw [h]⟩
              refine ⟨_, rfl, _, rfl, rfl, _, rfl, ite2 (fun h => ?_) (fun h => ?_)⟩
              · refine ⟨_, rfl, _, rfl, rfl, ?_, rfl⟩
                rw [e] at h ⊢
                rw [h, Bool.true_and]
                rfl
              · rw [e] at h
                refine ⟨?_, rfl⟩
                rw [Bool.eq_false_iff.mpr h, Bool.false_and]
                rfl
            · rintro σ' H' ⟨rfl, rfl⟩
              refine ⟨_, rfl, _, rfl, also, .str sec, rfl, hwa, .inl ⟨sec, ⟨rfl, by have := (nm_len hns).2; omega, hns⟩, fun x2 dx2 H4 hm => ?_⟩⟩
              have M2 := hm.is hwa hns
              have I4 := I.same hm.1
              have M1 := IsMove.same hm.1 Mx
              have hT4 := hm.1 _ _ hTt
              have ty2 := kin.ty mv M2
              clear hm I Mx hTt
              have Mx0 := M1
              obtain ⟨dx, _, _, Hx⟩ := Mx0
              refine ⟨_, rfl, _, rfl, x, _, dx, _, _, rfl, Hx, (cEq wd hw).1, (cEq wd hw).2.2.2 also hwa, ty2, x, wd, n1, .ref x2, rfl, M1, .inl ⟨x2, also, sec, rfl, M2, _, rfl, ?_⟩⟩
              refine ⟨_, rfl, _, rfl, x, _, dx, _, _, rfl, Hx, (cEq wd hw).1, (cEq wd hw).2.2.2 also hwa, ty2, x, wd, n1, .ref x2, rfl, M1, .inl ⟨x2, also, sec, rfl, M2, _, rfl, ?_⟩⟩
              refine ⟨by show 2 ≤ sizeLine; decide, fun l1 hl1 => ?_⟩
              refine ⟨_, rfl, _, rfl, _, rfl, by show 2 ≤ sizeLine; decide, fun l2 hl2 => ?_⟩
              refine ⟨twoB (decide (wd = also) && decide (n1 = sec)), twoB (decide (wd = also) && decide (n1 = sec)), .lst (SqL.of ((upd_ne (ne_of_none upd_same hl2)).trans upd_same)) (.cons (.bl _) (.cons (.bl _) .nil)), .lst (SqL.of upd_same) (.cons (.bl _) (.cons (.bl _) .nil)), rfl, rfl, ?_⟩
              rw [eqv2]
              refine ⟨_, rfl, iteF ?_⟩
              have S1 := Same.new (o := .lst [.bl (if false = true then !(decide (wd = also) && decide (n1 = sec)) else (decide (wd = also) && decide (n1 = sec))), .bl (if true = true then !(decide (wd = also) && decide (n1 = sec)) else (decide (wd = also) && decide (n1 = sec)))]) hl1
              have S2 := Same.new (o := .lst [.bl (decide (wd = also) && decide (n1 = sec)), .bl (!(decide (wd = also) && decide (n1 = sec)))]) hl2
              exact ⟨_, _, _, _, _, _, _, rfl, I4.same (S1.trans S2), IsMove.same (S1.trans S2) M1, (S1.trans S2) _ _ hT4⟩
          · rintro σ Hc ⟨x4, x7, x11, x12, x13, x14, x15, rfl, I, Mx, _⟩
            exact ⟨_, _, _, _, _, _, _, _, rfl, I, Mx⟩
        · rintro σ Hb ⟨x4, x7, x10, x11, x12, x13, x14, x15, rfl, I, Mx⟩
          clear I7 M7
          obtain ⟨at1, rest1, P1, hat1⟩ := I.pen
          have hj2 : (j : Int) < 4 := by omega
          refine ⟨_, rfl, p, c, ms, at1, rest1, rfl, P1, by omega, fun v H2 hnn hsm d2 => ?_⟩
          obtain ⟨at2, rest2, P2, hat2, B2⟩ := d2
          have I2 : LawI TT p c ms wl kd [k1, k2, k3, k4] (100 * i + 16 + 10 * j + 1) H2 := I.drawn B2 ⟨at2, rest2, P2, by omega⟩
          have M2 := Mx.but P1.hp B2
          clear I Mx P1 P2 B2 hat1 hat2
          refine ⟨I2.tab, fun H3 e3 T3 => ⟨_, rfl, _, rfl, wd, v, rfl, hw, .inr ⟨NoNm.ext e3 hnn, fun dd H4 t4 => ?_⟩⟩⟩
          refine ⟨CN, dd, v, Str.ofString "name", rfl, rfl, t4.2.2, .inr ⟨rfl, rfl⟩, fun r H5 s5 nr hr5 => ?_⟩
          have s45 := t4.1.trans s5
          have I5 := (I2.ext e3 T3).same s45
          have M5 := IsMove.same s45 (IsMove.ext e3 M2)
          obtain ⟨d, hd, hd1, hd2, hd3⟩ := Sm.ext (e3.trans (ExtN.of s45)) hsm
          clear I2 M2 hnn hsm e3 T3 t4 s5 s45 nr
          refine ⟨_, rfl, _, _, _, _, true, rfl, .ty "tuple", .base (.tup hr5), kit_ty (by decide +kernel), true, rfl, iteF ?_⟩
          refine ⟨_, rfl, r, oneN d, rfl, .tup (SqT.of hr5) (.cons (.str _) (.cons hd .nil)), oneN_show hd1, oneN_depth hd2, oneN_shown hd3, ?_⟩
          refine ⟨_, rfl, by show 2 ≤ sizeLine; decide, fun t6 ht6 => ?_⟩
          have S6 := Same.new (o := .tup [.str (Str.ofString "name"), v]) ht6
          refine ⟨t6, oneN d, rfl, .tup (SqT.of upd_same) (.cons (.str _) (.cons (Dr.ext (ExtN.of S6) hd) .nil)), oneN_show hd1, oneN_depth hd2, oneN_shown hd3, rfl, _, rfl, ite2 (fun hne => absurd hne (by simp)) (fun _ => ?_)⟩
          have I6 := I5.same S6
          have M6 := IsMove.same S6 M5
          clear I5 M5 hr5 hd
          generalize (upd H5 t6 (.tup [.str (Str.ofString "name"), v])) = G6 at *
          clear S6
          have thL : ∀ G : Hp, Thing K G (.str (tx wd n1)) := fun G => Thing.str (okL_tx hw hn1) (by decide)
          have Mx0 := M6
          obtain ⟨dx, _, _, Hx⟩ := Mx0
          refine ⟨_, rfl, x, _, dx, _, rfl, Hx, cSt wd hw, x, wd, n1, rfl, M6, _, rfl, _, rfl, thL _, I6.tab, fun H7 e7 T7 => ⟨_, rfl, iteF ?_⟩⟩
          have I7 := I6.ext e7 T7
          have M7 := IsMove.ext e7 M6
          clear I6 M6 Hx e7 T7
          have Mx0 := M7
          obtain ⟨dx, _, _, Hx⟩ := Mx0
          obtain ⟨at1, rest1, P1, hat1⟩ := I7.pen
          refine ⟨_, rfl, _, rfl, x, _, dx, _, rfl, Hx, cSt wd hw, x, wd, n1, rfl, M7, _, rfl, p, c, ms, at1, rest1, wd, n1, rfl, hw, hn1, P1, by omega, fun v2 H8 th8 d8 => ?_⟩
          obtain ⟨at2, rest2, P2, hat2, B2⟩ := d8
          have I8 : LawI TT p c ms wl kd [k1, k2, k3, k4] (100 * i + 16 + 10 * j + 3) H8 := I7.drawn B2 ⟨at2, rest2, P2, by omega⟩
          have M8 := M7.but P1.hp B2
          clear I7 M7 P1 P2 B2 hat1 hat2 Hx
          refine ⟨v2, rfl, th8, I8.tab, fun H9 e9 T9 => ⟨_, rfl, iteF ?_⟩⟩
          have I9 := I8.ext e9 T9
          have M9 := IsMove.ext e9 M8
          clear I8 M8 th8 e9 T9
          have Mx0 := M9
          obtain ⟨dx, _, _, Hx⟩ := Mx0
          refine ⟨_, rfl, _, rfl, x, _, dx, _, rfl, Hx, cSt wd hw, x, wd, n1, rfl, M9, _, rfl, x, _, dx, _, .type "str", rfl, Hx, (cEq wd hw).1, (cEq wd hw).2.1, .base (.str _), x, wd, n1, _, rfl, M9, .inr ⟨_, .base (.str _), kstr, _, rfl, _, rfl, iteF ?_⟩⟩
          refine ⟨_, rfl, _, rfl, _, rfl, by show 2 ≤ sizeLine; decide, fun t9 ht9 => ?_⟩
          have S9 := Same.new (o := .tup [.str wd, .str n1]) ht9
          have M10 := IsMove.same S9 M9
          have Mx1 := M10
          obtain ⟨dx1, _, _, Hx1⟩ := Mx1
          refine ⟨x, _, dx1, _, .type "tuple", rfl, Hx1, (cEq wd hw).1, (cEq wd hw).2.2.1, .base (.tup upd_same), x, wd, n1, _, rfl, M10, .inr ⟨_, .base (.tup upd_same), ktup, _, rfl, _, rfl, iteF ?_⟩⟩
          exact ⟨_, _, _, _, _, _, _, _, _, _, rfl, (I9.same S9).mono (by omega)⟩
      · rintro σ H' ⟨x4, x7, x8, x9, x10, x11, x12, x13, x14, x15, rfl, I⟩
        have hl : (wordsL.length : Int) = 4 := rfl
        exact ⟨_, _, _, _, _, _, _, _, _, _, _, _, rfl, I.mono (by omega)⟩
    · rintro σ H' ⟨x4, x5, x6, x7, x8, x9, x10, x11, x12, x13, x14, x15, rfl, I⟩
      exact k H'
end
end K18

set_option Elab.async false
set_option linter.all false
set_option maxRecDepth 100000
set_option maxHeartbeats 8000000
/-! The head: what the written part says, and the chain of the promises up to the law. -/
namespace K18
open PySem L2 NX LamX PySem.Spec PyProof.Rows
section
variable {K : PySem.W.Frag}
theorem kit_self {C : Addr} : PySem.W.kitOne K (.ref C) (.ref C) = some true := by
  unfold PySem.W.kitOne
  rw [if_pos (beq_self_eq_true _)]
theorem kitCls_of {t : Value} {D : Addr} {b : Bool} (i : PySem.W.isClsIn K D = true) (ty : PySem.W.typeIn K (.ref D) = some (.type "type")) (s : PySem.W.subIn K t (.ref D) = some b) : PySem.W.kitCls K t (.ref D) = some b := by
  have e : ((PySem.W.clsIn K D).isSome && PySem.W.typeIn K (.ref D) == some (.type "type")) = true := by
    have i' : (PySem.W.clsIn K D).isSome = true := i
    rw [i', ty] <;> rfl
  show (if ((PySem.W.clsIn K D).isSome && PySem.W.typeIn K (.ref D) == some (.type "type")) = true then PySem.W.subIn K t (.ref D) else none) = some b
  rw [if_pos e]
  exact s
theorem kit_of {t : Value} {D : Addr} {b : Bool} (ne : (t == .ref D) = false) (i : PySem.W.isClsIn K D = true) (ty : PySem.W.typeIn K (.ref D) = some (.type "type")) (s : PySem.W.subIn K t (.ref D) = some b) : PySem.W.kitOne K t (.ref D) = some b := by
  unfold PySem.W.kitOne
  rw [if_neg (by rw [ne]; exact Bool.false_ne_true)]
  exact kitCls_of i ty s
theorem kit_ref {C D : Addr} {b : Bool} (ne : decide (C = D) = false) (i : PySem.W.isClsIn K D = true) (ty : PySem.W.typeIn K (.ref D) = some (.type "type")) (s : PySem.W.subIn K (.ref C) (.ref D) = some b) : PySem.W.kitOne K (.ref C) (.ref D) = some b :=
  kit_of (by
    have n : C ≠ D := of_decide_eq_false ne
    cases q : ((.ref C : Value) == .ref D) with
    | false => rfl
    | true =>
      have z : (Value.ref C) = .ref D := eq_of_beq q
      cases z
      exact absurd rfl n) i ty s
theorem kit_tyr {T : String} {D : Addr} {b : Bool} (i : PySem.W.isClsIn K D = true) (ty : PySem.W.typeIn K (.ref D) = some (.type "type")) (s : PySem.W.subIn K (.type T) (.ref D) = some b) : PySem.W.kitOne K (.type T) (.ref D) = some b :=
  kit_of (by
    cases q : ((.type T : Value) == .ref D) with
    | false => rfl
    | true =>
      have z : (Value.type T) = .ref D := eq_of_beq q
      cases z) i ty s
theorem kit_rty {T : String} {C : Addr} {b : Bool} (m : PySem.W.kitMeta T = true) (s : PySem.W.subIn K (.ref C) (.type T) = some b) : PySem.W.kitOne K (.ref C) (.type T) = some b := by
  have ne : ((.ref C : Value) == .type T) = false := by
    cases q : ((.ref C : Value) == .type T) with
    | false => rfl
    | true =>
      have z : (Value.ref C) = .type T := eq_of_beq q
      cases z
  unfold PySem.W.kitOne
  rw [if_neg (by rw [ne]; exact Bool.false_ne_true)]
  show (if PySem.W.kitMeta T = true then PySem.W.subIn K (.ref C) (.type T) else none) = some b
  rw [if_pos m]
  exact s
theorem exm_of {C S : Addr} {b : Bool} (h1 : PySem.W.subIn K (.ref S) (.type "BaseException") = some true) (i : PySem.W.isClsIn K S = true) (ty : PySem.W.typeIn K (.ref S) = some (.type "type")) (s : PySem.W.subIn K (.ref C) (.ref S) = some b) : PySem.W.exmOne K (.ref C) (.ref S) = some b := by
  have e1 : (PySem.W.subIn K (.ref S) (.type "BaseException") == some true) = true := by rw [h1] <;> rfl
  show (if (PySem.W.subIn K (.ref S) (.type "BaseException") == some true) = true then PySem.W.kitCls K (.ref C) (.ref S) else none) = some b
  rw [if_pos e1]
  exact kitCls_of i ty s
/-- a def as it stands in the written part -/
structure FnF (K : PySem.W.Frag) (x q : Str) (st : Stmt) (f : Addr) : Prop where
  ex : ∃ fd, Fun K x q st f fd
theorem fnF {x q : Str} {st : Stmt} {f : Addr} {oc : Value} {od an : Option Addr} {osl : Array (Option Value)} {kV doc pm cdv ct : Value} (l : K.lookup f = some ⟨oc, od, .func (PySem.W.fnOf x q (defArgs st) (defBody st) (defScope st) .none kV doc pm an cdv ct), osl⟩)
    (c : PySem.W.codeIn K cdv q = true) (k : PySem.W.keepIn K (.ref f) = true) : FnF K x q st f := ⟨⟨_, fun_mk l c k⟩⟩
/-- .. with its code object and the table of that -/
structure FnT (K : PySem.W.Frag) (x : Str) (st : Stmt) (f c Pc : Addr) : Prop where
  ex : ∃ fd, FunC K x st f fd c
  hd : PySem.W.codeHdIn K c Pc = true
theorem fnT {x : Str} {st : Stmt} {f c Pc : Addr} {oc e1 : Value} {od an e2 : Option Addr} {osl sl : Array (Option Value)} {kV doc pm ct : Value} {vs : Array Value}
    (l : K.lookup f = some ⟨oc, od, .func (PySem.W.fnOf x x (defArgs st) (defBody st) (defScope st) .none kV doc pm an (.ref c) ct), osl⟩)
    (cd : PySem.W.codeIn K (.ref c) x = true) (k : PySem.W.keepIn K (.ref f) = true) (lc : K.lookup c = some ⟨e1, e2, .fields vs, sl⟩) (h11 : vs[11]? = some (.ref Pc)) (hd : PySem.W.codeHdIn K c Pc = true) : FnT K x st f c Pc :=
  ⟨⟨_, ⟨oc, od, kV, doc, pm, an, ct, osl, rfl, l, cd⟩, k⟩, hd⟩
end
/-- an error of ours -/
structure ErrF (K : PySem.W.Frag) (x : Str) (C fI CS : Addr) : Prop where
  g : PySem.W.nsIn K mainGlobals x = some (some (.ref C))
  i : PySem.W.findIn K (.ref C) "__init__" = some (some (.ref fI))
  t : PySem.W.typeIn K (.ref fI) = some (.type "function")
  cls : ∃ nm q N bs sn sub ab col dd k0 k1 k2 k3 k5, K.lookup C = some (excClassObj nm q C N bs [.ref CS, .type "ValueError", .type "Exception", .type "BaseException", .type "object"] true sn sub ab col dd k0 k1 k2 k3 k5 "ValueError.__new__")
  sa : PySem.W.findIn K (.ref C) "__setattr__" = some (some (.builtin "object.__setattr__"))
  ex : PySem.W.subIn K (.ref C) (.type "BaseException") = some true
  ty : PySem.W.typeIn K (.ref C) = some (.type "type")
  kp : PySem.W.keepIn K (.ref C) = true
  v : PySem.W.findIn K (.ref C) "value" = some none
  ga : PySem.W.findIn K (.ref C) "__getattribute__" = some (some (.builtin "BaseException.__getattribute__"))
  gg : PySem.W.findIn K (.ref C) "__getattr__" = some none
  hd : PySem.W.hasDictIn K C = true
  cl : PySem.W.findIn K (.ref C) "__class__" = some (some (.builtin "object.__class__"))
  ob : PySem.W.mroIn K C (.type "object") = some true
  ic : PySem.W.isClsIn K C = true
  sS : PySem.W.subIn K (.ref C) (.ref CS) = some true
  sV : PySem.W.subIn K (.ref C) (.type "ValueError") = some true
theorem refs5 (CS : Addr) : PySem.HandSPX.refsVE [.ref CS, .type "ValueError", .type "Exception", .type "BaseException", .type "object"] = true := by
  show PySem.HandSPX.refsVE [.type "ValueError", .type "Exception", .type "BaseException", .type "object"] = true
  decide +kernel
section
variable {P : Program} {w : World} {K : PySem.W.Frag} {mg : Str → Option Value} {base h : Heap}
theorem ErrF.O {x : Str} {C fI CS : Addr} (E : ErrF K x C fI CS) : OexC K C := by
  obtain ⟨nm, q, N, bs, sn, sub, ab, col, dd, k0, k1, k2, k3, k5, e⟩ := E.cls
  exact ⟨⟨nm, q, N, bs, _, sn, sub, ab, col, dd, k0, k1, k2, k3, k5, e, refs5 CS⟩, E.sa, E.ex, E.ty, E.kp⟩
end
/-- a class of moves -/
structure MvF (K : PySem.W.Frag) (fI fEq fSt CMv CBr cL cA cS cF : Addr) (x : Str) (C : Addr) (wd : Str) (bB bL bA bS bF : Bool) : Prop where
  g : PySem.W.nsIn K mainGlobals x = some (some (.ref C))
  pg : PySem.W.plainGet K C Str.empty = true
  hd : PySem.W.hasDictIn K C = true
  po : PySem.W.plainOver K C = true
  sa : PySem.W.findIn K (.ref C) "__setattr__" = some (some (.builtin "object.__setattr__"))
  con : ∃ t, PySem.W.findIn K (.ref C) "WORD" = some (some (.str wd t)) ∧ PySem.W.specialIn K (.str wd t) "__get__" = some none ∧ PySem.W.findCls K (.ref C) (.type "type") "WORD" = some (.val (.str wd t))
  nw : PySem.W.findIn K (.ref C) "word" = some none
  nn : PySem.W.findIn K (.ref C) "name" = some none
  mkC : PySem.W.makesIn K C = true
  ini : PySem.W.findIn K (.ref C) "__init__" = some (some (.ref fI))
  ifn : PySem.W.isFn K (.ref fI) = true
  kp : PySem.W.keepIn K (.ref C) = true
  rd : PySem.W.readsIn K C (.type "type") = true
  ga : PySem.W.specialIn K (.ref C) "__getattribute__" = some (some (.builtin "type.__getattribute__"))
  kMv : PySem.W.kitOne K (.ref C) (.ref CMv) = some true
  kBr : PySem.W.kitOne K (.ref C) (.ref CBr) = some bB
  kL : PySem.W.kitOne K (.ref C) (.ref cL) = some bL
  kA : PySem.W.kitOne K (.ref C) (.ref cA) = some bA
  kS : PySem.W.kitOne K (.ref C) (.ref cS) = some bS
  kF : PySem.W.kitOne K (.ref C) (.ref cF) = some bF
  cl : PySem.W.findIn K (.ref C) "__class__" = some (some (.builtin "object.__class__"))
  ob : PySem.W.mroIn K C (.type "object") = some true
  eq : PySem.W.findIn K (.ref C) "__eq__" = some (some (.ref fEq))
  ne : PySem.W.findIn K (.ref C) "__ne__" = some (some (.builtin "object.__ne__"))
  efn : PySem.W.isFn K (.ref fEq) = true
  st : PySem.W.findIn K (.ref C) "__str__" = some (some (.ref fSt))
  sfn : PySem.W.isFn K (.ref fSt) = true
  fS : PySem.W.notFirst K C (.type "str") = true
  fT : PySem.W.notFirst K C (.type "tuple") = true
  f1 : PySem.W.notFirst K C (.ref cL) = true
  f2 : PySem.W.notFirst K C (.ref cA) = true
  f3 : PySem.W.notFirst K C (.ref cS) = true
  f4 : PySem.W.notFirst K C (.ref cF) = true
section
variable {P : Program} {w : World} {K : PySem.W.Frag} {mg : Str → Option Value} {base h : Heap} {fI fEq fSt CMv CBr cL cA cS cF : Addr}
theorem MvF.mv {x : Str} {C : Addr} {wd : Str} {bB bL bA bS bF : Bool} (F : MvF K fI fEq fSt CMv CBr cL cA cS cF x C wd bB bL bA bS bF) (X : K.In h) (G : h.Ns mainGlobals mg) : MoveC K mg fI x C wd := by
  obtain ⟨t, h1, h2, h3⟩ := F.con
  exact ⟨⟨F.pg, F.hd, F.po, F.sa⟩, ⟨_, h1, ⟨_, rfl⟩, h2, by decide +kernel⟩, F.nw, F.nn, ⟨F.mkC, F.ini, F.ifn, F.kp⟩, PySem.W.mg_of X G F.g, ⟨_, _, ⟨F.rd, F.ga⟩, ⟨h3, ⟨_, rfl⟩⟩⟩⟩
/-- all that is said of moves, by a word -/
structure MvA (K : PySem.W.Frag) (fI fEq fSt CMv CBr cL cA cS cF : Addr) : Prop where
  L : MvF K fI fEq fSt CMv CBr cL cA cS cF "Load" cL "load" true true false false false
  A : MvF K fI fEq fSt CMv CBr cL cA cS cF "Again" cA "again" true false true false false
  S : MvF K fI fEq fSt CMv CBr cL cA cS cF "Store" cS "store" false false false true false
  F : MvF K fI fEq fSt CMv CBr cL cA cS cF "Forget" cF "forget" false false false false true
theorem MvA.at_ (M : MvA K fI fEq fSt CMv CBr cL cA cS cF) : ∀ wd, isW wd = true → ∃ x bB bL bA bS bF, MvF K fI fEq fSt CMv CBr cL cA cS cF x (M4.of ⟨cL, cA, cS, cF⟩ wd) wd bB bL bA bS bF ∧ bB = (decide (wd = "load") || decide (wd = "again")) ∧ bL = decide (wd = "load") ∧ bA = decide (wd = "again") ∧ bS = decide (wd = "store") ∧ bF = decide (wd = "forget") := fun wd h => by
  rcases isW_cases h with e | e | e | e <;> subst e
  · exact ⟨_, _, _, _, _, _, M.L, by decide +kernel, by decide +kernel, by decide +kernel, by decide +kernel, by decide +kernel⟩
  · exact ⟨_, _, _, _, _, _, M.A, by decide +kernel, by decide +kernel, by decide +kernel, by decide +kernel, by decide +kernel⟩
  · exact ⟨_, _, _, _, _, _, M.S, by decide +kernel, by decide +kernel, by decide +kernel, by decide +kernel, by decide +kernel⟩
  · exact ⟨_, _, _, _, _, _, M.F, by decide +kernel, by decide +kernel, by decide +kernel, by decide +kernel, by decide +kernel⟩
theorem MvA.mvs (M : MvA K fI fEq fSt CMv CBr cL cA cS cF) (X : K.In h) (G : h.Ns mainGlobals mg) : Mvs K mg fI ⟨cL, cA, cS, cF⟩ := ⟨M.L.mv X G, M.A.mv X G, M.S.mv X G, M.F.mv X G⟩
theorem MvA.kin (M : MvA K fI fEq fSt CMv CBr cL cA cS cF) (sp : PySem.W.specialIn K (.builtin "object.__class__") "__get__" = some (some (.builtin "getset_descriptor.__get__"))) (tk : PySem.W.takesIn K (.builtin "object.__class__") = some true) : KinK K ⟨cL, cA, cS, cF⟩ CMv CBr :=
  ⟨sp, tk, fun wd h => by
    obtain ⟨x, _, _, _, _, _, F, rfl, rfl, rfl, rfl, rfl⟩ := M.at_ wd h
    exact ⟨F.kMv, F.kBr, F.kL, F.kA, F.kS, F.kF, F.cl, F.ob⟩⟩
theorem MvA.eqc (M : MvA K fI fEq fSt CMv CBr cL cA cS cF) : ∀ wd, isW wd = true → NX.EqC K (M4.of ⟨cL, cA, cS, cF⟩ wd) fEq ∧ PySem.W.notFirst K (M4.of ⟨cL, cA, cS, cF⟩ wd) (.type "str") = true ∧ PySem.W.notFirst K (M4.of ⟨cL, cA, cS, cF⟩ wd) (.type "tuple") = true ∧ ∀ wd2, isW wd2 = true → PySem.W.notFirst K (M4.of ⟨cL, cA, cS, cF⟩ wd) (.ref (M4.of ⟨cL, cA, cS, cF⟩ wd2)) = true := fun wd h => by
  obtain ⟨x, _, _, _, _, _, F, _⟩ := M.at_ wd h
  refine ⟨⟨⟨F.pg, F.hd, F.po, F.sa⟩, F.eq, F.ne, F.efn, F.ob⟩, F.fS, F.fT, fun wd2 h2 => ?_⟩
  rcases isW_cases h2 with e | e | e | e <;> subst e
  · exact F.f1
  · exact F.f2
  · exact F.f3
  · exact F.f4
theorem MvA.stc (M : MvA K fI fEq fSt CMv CBr cL cA cS cF) : ∀ wd, isW wd = true → NX.StrC K (M4.of ⟨cL, cA, cS, cF⟩ wd) fSt := fun wd h => by
  obtain ⟨x, _, _, _, _, _, F, _⟩ := M.at_ wd h
  exact ⟨F.st, F.sfn⟩
end
/-- all that the head finds -/
structure HeadF (K : PySem.W.Frag) (cL cA cS cF CS CM CN CMv CBr fIs fPen fDraw fPick fHeard fMade fName fOdd fLis fBent fKin fEN fEM fI fRd fEq fSt pRd fRR cRR pRR fLaw cLaw pLaw : Addr) : Prop where
  n_int : PySem.W.nsIn K mainGlobals "int" = some none
  n_len : PySem.W.nsIn K mainGlobals "len" = some none
  n_abs : PySem.W.nsIn K mainGlobals "abs" = some none
  n_list : PySem.W.nsIn K mainGlobals "list" = some none
  n_str : PySem.W.nsIn K mainGlobals "str" = some none
  n_tuple : PySem.W.nsIn K mainGlobals "tuple" = some none
  n_isinstance : PySem.W.nsIn K mainGlobals "isinstance" = some none
  n_repr : PySem.W.nsIn K mainGlobals "repr" = some none
  n_range : PySem.W.nsIn K mainGlobals "range" = some none
  n_enumerate : PySem.W.nsIn K mainGlobals "enumerate" = some none
  n_VE : PySem.W.nsIn K mainGlobals "ValueError" = some none
  gLet : ∃ t, PySem.W.nsIn K mainGlobals "LETTERS" = some (some (.str "abcdefghijklmnopqrstuvwxyz" t))
  gMost : ∃ t, PySem.W.nsIn K mainGlobals "MOST_LETTERS" = some (some (.int 6 t))
  gS : PySem.W.nsIn K mainGlobals "StowError" = some (some (.ref CS))
  sB : PySem.W.subIn K (.ref CS) (.type "BaseException") = some true
  sI : PySem.W.isClsIn K CS = true
  sT : PySem.W.typeIn K (.ref CS) = some (.type "type")
  eN : ErrF K "BadName" CN fEN CS
  eM : ErrF K "BadMove" CM fEM CS
  mn : PySem.W.kitOne K (.ref CM) (.ref CN) = some false
  nm_ : PySem.W.kitOne K (.ref CN) (.ref CM) = some false
  hn : PySem.W.specialIn K (.builtin "object.__class__") "__get__" = some (some (.builtin "getset_descriptor.__get__"))
  ht : PySem.W.takesIn K (.builtin "object.__class__") = some true
  gMv : PySem.W.nsIn K mainGlobals "Move" = some (some (.ref CMv))
  gBr : PySem.W.nsIn K mainGlobals "Bring" = some (some (.ref CBr))
  rdMv : PySem.W.readsIn K CMv (.type "type") = true
  gaMv : PySem.W.specialIn K (.ref CMv) "__getattribute__" = some (some (.builtin "type.__getattribute__"))
  cmAt : PySem.W.findCls K (.ref CMv) (.type "type") "read" = some (.get (.builtin "classmethod.__get__") (.ref pRd) .none (.ref CMv))
  cmRc : ∃ rest, PySem.W.recIn K pRd "classmethod" = some (.ref fRd :: rest)
  cmFi : PySem.W.fnIn K fRd = true
  gL : PySem.W.nsIn K mainGlobals "Load" = some (some (.ref cL))
  gA : PySem.W.nsIn K mainGlobals "Again" = some (some (.ref cA))
  gSt : PySem.W.nsIn K mainGlobals "Store" = some (some (.ref cS))
  gF : PySem.W.nsIn K mainGlobals "Forget" = some (some (.ref cF))
  mv : MvA K fI fEq fSt CMv CBr cL cA cS cF
  kstr : PySem.W.kitOne K (.type "str") (.ref CMv) = some false
  ktup : PySem.W.kitOne K (.type "tuple") (.ref CMv) = some false
  wEN : FnF K "__init__" "BadName.__init__" sErrN fEN
  wEM : FnF K "__init__" "BadMove.__init__" sErrM fEM
  wI : FnF K "__init__" "Move.__init__" sInit fI
  wRd : FnF K "read" "Move.read" sRead fRd
  wEq : FnF K "__eq__" "Move.__eq__" sEqM fEq
  wSt : FnF K "__str__" "Move.__str__" sStr fSt
  g_fIs : PySem.W.nsIn K mainGlobals "is_name" = some (some (.ref fIs))
  w_fIs : FnF K "is_name" "is_name" sIs fIs
  g_fPen : PySem.W.nsIn K mainGlobals "_law_pen" = some (some (.ref fPen))
  w_fPen : FnF K "_law_pen" "_law_pen" sPen fPen
  g_fDraw : PySem.W.nsIn K mainGlobals "_law_draw" = some (some (.ref fDraw))
  w_fDraw : FnF K "_law_draw" "_law_draw" sDraw fDraw
  g_fPick : PySem.W.nsIn K mainGlobals "_law_pick" = some (some (.ref fPick))
  w_fPick : FnF K "_law_pick" "_law_pick" sPick fPick
  g_fHeard : PySem.W.nsIn K mainGlobals "_law_heard" = some (some (.ref fHeard))
  w_fHeard : FnF K "_law_heard" "_law_heard" sHeard fHeard
  g_fMade : PySem.W.nsIn K mainGlobals "_law_made" = some (some (.ref fMade))
  w_fMade : FnF K "_law_made" "_law_made" sMade fMade
  g_fName : PySem.W.nsIn K mainGlobals "_law_name" = some (some (.ref fName))
  w_fName : FnF K "_law_name" "_law_name" sName fName
  g_fOdd : PySem.W.nsIn K mainGlobals "_law_odd" = some (some (.ref fOdd))
  w_fOdd : FnF K "_law_odd" "_law_odd" sOdd fOdd
  g_fLis : PySem.W.nsIn K mainGlobals "_law_is_name" = some (some (.ref fLis))
  w_fLis : FnF K "_law_is_name" "_law_is_name" sLIs fLis
  g_fBent : PySem.W.nsIn K mainGlobals "_law_bent" = some (some (.ref fBent))
  w_fBent : FnF K "_law_bent" "_law_bent" sBent fBent
  g_fKin : PySem.W.nsIn K mainGlobals "_law_kin" = some (some (.ref fKin))
  w_fKin : FnF K "_law_kin" "_law_kin" sKin fKin
  g_RR : PySem.W.nsIn K mainGlobals "_law_read_right" = some (some (.ref fRR))
  k_RR : PySem.W.keepIn K (.ref fRR) = true
  w_RR : FnT K "_law_read_right" sRR fRR cRR pRR
  g_Law : PySem.W.nsIn K mainGlobals "law" = some (some (.ref fLaw))
  w_Law : FnT K "law" sLaw fLaw cLaw pLaw
  n_RR : K.lookup pRR = none
  n_Law : K.lookup pLaw = none
  ne : decide (pRR = pLaw) = false
section
variable {K : PySem.W.Frag} {mg : Str → Option Value} {h : Heap} {cL cA cS cF CS CM CN CMv CBr fIs fPen fDraw fPick fHeard fMade fName fOdd fLis fBent fKin fEN fEM fI fRd fEq fSt pRd fRR cRR pRR fLaw cLaw pLaw : Addr}
theorem HeadF.law {l : PySem.W.OpenLaw} {w : World} {fa : Addr} (D : HeadF K cL cA cS cF CS CM CN CMv CBr fIs fPen fDraw fPick fHeard fMade fName fOdd fLis fBent fKin fEN fEM fI fRd fEq fSt pRd fRR cRR pRR fLaw cLaw pLaw) (X : K.In h) (G : h.Ns mainGlobals mg) (hfa : mg "law" = some (.ref fa))
    (tbL : h.get? pLaw = some { cls := .none, data := .fields #[] }) (tbR : h.get? pRR = some { cls := .none, data := .fields #[] }) : ∃ fd cs sp, LawG l w K 10 63 "_law_script" mg fa h fd cs sp := by
  have e := hfa.symm.trans (PySem.W.mg_of X G D.g_Law)
  cases e
  obtain ⟨⟨fdL, FL⟩, tL⟩ := D.w_Law
  obtain ⟨⟨fdR, FR⟩, tR⟩ := D.w_RR
  have cdL := PySem.W.codeHd_of_K X tL
  have cdR := PySem.W.codeHd_of_K X tR
  have hne : pRR ≠ pLaw := of_decide_eq_false D.ne
  have TB : TxtB mg := ⟨PySem.W.mg_none_of X G D.n_int, PySem.W.mg_none_of X G D.n_len, PySem.W.mg_none_of X G D.n_abs, PySem.W.mg_none_of X G D.n_list, PySem.W.mg_none_of X G D.n_str, PySem.W.mg_none_of X G D.n_tuple, PySem.W.mg_none_of X G D.n_isinstance, PySem.W.mg_none_of X G D.n_repr, PySem.W.mg_none_of X G D.n_range, PySem.W.mg_none_of X G D.n_enumerate, PySem.W.mg_none_of X G D.n_VE⟩
  have TN : TxtN mg := ⟨let ⟨t, e⟩ := D.gLet; ⟨t, PySem.W.mg_of X G e⟩, let ⟨t, e⟩ := D.gMost; ⟨t, PySem.W.mg_of X G e⟩⟩
  have MV : Mvs K mg fI ⟨cL, cA, cS, cF⟩ := D.mv.mvs X G
  have KK : KinK K ⟨cL, cA, cS, cF⟩ CMv CBr := D.mv.kin D.hn D.ht
  have gMv := PySem.W.mg_of X G D.gMv
  obtain ⟨fd_fIs, F_fIs⟩ := D.w_fIs.ex
  have b_fIs := F_fIs.binds (ps := ["value"]) fun _ _ _ _ _ _ us hl => match us, hl with | [_], _ => rfl
  obtain ⟨fd_fPen, F_fPen⟩ := D.w_fPen.ex
  have b_fPen := F_fPen.binds (ps := ["_law_script"]) fun _ _ _ _ _ _ us hl => match us, hl with | [_], _ => rfl
  obtain ⟨fd_fDraw, F_fDraw⟩ := D.w_fDraw.ex
  have b_fDraw := F_fDraw.binds (ps := ["_law_pen_here", "_law_many"]) fun _ _ _ _ _ _ us hl => match us, hl with | [_, _], _ => rfl
  obtain ⟨fd_fPick, F_fPick⟩ := D.w_fPick.ex
  have b_fPick := F_fPick.binds (ps := ["_law_pen_here", "_law_some"]) fun _ _ _ _ _ _ us hl => match us, hl with | [_, _], _ => rfl
  obtain ⟨fd_fHeard, F_fHeard⟩ := D.w_fHeard.ex
  have b_fHeard := F_fHeard.binds (ps := ["_law_ask"]) fun _ _ _ _ _ _ us hl => match us, hl with | [_], _ => rfl
  obtain ⟨fd_fMade, F_fMade⟩ := D.w_fMade.ex
  have b_fMade := F_fMade.binds (ps := ["_law_word", "_law_name_here"]) fun _ _ _ _ _ _ us hl => match us, hl with | [_, _], _ => rfl
  obtain ⟨fd_fName, F_fName⟩ := D.w_fName.ex
  have b_fName := F_fName.binds (ps := ["_law_pen_here"]) fun _ _ _ _ _ _ us hl => match us, hl with | [_], _ => rfl
  obtain ⟨fd_fOdd, F_fOdd⟩ := D.w_fOdd.ex
  have b_fOdd := F_fOdd.binds (ps := ["_law_pen_here"]) fun _ _ _ _ _ _ us hl => match us, hl with | [_], _ => rfl
  obtain ⟨fd_fLis, F_fLis⟩ := D.w_fLis.ex
  have b_fLis := F_fLis.binds (ps := ["_law_line"]) fun _ _ _ _ _ _ us hl => match us, hl with | [_], _ => rfl
  obtain ⟨fd_fBent, F_fBent⟩ := D.w_fBent.ex
  have b_fBent := F_fBent.binds (ps := ["_law_pen_here", "_law_line"]) fun _ _ _ _ _ _ us hl => match us, hl with | [_, _], _ => rfl
  obtain ⟨fd_fKin, F_fKin⟩ := D.w_fKin.ex
  have b_fKin := F_fKin.binds (ps := ["_law_move"]) fun _ _ _ _ _ _ us hl => match us, hl with | [_], _ => rfl
  obtain ⟨fd_EN, F_EN⟩ := D.wEN.ex
  have b_EN := F_EN.binds (ps := ["self", "value"]) fun _ _ _ _ _ _ us hl => match us, hl with | [_, _], _ => rfl
  obtain ⟨fd_EM, F_EM⟩ := D.wEM.ex
  have b_EM := F_EM.binds (ps := ["self", "value"]) fun _ _ _ _ _ _ us hl => match us, hl with | [_, _], _ => rfl
  obtain ⟨fd_I, F_I⟩ := D.wI.ex
  have b_I := F_I.binds (ps := ["self", "name"]) fun _ _ _ _ _ _ us hl => match us, hl with | [_, _], _ => rfl
  obtain ⟨fd_Rd, F_Rd⟩ := D.wRd.ex
  have b_Rd := F_Rd.binds (ps := ["cls", "text"]) fun _ _ _ _ _ _ us hl => match us, hl with | [_, _], _ => rfl
  obtain ⟨fd_Eq, F_Eq⟩ := D.wEq.ex
  have b_Eq := F_Eq.binds (ps := ["self", "other"]) fun _ _ _ _ _ _ us hl => match us, hl with | [_, _], _ => rfl
  obtain ⟨fd_St, F_St⟩ := D.wSt.ex
  have b_St := F_St.binds (ps := ["self"]) fun _ _ _ _ _ _ us hl => match us, hl with | [_], _ => rfl
  have bK : ∀ (s : Shared) (us : List Value), us.length + 1 = ["cls", "text"].length → BindsTo s fd_Rd ⟨[.ref CMv], (["text"] : List Str).zip us⟩ ((["cls", "text"] : List Str).zip (.ref CMv :: us)) := by
    obtain ⟨oc, od, kV, doc, pm, an, cdv, ct, osl, rfl, lk, hcd⟩ := F_Rd.ex
    intro s us hl
    match us, hl with
    | [_], _ => exact BindsTo.of_eq rfl
  have b_RR : Binds K fdR ["_law_thing"] [] := by
    obtain ⟨oc, od, kV, doc, pm, an, ct, osl, rfl, lk, hcd⟩ := FR.ex
    exact .all fun us hl => match us, hl with | [_], _ => rfl
  have b_L : ∀ (t : Shared) (u : Value), BindsTo t fdL ⟨[u], []⟩ [("_law_script", u)] := by
    obtain ⟨oc, od, kV, doc, pm, an, ct, osl, rfl, lk, hcd⟩ := FL.ex
    exact fun t u => .of_eq rfl
  have hmR : (pRR, Str.ofString "_law_read_right.<locals>.<lambda>") ∈ [(pRR, Str.ofString "_law_read_right.<locals>.<lambda>"), (pLaw, Str.ofString "law.<locals>.<lambda>")] := List.mem_cons_self
  have hmL : (pLaw, Str.ofString "law.<locals>.<lambda>") ∈ [(pRR, Str.ofString "_law_read_right.<locals>.<lambda>"), (pLaw, Str.ofString "law.<locals>.<lambda>")] := List.mem_cons_of_mem _ List.mem_cons_self
  have huR : ∀ p ∈ [(pRR, Str.ofString "_law_read_right.<locals>.<lambda>"), (pLaw, Str.ofString "law.<locals>.<lambda>")], p.1 = pRR → p.2 = Str.ofString "_law_read_right.<locals>.<lambda>" := fun p hp e => by
    rcases List.mem_cons.mp hp with rfl | hp
    · rfl
    · rcases List.mem_cons.mp hp with rfl | hp
      · exact absurd e.symm hne
      · cases hp
  have huL : ∀ p ∈ [(pRR, Str.ofString "_law_read_right.<locals>.<lambda>"), (pLaw, Str.ofString "law.<locals>.<lambda>")], p.1 = pLaw → p.2 = Str.ofString "law.<locals>.<lambda>" := fun p hp e => by
    rcases List.mem_cons.mp hp with rfl | hp
    · exact absurd e hne
    · rcases List.mem_cons.mp hp with rfl | hp
      · rfl
      · cases hp
  have errK : ErrK K mg CS CM CN :=
    { gS := PySem.W.mg_of X G D.gS, gM := PySem.W.mg_of X G D.eM.g, gN := PySem.W.mg_of X G D.eN.g
      eM := exm_of D.sB D.sI D.sT D.eM.sS, eN := exm_of D.sB D.sI D.sT D.eN.sS
      cM := ⟨D.eM.ga, D.eM.gg, D.eM.ex, D.eM.hd, D.eM.cl, D.hn, D.ht, D.eM.ob⟩, cN := ⟨D.eN.ga, D.eN.gg, D.eN.ex, D.eN.hd, D.eN.cl, D.hn, D.ht, D.eN.ob⟩
      xM := ⟨D.eM.ga, D.eM.gg, D.eM.ex, D.eM.hd⟩, xN := ⟨D.eN.ga, D.eN.gg, D.eN.ex, D.eN.hd⟩, vM := D.eM.v, vN := D.eN.v
      mm := kit_self, mn := D.mn, mv := kit_rty (by decide +kernel) D.eM.sV, nm_ := D.nm_, nn := kit_self, nv := kit_rty (by decide +kernel) D.eN.sV }
  refine ⟨fdL, [(cRR, pRR), (cLaw, pLaw)], spLaw K [(pRR, Str.ofString "_law_read_right.<locals>.<lambda>"), (pLaw, Str.ofString "law.<locals>.<lambda>")], ?_⟩
  refine ⟨fun p hp => ?_, fun p hp => ?_, fun p hp => ?_, b_L, fun H a ns hl hT hS => ⟨a, ns, rfl, hS, fun p hp => ?_, fun H' => rfl⟩, fun base Xb Gb TBs SB => ?_⟩
  · rcases List.mem_cons.mp hp with rfl | hp
    · exact tbR
    · rcases List.mem_cons.mp hp with rfl | hp
      · exact tbL
      · cases hp
  · rcases List.mem_cons.mp hp with rfl | hp
    · exact D.n_RR
    · rcases List.mem_cons.mp hp with rfl | hp
      · exact D.n_Law
      · cases hp
  · rcases List.mem_cons.mp hp with rfl | hp
    · exact cdR
    · rcases List.mem_cons.mp hp with rfl | hp
      · exact cdL
      · cases hp
  · rcases List.mem_cons.mp hp with rfl | hp
    · exact TabS.nil (hT (cRR, pRR) List.mem_cons_self)
    · rcases List.mem_cons.mp hp with rfl | hp
      · exact TabS.nil (hT (cLaw, pLaw) (List.mem_cons_of_mem _ List.mem_cons_self))
      · cases hp
  · have tR1 : TabB base mg cRR pRR := TBs (cRR, pRR) List.mem_cons_self
    have tL1 : TabB base mg cLaw pLaw := TBs (cLaw, pLaw) (List.mem_cons_of_mem _ List.mem_cons_self)
    have cDraw : C8.Cal l.prog w K mg base 1 "_law_draw" spDraw [] := ⟨_, _, _, _, ok_draw F_fDraw TB, PySem.W.mg_of X G D.g_fDraw, F_fDraw.kp, b_fDraw, .nil⟩
    have cPen : C8.Cal l.prog w K mg base 1 "_law_pen" (spPen K) [] := ⟨_, _, _, _, ok_pen F_fPen TB, PySem.W.mg_of X G D.g_fPen, F_fPen.kp, b_fPen, .nil⟩
    have cPick : C8.Cal l.prog w K mg base 2 "_law_pick" (spPick K) [] := ⟨_, _, _, _, ok_pick F_fPick TB cDraw, PySem.W.mg_of X G D.g_fPick, F_fPick.kp, b_fPick, .nil⟩
    have cIs : C8.Cal l.prog w K mg base 1 "is_name" (spIs K) [] := ⟨_, _, _, _, ok_is F_fIs TB TN, PySem.W.mg_of X G D.g_fIs, F_fIs.kp, b_fIs, .nil⟩
    have EN : ErrC l.prog w K mg base "BadName" CN fEN := ⟨D.eN.O, D.eN.i, D.eN.t, ⟨_, ok_errN F_EN, b_EN⟩, PySem.W.mg_of X G D.eN.g, D.eN.v⟩
    have EM : ErrC l.prog w K mg base "BadMove" CM fEM := ⟨D.eM.O, D.eM.i, D.eM.t, ⟨_, ok_errM F_EM, b_EM⟩, PySem.W.mg_of X G D.eM.g, D.eM.v⟩
    have OI : FnOk l.prog w K mg base (CX l.prog w) 3 fI fd_I ["self", "name"] (spInit K CN) := ok_init F_I cIs EN
    have ORd : FnOk l.prog w K mg base (CX l.prog w) 5 fRd fd_Rd ["cls", "text"] (spRead K ⟨cL, cA, cS, cF⟩ CM) := ok_read (fN := fI) F_Rd TB cIs EM OI b_I MV
    have OMade : FnOk l.prog w K mg base (CX l.prog w) 5 fMade fd_fMade ["_law_word", "_law_name_here"] (spMade K ⟨cL, cA, cS, cF⟩ CN) := ok_made F_fMade OI b_I MV
    have OEq : FnOk l.prog w K mg base CX0 1 fEq fd_Eq ["self", "other"] (spEq K ⟨cL, cA, cS, cF⟩ CMv) := ok_eq F_Eq TB MV KK gMv
    have OSt : FnOk l.prog w K mg base CX0 1 fSt fd_St ["self"] (spStr ⟨cL, cA, cS, cF⟩) := ok_str F_St MV
    have cKin : C8.Cal l.prog w K mg base 1 "_law_kin" (spKin ⟨cL, cA, cS, cF⟩) [] := ⟨_, _, _, _, ok_kin F_fKin TB MV KK gMv (PySem.W.mg_of X G D.gBr), PySem.W.mg_of X G D.g_fKin, F_fKin.kp, b_fKin, .nil⟩
    have cName : C8.Cal l.prog w K mg base 3 "_law_name" spName [] := ⟨_, _, _, _, ok_name F_fName TB cDraw cPick, PySem.W.mg_of X G D.g_fName, F_fName.kp, b_fName, .nil⟩
    have cLis : C8.Cal l.prog w K mg base 1 "_law_is_name" spLIs [] := ⟨_, _, _, _, ok_lis F_fLis TB, PySem.W.mg_of X G D.g_fLis, F_fLis.kp, b_fLis, .nil⟩
    have cOdd : C8.Cal l.prog w K mg base 3 "_law_odd" (spOdd K) [] := ⟨_, _, _, _, ok_odd F_fOdd TB cPick, PySem.W.mg_of X G D.g_fOdd, F_fOdd.kp, b_fOdd, .nil⟩
    have cBent : C8.Cal l.prog w K mg base 3 "_law_bent" (spBent K) [] := ⟨_, _, _, _, ok_bent F_fBent TB cDraw cPick, PySem.W.mg_of X G D.g_fBent, F_fBent.kp, b_fBent, .nil⟩
    have RX : RRTxt l.prog w K mg base ⟨cL, cA, cS, cF⟩ CMv CS CM CN fHeard fI fd_fHeard :=
      { T := TB, E := errK, gMv := gMv
        rd := ⟨.type "type", ⟨D.rdMv, D.gaMv⟩, pRd, fRd, ⟨D.cmAt, D.cmRc, D.cmFi⟩, fd_Rd, ORd, b_Rd, bK⟩
        FH := F_fHeard, gH := PySem.W.mg_of X G D.g_fHeard, hbH := b_fHeard, mv := MV
        made := ⟨_, _, OMade, PySem.W.mg_of X G D.g_fMade, F_fMade.kp, b_fMade⟩
        eq := ⟨_, _, OEq, b_Eq, D.mv.eqc⟩
        st := ⟨_, _, OSt, b_St, D.mv.stc⟩
        lis := cLis, sys := SB, kin := ⟨CBr, KK⟩ }
    have ORR : FnG l.prog w K mg base 8 fRR fdR ["_law_thing"] (spRR K _) := ok_rr FR RX tR1 hmR huR
    have LX : LawTxt l.prog w K mg base ⟨cL, cA, cS, cF⟩ CMv _ := ⟨D.kstr, D.ktup, cPen, cName, cOdd, cBent, cKin, ⟨_, _, ORR, PySem.W.mg_of X G D.g_RR, FR.kp, b_RR⟩⟩
    exact ok_law FL RX LX tL1 hmL huL
end
end K18

set_option Elab.async false
set_option linter.all false
set_option maxRecDepth 100000
open PySem PySem.W PyProof.Rows
set_option maxHeartbeats 0 in
theorem PySem.Challenge.cw_loopstow_k18_moves_holds : PySem.Challenge.rw_loopstow_k18_moves.Holds := by
  w_on; o_law; k_head; (case hw => w_witness2)
  k_fill
  refine NX.walkG (l := PySem.Challenge.rw_loopstow_k18_moves) (n := 63) (k := 10) (x := "_law_script") rfl (by decide) rfl ⟨rfl, by decide, by decide⟩ (by rfl) (fun w h Y => PySem.W.km_in_of Y) ?G
  case G =>
    intro w mg fa h Y KX G hmg
    refine' K18.HeadF.law ?D KX G hmg ?tL ?tR
    case D =>
      exact ⟨by k_is,
      by k_is,
      by k_is,
      by k_is,
      by k_is,
      by k_is,
      by k_is,
      by k_is,
      by k_is,
      by k_is,
      by k_is,
      ⟨_, by k_is⟩,
      ⟨_, by k_is⟩,
      by k_is,
      by k_is,
      by k_is,
      by k_is,
      ⟨by k_is, by k_is, by k_is, ⟨_, _, _, _, _, _, _, _, _, _, _, _, _, _, by k_is⟩, by k_is, by k_is, by k_is, by k_is, by k_is, by k_is, by k_is, by k_is, by k_is, by k_is, by k_is, by k_is, by k_is⟩,
      ⟨by k_is, by k_is, by k_is, ⟨_, _, _, _, _, _, _, _, _, _, _, _, _, _, by k_is⟩, by k_is, by k_is, by k_is, by k_is, by k_is, by k_is, by k_is, by k_is, by k_is, by k_is, by k_is, by k_is, by k_is⟩,
      by first | exact K18.kit_self | exact K18.kit_ref (by decide) (by k_is) (by k_is) (by k_is),
      by first | exact K18.kit_self | exact K18.kit_ref (by decide) (by k_is) (by k_is) (by k_is),
      by k_is,
      by k_is,
      by k_is,
      by k_is,
      by k_is,
      by k_is,
      by k_is,
      ⟨_, by k_is⟩,
      by k_is,
      by k_is,
      by k_is,
      by k_is,
      by k_is,
      ⟨⟨by k_is, by k_is, by k_is, by k_is, by k_is, ⟨_, by k_is, by k_is, by k_is⟩, by k_is, by k_is, by k_is, by k_is, by k_is, by k_is, by k_is, by k_is, by first | exact K18.kit_self | exact K18.kit_ref (by decide) (by k_is) (by k_is) (by k_is), by first | exact K18.kit_self | exact K18.kit_ref (by decide) (by k_is) (by k_is) (by k_is), by first | exact K18.kit_self | exact K18.kit_ref (by decide) (by k_is) (by k_is) (by k_is), by first | exact K18.kit_self | exact K18.kit_ref (by decide) (by k_is) (by k_is) (by k_is), by first | exact K18.kit_self | exact K18.kit_ref (by decide) (by k_is) (by k_is) (by k_is), by first | exact K18.kit_self | exact K18.kit_ref (by decide) (by k_is) (by k_is) (by k_is), by k_is, by k_is, by k_is, by k_is, by k_is, by k_is, by k_is, by k_is, by k_is, by k_is, by k_is, by k_is, by k_is⟩,
      ⟨by k_is, by k_is, by k_is, by k_is, by k_is, ⟨_, by k_is, by k_is, by k_is⟩, by k_is, by k_is, by k_is, by k_is, by k_is, by k_is, by k_is, by k_is, by first | exact K18.kit_self | exact K18.kit_ref (by decide) (by k_is) (by k_is) (by k_is), by first | exact K18.kit_self | exact K18.kit_ref (by decide) (by k_is) (by k_is) (by k_is), by first | exact K18.kit_self | exact K18.kit_ref (by decide) (by k_is) (by k_is) (by k_is), by first | exact K18.kit_self | exact K18.kit_ref (by decide) (by k_is) (by k_is) (by k_is), by first | exact K18.kit_self | exact K18.kit_ref (by decide) (by k_is) (by k_is) (by k_is), by first | exact K18.kit_self | exact K18.kit_ref (by decide) (by k_is) (by k_is) (by k_is), by k_is, by k_is, by k_is, by k_is, by k_is, by k_is, by k_is, by k_is, by k_is, by k_is, by k_is, by k_is, by k_is⟩,
      ⟨by k_is, by k_is, by k_is, by k_is, by k_is, ⟨_, by k_is, by k_is, by k_is⟩, by k_is, by k_is, by k_is, by k_is, by k_is, by k_is, by k_is, by k_is, by first | exact K18.kit_self | exact K18.kit_ref (by decide) (by k_is) (by k_is) (by k_is), by first | exact K18.kit_self | exact K18.kit_ref (by decide) (by k_is) (by k_is) (by k_is), by first | exact K18.kit_self | exact K18.kit_ref (by decide) (by k_is) (by k_is) (by k_is), by first | exact K18.kit_self | exact K18.kit_ref (by decide) (by k_is) (by k_is) (by k_is), by first | exact K18.kit_self | exact K18.kit_ref (by decide) (by k_is) (by k_is) (by k_is), by first | exact K18.kit_self | exact K18.kit_ref (by decide) (by k_is) (by k_is) (by k_is), by k_is, by k_is, by k_is, by k_is, by k_is, by k_is, by k_is, by k_is, by k_is, by k_is, by k_is, by k_is, by k_is⟩,
      ⟨by k_is, by k_is, by k_is, by k_is, by k_is, ⟨_, by k_is, by k_is, by k_is⟩, by k_is, by k_is, by k_is, by k_is, by k_is, by k_is, by k_is, by k_is, by first | exact K18.kit_self | exact K18.kit_ref (by decide) (by k_is) (by k_is) (by k_is), by first | exact K18.kit_self | exact K18.kit_ref (by decide) (by k_is) (by k_is) (by k_is), by first | exact K18.kit_self | exact K18.kit_ref (by decide) (by k_is) (by k_is) (by k_is), by first | exact K18.kit_self | exact K18.kit_ref (by decide) (by k_is) (by k_is) (by k_is), by first | exact K18.kit_self | exact K18.kit_ref (by decide) (by k_is) (by k_is) (by k_is), by first | exact K18.kit_self | exact K18.kit_ref (by decide) (by k_is) (by k_is) (by k_is), by k_is, by k_is, by k_is, by k_is, by k_is, by k_is, by k_is, by k_is, by k_is, by k_is, by k_is, by k_is, by k_is⟩⟩,
      K18.kit_tyr (by k_is) (by k_is) (by k_is),
      K18.kit_tyr (by k_is) (by k_is) (by k_is),
      K18.fnF (by k_is) (by k_is) (by k_is),
      K18.fnF (by k_is) (by k_is) (by k_is),
      K18.fnF (by k_is) (by k_is) (by k_is),
      K18.fnF (by k_is) (by k_is) (by k_is),
      K18.fnF (by k_is) (by k_is) (by k_is),
      K18.fnF (by k_is) (by k_is) (by k_is),
      by k_is,
      K18.fnF (by k_is) (by k_is) (by k_is),
      by k_is,
      K18.fnF (by k_is) (by k_is) (by k_is),
      by k_is,
      K18.fnF (by k_is) (by k_is) (by k_is),
      by k_is,
      K18.fnF (by k_is) (by k_is) (by k_is),
      by k_is,
      K18.fnF (by k_is) (by k_is) (by k_is),
      by k_is,
      K18.fnF (by k_is) (by k_is) (by k_is),
      by k_is,
      K18.fnF (by k_is) (by k_is) (by k_is),
      by k_is,
      K18.fnF (by k_is) (by k_is) (by k_is),
      by k_is,
      K18.fnF (by k_is) (by k_is) (by k_is),
      by k_is,
      K18.fnF (by k_is) (by k_is) (by k_is),
      by k_is,
      K18.fnF (by k_is) (by k_is) (by k_is),
      by k_is,
      by k_is,
      K18.fnT (by k_is) (by k_is) (by k_is) (by k_is) (by rfl) (by kernel_rfl),
      by k_is,
      K18.fnT (by k_is) (by k_is) (by k_is) (by k_is) (by rfl) (by kernel_rfl),
      by kernel_rfl,
      by kernel_rfl,
      by decide⟩
    case tL => exact PySem.W.km_tabs_of Y _ (by decide)
    case tR => exact PySem.W.km_tabs_of Y _ (by decide)
