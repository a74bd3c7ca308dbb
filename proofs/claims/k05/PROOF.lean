import PyProof.Rows.All
import Wide.All
import OpenK.AllK
import Wide.FinOn
import PyProof.TypeEq
import PyProof.TypeOfCall
import HandS.ForMost
import HandS.ForExc
import HandS.Lambda
import HandS.Codes
import HandS.Deep
import HandS.IsInst
import HandS.ExcIs
import HandS.ExcValue
import HandS.More
import HandS.Defaults
import HandS.Walk
import HandS.HeadHook4
import HandS.HeadWalk
import HandS.Head2
import PyProof.Rows.SeqMore
import KE.KExcSuper
import KE.KSuper
import HandS.ExcSuper
import HandS.ExcInit
import HandS.ExcField
import PyProof.InstNe
import HandS.Conv
import HandS.TupSets
import HandS.Style
import PySem.Challenge.RW_onewaytown_k05_whole_deeds
set_option Elab.async false
set_option linter.all false
set_option maxRecDepth 100000
set_option maxHeartbeats 4000000
/-! Rules of our own, law-independent: products of script numbers, type(x) == int, an exception kept behind its except clause. -/
namespace Own
open PySem PySem.Spec PyProof.Rows L2
/-! ### products of numbers of a million bits and more -/
def CMulG (i j : Int) : Prop := i.natAbs.log2 + j.natAbs.log2 < 100000000
theorem CMulG.fits {i j : Int} (h : CMulG i j) : IntMulOk i j := by
  have bits : ∀ x : Int, Builtin.Int.intBits x ≤ x.natAbs.log2 + 1 := by
    intro x
    unfold Builtin.Int.intBits
    split <;> omega
  have hi := bits i
  have hj := bits j
  have hs : i.natAbs.log2 + j.natAbs.log2 < 100000000 := h
  have line : bitsLine = 134217728 := by decide
  unfold IntMulOk
  intro big
  rw [Bool.and_eq_true] at big
  have over := big.2
  unfold Builtin.Int.intTooBig at over
  have over2 := of_decide_eq_true over
  rw [line] at over2
  omega
section
variable {X : Cx}
theorem op_mulG : OpR X (binaryOp .Mult) (rI CMulG fun i j => .int (i * j)) :=
  opI fun _ _ _ _ _ _ _ hc q => mul_int q hc.fits
/-! ### type(x), and types compared -/
/-- the name of a thing's kind, where it is one of the kinds that a script's program hands around -/
def tyName : V → Hp → Option String
  | .non, _ => "NoneType"
  | .bl _, _ => "bool"
  | .int _, _ => "int"
  | .str _, _ => "str"
  | .ref p, H => match H p with
    | some (.lst _) | some (.frz _ (.lst _)) => "list"
    | some (.tup _) => "tuple"
    | some (.dK _) => "dict"
    | _ => none
  | _, _ => none
/-- what the name says, in the library's own words of kinds -/
theorem tyName_is (K : PySem.W.Frag) : ∀ {x : V} {H : Hp} {n : String}, tyName x H = some n → TyB K H x n
  | .non, _, _, rfl => .non
  | .bl b, _, _, rfl => .bl b
  | .int i, _, _, rfl => .int i
  | .str z, _, _, rfl => .str z
  | .ref p, H, n, e => by
    unfold tyName at e
    dsimp only at e
    split at e <;> cases e
    · exact .lst (.of ‹_›)
    · exact .lst (.inl (.inr ⟨_, ‹_›⟩))
    · exact .tup (.of ‹_›)
    · exact .dK ‹_›
theorem call_tyOf : CallR X (.type "type") (fun xs H Q => ∃ x n, xs = [x] ∧ tyName x H = some n ∧ Q (.ty n) H) :=
  fun pins s σ H xs us Q I r ⟨x, n, one, e, q⟩ => call_type1 pins s σ H xs us Q I r ⟨x, n, one, tyName_is X.K e, q⟩
/-- the kind n is itself of the kind of kinds -/
def metaOk (n : String) : Prop := ∀ s' : Shared, s'.TypeIs (.type n) "type"
theorem meta_all : metaOk "NoneType" ∧ metaOk "bool" ∧ metaOk "int" ∧ metaOk "str" ∧ metaOk "list" ∧ metaOk "tuple" ∧ metaOk "dict" :=
  open PySem.TypeEq in ⟨meta_NoneType, meta_bool, meta_int, meta_str, meta_list, meta_tuple, meta_dict⟩
theorem tyName_meta {x : V} {H : Hp} {n : String} (e : tyName x H = some n) : metaOk n := by
  obtain ⟨m1, m2, m3, m4, m5, m6, m7⟩ := meta_all
  unfold tyName at e
  (split at e <;> try split at e) <;> cases e <;> assumption
theorem op_eqTy : OpR X (compareOp .Eq) (fun x y H Q => ∃ m n, x = .ty m ∧ y = .ty n ∧ metaOk m ∧ metaOk n ∧ Q (.bl (decide (m = n))) H) := by
  rintro pins s σ H _ _ a b Q I ra rb ⟨m, n, rfl, rfl, hm, hn, q⟩
  obtain rfl : a = .type m := ra
  obtain rfl : b = .type n := rb
  have same := ty_beq m n
  cases e : (Value.type m == Value.type n) <;> rw [e] at same <;> rw [← same] at q
  · exact PySem.TypeEq.eq_type_other hm hn e (fin_bl I q rfl)
  · cases of_decide_eq_true same.symm
    exact PySem.TypeEq.eq_type_same hm (fin_bl I q rfl)
end
end Own

set_option Elab.async false
set_option linter.all false
set_option maxRecDepth 100000
set_option maxHeartbeats 4000000
/-! An exception that stays known behind the except clause that caught it: caught = e. -/
namespace Own
open PySem PySem.Spec PyProof.Rows L2
/-! ### a record, told in one -/
/-- at a stands the record o with the fields vs -/
structure RecAt (h : Heap) (a : Addr) (o : Obj) (vs : Array Value) : Prop where
  at_ : h.get? a = some o
  fl : o.data = .fields vs
/-- at a stands an exception object of the class cls, its own dict d -/
def ExK (cls : Value) (d : Option Addr) (a : Addr) : HO := .ext fun h => ∃ (ob : Obj) (vals : Array Value), h.get? a = some ob ∧ Zc cls d ob ∧ ob.data = .fields vals
section
variable {X : Cx} {pins : List (Addr × Obj)} {σ : L2.St} {H : Hp} {s : Shared}
theorem exK_there {P : Program} {w : World} {h : Heap} {cls : Value} {d : Option Addr} {a : Addr} (hok : HOk P w H h) (e : H a = some (ExK cls d a)) :
    ∃ (ob : Obj) (vals : Array Value), h.get? a = some ob ∧ Zc cls d ob ∧ ob.data = .fields vals :=
  (show ObjOk P w H h a (.ext fun h => ∃ (ob : Obj) (vals : Array Value), h.get? a = some ob ∧ Zc cls d ob ∧ ob.data = .fields vals) from hok a _ e).1
/-- a is none of what the def around leans on -/
structure Fresh (X : Cx) (pins : List (Addr × Obj)) (a : Addr) : Prop where
  entry : ∀ b o, X.s_0.heap.get? b = some o → b ∉ X.ex → b ≠ a
  frame : X.env.locals ≠ a
  cells : ∀ x c, X.env.cells.lookup x = some c → c ≠ a
  pins : ∀ p ∈ X.pn ++ pins, p.1 ≠ a
/-- so is each place that is not there yet -/
theorem Fresh.of {a : Addr} (I : Inv X pins σ H s) (absent : s.heap.get? a = none) : Fresh X pins a := by
  have not : ∀ {b o}, s.heap.get? b = some o → b ≠ a := fun e z => by cases absent.symm.trans ((congrArg s.heap.get? z).symm.trans e)
  refine ⟨fun b o e out => (I.base.there b o e out).elim fun _ q => not q, ?_, fun x c e => ?_, fun p hp => not (I.pin p hp).1⟩
  · obtain ⟨_, ⟨_, _, _, q, _⟩, _⟩ := I.loc
    exact not q
  · obtain ⟨_, _, q, _⟩ := I.cell x c e
    exact not q
/-- what stands at such a place, untracked so far, is tracked from now on -/
theorem track {a : Addr} {u : HO} (I : Inv X pins σ H s) (un : H a = none) (f : Fresh X pins a) (is : ObjOk X.prog X.w (upd H a u) s.heap a u) : Inv X pins σ (upd H a u) s := by
  have still : ∀ {b o}, H b = some o → upd H a u b = some o := fun e => (upd_ne (ne_of_none e un)).trans e
  have off : ∀ {b}, b ≠ a → H b = none → upd H a u b = none := fun n e => (upd_ne n).trans e
  refine ⟨I.ok, I.os, I.bare, ⟨I.base.keep, I.base.slot, fun b o e n out => off (f.entry b o e out) (I.base.free b o e n out), I.base.there, fun b xs e => still (I.base.tups b xs e), fun b o v e => still (I.base.frzs b o v e), fun b ps e => ?_⟩,
    I.loc, I.cell, off f.frame I.free, fun x c e => off (f.cells x c e) (I.freeC x c e), fun p hp => ?_, fun b o e => ?_, I.len⟩
  · obtain ⟨more, z⟩ := I.base.tbls b ps e
    exact ⟨more, still z⟩
  · obtain ⟨p1, p2, rest⟩ := I.pin p hp
    exact ⟨p1, off (f.pins p hp) p2, rest⟩
  · rcases Decidable.em (b = a) with rfl | n
    · cases upd_same.symm.trans e
      exact is
    · rw [upd_ne n] at e
      exact (I.hok b o e).stay (fun _ _ _ q => q) (fun _ q => still q) fun _ _ q => still q
/-- what such a clause wishes of an exception of its body: slot i the clause's name, slot j the keeper -/
def wKept (K : PySem.W.Frag) (c : Value) (fin : L2.St → Addr → L2.St) (out : WX) (D : Ends) : WX := fun cls d σ H =>
  ∃ hit, PySem.W.exmOne K cls c = some hit ∧ (hit = true → ∀ a, H a = none → D.nx (fin σ a) (upd H a (ExK cls d a))) ∧ (hit = false → out cls d σ H)
/-- the slots behind the clause, or less of them -/
def Less (n i j : Nat) (fin : L2.St → Addr → L2.St) : Prop := ∀ (σ : L2.St) (a : Addr), σ.length = n → (fin σ a).length = n ∧ ∀ (k : Nat) (v : V), (fin σ a)[k]? = some (some v) → (((σ.set i (some (.ref a))).set j (some (.ref a))).set i none)[k]? = some (some v)
def allOf (i j : Nat) : L2.St → Addr → L2.St := fun σ a => ((σ.set i (some (.ref a))).set j (some (.ref a))).set i none
theorem allOf_less {n i j : Nat} : Less n i j (allOf i j) := fun σ a h => ⟨by unfold allOf; simpa using h, fun _ _ e => e⟩
/-- the keeper alone -/
def oneOf (n j : Nat) : L2.St → Addr → L2.St := fun _ a => (List.replicate n none).set j (some (.ref a))
theorem oneOf_less {n i j : Nat} (hij : i ≠ j) : Less n i j (oneOf n j) := fun σ a h => by
  refine ⟨by unfold oneOf; simp, fun k v e => ?_⟩
  unfold oneOf at e
  by_cases hk : k = j
  · subst hk
    have lt : k < n := by
      have z := (List.getElem?_eq_some_iff.mp e).1
      simpa using z
    rw [List.getElem?_set_self (by simpa using lt)] at e
    rw [List.getElem?_set_ne hij, List.getElem?_set_self (by simpa [h] using lt)]
    exact e
  · rw [List.getElem?_set_ne (Ne.symm hk)] at e
    rw [List.getElem?_replicate] at e
    split at e <;> simp at e
end
section
variable {prog : Program} {w : World} {h : Heap} {a : Addr} {o : Obj} {vs : Array Value}
theorem RecAt.ty (r : RecAt h a o vs) : PySem.W.Looks (model prog w) h (typeOf (.ref a)) o.cls := fun _ _ _ _ keep q => wpAny_typeOf_ref (keep a o r.at_) q
end
/-! ### records off the frames -/
theorem RecAt.off {B h : Heap} {l : List Env} {a : Addr} {o : Obj} {vs : Array Value} (r : RecAt h a o vs) (ff : h.FunFrames B l) : a ∉ frs l := fun hm => by
  obtain ⟨_, o2, e, no⟩ := ff.mem hm
  cases r.at_.symm.trans e
  exact no vs r.fl
/-- what a pin says of p -/
def PinFacts (X : Cx) (H : Hp) (s : Shared) (p : Addr × Obj) : Prop := s.heap.get? p.1 = some p.2 ∧ H p.1 = none ∧ p.1 ≠ X.env.locals ∧ p.1 ∉ X.fs ∧ ∀ v, p.2.data ≠ .cell v
theorem RecAt.pin {X : Cx} {H : Hp} {s : Shared} {a : Addr} {o : Obj} {vs : Array Value} (r : RecAt s.heap a o vs) (un : H a = none) (hf : X.env.frame = some X.env.locals) (off : a ∉ frs (X.env :: X.outer)) : PinFacts X H s (a, o) := by
  refine ⟨r.at_, un, fun z => off ?_, fun hm => off ?_, fun v z => ?_⟩
  · exact List.mem_filterMap.mpr ⟨X.env, List.mem_cons_self, by rw [hf, ← z]⟩
  · obtain ⟨en, he, q⟩ := List.mem_filterMap.mp hm
    exact List.mem_filterMap.mpr ⟨en, List.mem_cons_of_mem _ he, q⟩
  · exact nomatch r.fl.symm.trans z
/-! ### a try's body, as the def around sees it -/
section
variable {X : Cx} {pins pn : List (Addr × Obj)} {xe : Value → Shared → Prop} {D : Ends} {Wout : WX}
theorem body_out (ok : X.Ok) : ∀ {f : Flow} {s : Shared}, SP (X.tr (X.pn ++ pins) xe) pn D f s → SP X pins D f s
  | .next, _, ⟨_, _, J, q⟩ => ⟨_, _, Inv.ofTry J ok, q⟩
  | .brk, _, ⟨_, _, J, q⟩ => ⟨_, _, Inv.ofTry J ok, q⟩
  | .cont, _, ⟨_, _, J, q⟩ => ⟨_, _, Inv.ofTry J ok, q⟩
  | .ret _, _, ⟨_, _, _, J, rel, q⟩ => ⟨_, _, _, Inv.ofTry J ok, rel, q⟩
/-- the name of a clause's class, read where the exception a is handled -/
theorem clause_name {x : Str} {c : Value} {np : Pos} {a : Addr} {σ : L2.St} {H : Hp} {s : Shared} {Q E : Value → Shared → Prop} (is : Names X x c) (S : Inv (X.suite a pn) pins σ H s) (q : Q c s) :
    wpAny (model X.prog X.w) (X.A.mark (some (.ref a))) (eval (.Name x np) X.env) Q E s := by
  rcases is with ⟨glob, dbg, own | ⟨hidden, built, noName⟩⟩
  · exact ld_glob (X := X.suite a pn) S glob own q dbg
  · exact ld_blt (X := X.suite a pn) S glob hidden built q noName dbg
/-- what no clause names flies on -/
theorem flies_by {B : Heap} {sI s' : Shared} {ps pins : List (Addr × Obj)} {σ : L2.St} {H : Hp} {a : Addr} {cls : Value} {d : Option Addr} {D : Ends} (hs : X.stack = X.env :: X.outer) (hf : X.env.frame = some X.env.locals) (tk : Takes X Wout) (J : Inv X ps σ H sI)
    (ground : ∀ b u, sI.heap.get? b = some u → b ∉ frs X.stack → B.get? b = some u) (upto : sI.heap.UpToSlots s'.heap) (fl : HandSPX.FlyingZ B (X.env :: X.outer) a (Zc cls d) s'.heap) (un : H a = none) (os : s'.os = sI.os) (bare : AllBare s'.gens) (wish : Wout cls d σ H) :
    wpAny (model X.prog X.w) X.A (handleBy (.ref a) X.env []) (SP X pins D) X.xe s' := by
  obtain ⟨_, _, _, o, vs, T, oT, ts, at_, _, rec, traced, _⟩ := id fl
  have end_ : wpAny (model X.prog X.w) X.A (setFlight (.ref a) X.env.frame) (fun _ s2 => wpAny (model X.prog X.w) X.A (throw (.ref a) : Sem Flow) (SP X pins D) X.xe s2) X.xe s' := by
    rw [hf]
    refine HandSPX.setFlight_upZ fl fun h2 held up2 => wpAny_throw (tk _ _ ⟨a, B, sI, ps, σ, H, cls, d, rfl, J, ground, upto.trans up2, .inr (.inr ?_), un, os, bare, wish⟩)
    rw [hs]
    exact held
  refine wpAny_handleBy_nil ?_
  unfold PySem.passOn
  refine wpAny_bind (wpAny_field at_ rec traced ?_)
  rw [if_neg (fun z => by simp at z)]
  first
    | exact wpAny_bind (wpAny_pure (wpAny_bind end_))
    | exact wpAny_bind end_
end
/-- what flies in from the body was not there ahead of it -/
theorem first_seen {X : Cx} {pins : List (Addr × Obj)} {σ : L2.St} {H : Hp} {s : Shared} {B : Heap} {a : Addr} (J : Inv X pins σ H s) (hx : X.ex = []) (ground : ∀ b o, s.heap.get? b = some o → b ∉ frs X.stack → B.get? b = some o) (anew : B.get? a = none) (off : a ∉ frs X.stack) :
    X.s_0.heap.get? a = none ∧ ∀ p ∈ X.pn ++ pins, p.1 ≠ a := by
  have absent : ∀ o, s.heap.get? a ≠ some o := fun o q => nomatch anew.symm.trans (ground a o q off)
  refine ⟨?_, fun p hp z => absent p.2 (z ▸ (J.pin p hp).1)⟩
  cases q : X.s_0.heap.get? a with
  | none => rfl
  | some o =>
    obtain ⟨_, z⟩ := J.base.there a o q (by rw [hx]; exact List.not_mem_nil)
    exact absurd z (absent _)
/-! ### caught = e -/
section
variable {X : Cx} {x n y : Str} {c : Value} {i j : Nat} {body : List Stmt} {np py pn2 pos pos' pos2 : Pos} {tb : WX → TS} {out : WX} {fin : L2.St → Addr → L2.St}
/-- the suite y = n, the exception in slot i: in slot j too, then the clause's name is gone, and the object is known -/
theorem keep_it {a : Addr} {o : Obj} {vs : Array Value} {cls : Value} {d : Option Addr} {pins : List (Addr × Obj)} {σ : L2.St} {H : Hp} {s : Shared} {Q : Flow → Shared → Prop} {E : Value → Shared → Prop} (ok : X.Ok) (hN : X.N.Nodup) (hi : X.N[i]? = some n) (hln : X.env.kindOf n = some .local) (hj : X.N[j]? = some y) (hlj : X.env.kindOf y = some .local)
    (hd1 : (n == ("__debug__" : Str)) = false) (hd2 : (n == ("__classdict__" : Str)) = false) (S : Inv (X.suite a ((a, o) :: (X.pn ++ pins))) [] (σ.set i (some (.ref a))) H s) (kind : Zc cls d o) (rec : o.data = .fields vs) (un : H a = none)
    (new : X.s_0.heap.get? a = none) (nL : a ≠ X.env.locals) (npin : ∀ p ∈ X.pn ++ pins, p.1 ≠ a) (there : i < σ.length)
    (go : ∀ s', Inv X pins ((σ.set i (some (.ref a))).set j (some (.ref a))) (upd H a (ExK cls d a)) s' → Q .next s') :
    wpAny (model X.prog X.w) (X.A.mark (some (.ref a))) (execs [.Assign [.Name y py] (.Name n pn2) pos2] X.env) Q E s := by
  have suite : PSs (X.suite a ((a, o) :: (X.pn ++ pins))) [.Assign [.Name y py] (.Name n pn2) pos2] (tAsg (tVar i) (gName j)) :=
    pss_one (ps_asg (pe_var hi (.inl hln) hd1 hd2) (pg_name hN hj (.inl hlj) (.inr hlj)))
  have read : (σ.set i (some (V.ref a)))[i]? = some (some (.ref a)) := List.getElem?_set_self there
  refine wpAny_mono (suite.run [] s _ H { nx := fun σ' H' => σ' = (σ.set i (some (V.ref a))).set j (some (V.ref a)) ∧ H' = H, rt := fun _ _ => False } S ⟨.ref a, read, rfl, rfl⟩) (fun f s' told => ?_) fun _ _ z => False.elim z
  match f, told with
  | .next, ⟨_, _, S', e1, e2⟩ =>
    subst e1 e2
    have at_ := (S'.pin (a, o) (List.mem_append_left _ (List.mem_cons_self ..))).1
    have J := S'.unsuite ok
    have ncell : ∀ x c, X.env.cells.lookup x = some c → c ≠ a := by
      rintro x c e rfl
      obtain ⟨_, _, is, cel⟩ := J.cell x c e
      cases at_.symm.trans is
      exact nomatch rec.symm.trans cel
    exact go s' (track J un ⟨fun b _ e _ z => (by cases new.symm.trans ((congrArg X.s_0.heap.get? z).symm.trans e)), nL.symm, ncell, npin⟩ ⟨⟨o, vs, at_, kind, rec⟩, ⟨o, at_⟩, fun _ _ ⟨o1, v1, q1, q2⟩ k => ⟨o1, v1, k o1 q1, q2⟩⟩)
  | .brk, ⟨_, _, _, z⟩ => exact z.elim
  | .cont, ⟨_, _, _, z⟩ => exact z.elim
  | .ret _, ⟨_, _, _, _, _, z⟩ => exact z.elim
/-- try: body / except x as n: y = n -/
theorem ps_try_kept (hs : X.stack = X.env :: X.outer) (hf : X.env.frame = some X.env.locals) (hN : X.N.Nodup) (hi : X.N[i]? = some n) (hln : X.env.kindOf n = some .local) (hj : X.N[j]? = some y) (hlj : X.env.kindOf y = some .local) (hc : Names X x c) (hx : X.ex = []) (less : Less X.N.length i j fin) (tk : Takes X out)
    (hb : ∀ (W : WX) (pn : List (Addr × Obj)) (xe : Value → Shared → Prop), Takes (X.tr pn xe) W → PassesOwn (model X.prog X.w) X.A X.env xe → PSs (X.tr pn xe) body (tb W))
    (hd1 : (n == ("__debug__" : Str)) = false := by decide) (hd2 : (n == ("__classdict__" : Str)) = false := by decide) :
    PS X (.Try body [.ExceptHandler (some (.Name x np)) (some n) [.Assign [.Name y py] (.Name n pn2) pos2] pos'] [] [] pos) (fun D σ H => tb (wKept X.K c fin out D) D σ H) := by
  refine ⟨fun pins s σ H D I wish => wpAny_Try_except ?_⟩
  have ok := I.ok
  have run := hb (wKept X.K c fin out D) (X.pn ++ pins) (fun e s1 => wpAny (model X.prog X.w) X.A (noteFrame e X.env) (fun _ s2 => wpAny (model X.prog X.w) X.A (setFlight e none) (fun _ s3 =>
    wpAny (model X.prog X.w) X.A (handleBy e X.env [.ExceptHandler (some (.Name x np)) (some n) [.Assign [.Name y py] (.Name n pn2) pos2] pos']) (SP X pins D) X.xe s3) X.xe s2) X.xe s1) ?caught PassesOwn.looking
  case caught =>
    rintro _ s' ⟨a, B, sI, ps', σ', H', cls, d, rfl, J0, ground, upto, sky, un, os, bare, hit, names, yes, no⟩
    have J : Inv X pins σ' H' sI := Inv.ofTry J0 ok
    rw [show (X.tr (X.pn ++ pins) _).stack = X.env :: X.outer from hs] at sky
    refine Sky.land (s := s') Zc.steady (ok.frames.trans (congrArg some hs)) hf sky fun h3 fl3 up3 => ?_
    obtain ⟨o3, v3, at3, kind3, rec3⟩ := fl3.there
    have off := RecAt.off ⟨at3, rec3⟩ fl3.2.2.1
    obtain ⟨_, _, nL, nF, _⟩ := RecAt.pin (s := { s' with heap := h3 }) ⟨at3, rec3⟩ un hf off
    obtain ⟨new, npin⟩ := first_seen J hx ground fl3.2.1 (by rw [hs]; exact off)
    have S3 := (J.landed (s' := { s' with heap := h3 }) ground fl3.1 (upto.trans up3) os bare).suite at3 rec3 un nL nF
    have isOf := RecAt.ty (prog := X.prog) (w := X.w) (h := h3) ⟨at3, rec3⟩
    rw [kind3.1] at isOf
    refine wpAny_handleBy_cons (codeAny_handlers_test (clause_name hc S3 ((PySem.W.exm_one (M := model X.prog X.w) S3.kIn isOf names).here ?_))) (fun z => nomatch z)
    cases hit with
    | false => exact flies_by (s' := { s' with heap := h3 }) hs hf tk J ground (upto.trans up3) fl3 un os bare (no rfl)
    | true =>
      refine codeAny_handlers_suite_as (HandSPX.lands_againZ fl3 fun h4 fl4 up4 => ?_)
      obtain ⟨o4, v4, at4, kind4, rec4⟩ := fl4.there
      have S4 := (J.landed (s' := { s' with heap := h4 }) ground fl4.1 ((upto.trans up3).trans up4) os bare).suite at4 rec4 un nL nF
      have room : i < σ'.length := J.len ▸ (List.getElem?_eq_some_iff.mp hi).1
      refine store_ok (X := X.suite a ((a, o4) :: (X.pn ++ pins))) (v := .ref a) S4 hN hi (.inl hln) rfl (fun s5 S5 => ?_) (.inr hln)
      refine keep_it ok hN hi hln hj hlj hd1 hd2 S5 kind4 rec4 un new nL npin room fun s6 known => ?_
      obtain ⟨long, less'⟩ := less σ' a J.len
      exact gone_ok known hN hi hln fun s7 J7 => ⟨_, _, J7.weak (by rw [long, ← J.len, List.length_set, List.length_set, List.length_set]) less', yes rfl a un⟩
  refine wpAny_mono (run.run [] s σ H D (I.toTry _) wish) (fun f s1 told => ?_) fun _ _ z => z
  cases f with
  | next => exact wpAny_execs_nil (body_out ok told)
  | _ => exact body_out ok told
end
/-! ### isinstance of such an exception -/
section
variable {X : Cx}
/-- isinstance(e, C), e an exception without a dict of its own -/
def rIsK (K : PySem.W.Frag) : List V → Hp → VK → Prop := fun xs H Q => ∃ (a D : Addr) (c : V) (cv : Value) (b : Bool), xs = [.ref a, c] ∧ H a = some (ExK (.ref D) none a) ∧ ExcC K D ∧ (∀ u, RelV c u → u = cv) ∧ PySem.W.kitOne K (.ref D) cv = some b ∧ Q (.bl b) H
theorem ref_and {a : Addr} {c : V} : ∀ {us : List Value}, Vals [.ref a, c] us → ∃ u, us = [.ref a, u] ∧ RelV c u
  | _, .cons rfl (.cons rc .nil) => ⟨_, rfl, rc⟩
/-- one without a dict of its own, as an instance -/
theorem exK_bare {D a : Addr} {h : Heap} {P : Program} {w : World} (hok : HOk P w H h) (ea : H a = some (ExK (.ref D) none a)) : ∃ ob, PySem.W.InstAt h a ob D none := by
  obtain ⟨⟨_, _, _, _⟩, _, there, ⟨rfl, rfl, _⟩, rfl⟩ := exK_there hok ea
  exact ⟨_, there, rfl, rfl, trivial⟩
theorem call_isK : CallR X (.builtin "isinstance") (rIsK X.K) := by
  rintro pins s σ H _ us Q I r ⟨a, D, c, cv, b, rfl, ea, C, one, told, q⟩
  obtain ⟨u, rfl, ru⟩ := ref_and r
  obtain rfl := one u ru
  obtain ⟨ob, inst⟩ := exK_bare I.hok ea
  have kit := PySem.W.handS_kitx_exc (x := a) (ox := ob) C.hg C.hk C.hs C.hd C.ha C.hn C.ht C.hm
  exact PySem.W.kia_one kit I.kIn inst told (fun z => nomatch z) fun tk => fin_bl (I.tok tk) q rfl
/-- isinstance(x, C), x None or such an exception -/
theorem call_isBoth : CallR X (.builtin "isinstance") (fun xs H Q => rIsi X.K xs H Q ∨ rIsK X.K xs H Q) :=
  fun pins s σ H xs us Q I r h => h.elim (call_isi pins s σ H xs us Q I r) (call_isK pins s σ H xs us Q I r)
end
end Own

set_option Elab.async false
set_option linter.all false
set_option maxRecDepth 100000
set_option maxHeartbeats 4000000
/-! Callees as one thing: a def of the module, a method, a class that is made; those that may raise. -/
namespace Own
open PySem PySem.Spec PyProof.Rows L2
abbrev EF : XK := fun _ _ _ => False
theorem passF {P : Program} {w : World} {X : Cx} : Passes (L2.CX P w) X EF := fun _ _ _ _ _ _ _ c => by
  obtain ⟨_, _, _, _, _, _, _, _, _, _, _, _, z⟩ := c
  exact z.elim
section
variable (P : Program) (w : World) (K : PySem.W.Frag) (mg : Str → Option Value) (base : Heap)
structure CalX (k : Nat) (x : Str) (sp : Sp) : Prop where
  ex : ∃ (f : Addr) (fd : FuncData) (ps : List Str), FnOk P w K mg base (L2.CX P w) k f fd ps sp ∧ mg x = some (.ref f) ∧ PySem.W.keepIn K (.ref f) = true ∧ Binds K fd ps []
structure MetX (k : Nat) (C : Addr) (m : Str) (sp : Sp) : Prop where
  ex : ∃ (f : Addr) (fd : FuncData) (ps : List Str), Cls K C ∧ Meth K C m f ∧ FnOk P w K mg base (L2.CX P w) k f fd ps sp ∧ Binds K fd ps []
structure MakX (k : Nat) (x : Str) (C : Addr) (sp : Sp) : Prop where
  ex : ∃ (f : Addr) (fd : FuncData) (ps : List Str), Mk K C f ∧ FnOk P w K mg base (L2.CX P w) k f fd ps sp ∧ mg x = some (.ref C) ∧ Binds K fd ps []
end
/-- a def that lets nothing out, as one that may -/
theorem lift0 {P : Program} {w : World} {K : PySem.W.Frag} {mg : Str → Option Value} {base : Heap} {k : Nat} {f : Addr} {fd : FuncData} {ps : List Str} {sp : Sp} (F : FnOk P w K mg base CX0 k f fd ps sp) : FnOk P w K mg base (L2.CX P w) k f fd ps sp := by
  refine ⟨F.len, fun A outer s H args us vs Q E hr e0 hb hv h => codeAny_mono (F.run A outer s H args us vs Q E hr e0 hb hv h) fun r s' hq => ?_⟩
  cases r with
  | error e => exact (show False from hq).elim
  | ok fl =>
    cases fl with
    | ret u => exact hq
    | next => exact (show False from hq).elim
    | brk => exact (show False from hq).elim
    | cont => exact (show False from hq).elim
end Own

set_option Elab.async false
set_option linter.all false
set_option maxRecDepth 100000
set_option maxHeartbeats 4000000
/-! Lists of tuples in the heap; numbers as whole numbers of a range. -/
namespace Own
open PySem PySem.Spec PyProof.Rows L2
theorem tyName_int {x : V} {H : Hp} (e : tyName x H = some "int") : ∃ i, x = .int i := by
  have no : ∀ {n : String}, n ≠ "int" → some n = some "int" → False := fun h z => h (Option.some.inj z)
  cases x with
  | int i => exact ⟨i, rfl⟩
  | ref p =>
    simp only [tyName] at e
    split at e
    · exact (no (by decide) e).elim
    · exact (no (by decide) e).elim
    · exact (no (by decide) e).elim
    · exact (no (by decide) e).elim
    · cases e
  | byt y => cases e
  | flt y => cases e
  | ty y => cases e
  | _ => exact (no (by decide) e).elim
/-- is_whole's answer -/
def isW (x : V) (lo hi : Int) : Bool := match x with
  | .int i => decide (lo ≤ i) && decide (i ≤ hi)
  | _ => false
theorem isW_int {x : V} {lo hi : Int} (h : isW x lo hi = true) : ∃ i, x = .int i ∧ lo ≤ i ∧ i ≤ hi := by
  cases x with
  | int i =>
    have z : (decide (lo ≤ i) && decide (i ≤ hi)) = true := h
    rw [Bool.and_eq_true, decide_eq_true_eq, decide_eq_true_eq] at z
    exact ⟨i, rfl, z.1, z.2⟩
  | _ => cases h
theorem isW_nat {x : V} {n : Nat} (h : isW x 0 ((n : Int) - 1) = true) : ∃ i : Nat, x = .int (i : Int) ∧ i < n := by
  obtain ⟨i, rfl, h1, h2⟩ := isW_int h
  refine ⟨i.toNat, ?_, by omega⟩
  rw [Int.toNat_of_nonneg h1]
theorem isW_true {i lo hi : Int} (h1 : lo ≤ i) (h2 : i ≤ hi) : isW (.int i) lo hi = true := by
  show (decide (lo ≤ i) && decide (i ≤ hi)) = true
  rw [decide_eq_true h1, decide_eq_true h2]
  rfl
/-- the values are references to these tuples -/
abbrev Tups (H : Hp) : List V → List (List V) → Prop := Paired fun v xs => ∃ t, v = V.ref t ∧ H t = some (.tup xs)
theorem tups_ext {H H' : Hp} (k : ∀ t xs, H t = some (.tup xs) → H' t = some (.tup xs)) : ∀ {vs : List V} {xss : List (List V)}, Tups H vs xss → Tups H' vs xss
  | _, _, .nil => .nil
  | _, _, .cons ⟨t, e, h⟩ r => .cons ⟨t, e, k t _ h⟩ (tups_ext k r)
theorem tups_snoc {H : Hp} {t : Addr} {xs : List V} (h : H t = some (.tup xs)) : ∀ {vs : List V} {xss : List (List V)}, Tups H vs xss → Tups H (vs ++ [V.ref t]) (xss ++ [xs])
  | _, _, .nil => .cons ⟨t, rfl, h⟩ .nil
  | _, _, .cons r q => .cons r (tups_snoc h q)
theorem tups_get {H : Hp} : ∀ {vs : List V} {xss : List (List V)} {i : Nat} {v : V}, Tups H vs xss → vs[i]? = some v → ∃ t xs, v = V.ref t ∧ xss[i]? = some xs ∧ H t = some (.tup xs)
  | _, _, _, _, .nil, e => by simp at e
  | _, _, 0, _, .cons ⟨t, e, h⟩ _, q => by
    simp at q
    exact ⟨t, _, by rw [← q, e], rfl, h⟩
  | _, _, i + 1, v, .cons _ r, q => by
    obtain ⟨t, xs, h1, h2, h3⟩ := tups_get (i := i) (v := v) r (by simpa using q)
    exact ⟨t, xs, h1, by simpa using h2, h3⟩
theorem tups_len {H : Hp} {vs : List V} {xss : List (List V)} (h : Tups H vs xss) : vs.length = xss.length := Paired.length h
/-- at l a list of these tuples -/
def TL (H : Hp) (l : Addr) (xss : List (List V)) : Prop := ∃ vs, H l = some (.lst vs) ∧ Tups H vs xss
theorem same_new {H : Hp} {p : Addr} {o : HO} (n : H p = none) : Same H (upd H p o) := fun b u e => by
  rw [upd_ne (ne_of_none e n)]
  exact e
theorem upd_none {H : Hp} {p d : Addr} {o : HO} (h : upd H p o d = none) : d ≠ p ∧ H d = none := by
  by_cases e : d = p
  · rw [e, upd_same] at h
    cases h
  · rw [upd_ne e] at h
    exact ⟨e, h⟩
theorem take_snoc {α : Type} : ∀ {l : List α} {i : Nat} {x : α}, l[i]? = some x → l.take (i + 1) = l.take i ++ [x]
  | [], i, x, h => by simp at h
  | a :: l, 0, x, h => by
    simp at h
    simp [h]
  | a :: l, i + 1, x, h => by
    have ih := take_snoc (l := l) (i := i) (x := x) (by simpa using h)
    rw [List.take_succ_cons, ih]
    rfl
/-! ### lookups in written lists of attributes -/
theorem at_here {k : Str} {v : V} {r : List (Str × V)} : List.lookup k ((k, v) :: r) = some v := by
  simp [List.lookup]
theorem at_past {k g : Str} {v : V} {r : List (Str × V)} (h : (k == g) = false) : List.lookup k ((g, v) :: r) = List.lookup k r := by
  simp only [List.lookup, h]
theorem to_here {f : Str} {v x : V} {r : List (Str × V)} : putF f v ((f, x) :: r) = (f, v) :: r := if_pos rfl
theorem to_past {f g : Str} {v x : V} {r : List (Str × V)} (h : ¬ g = f) : putF f v ((g, x) :: r) = (g, x) :: putF f v r := if_neg h
/-! ### ifs over known tests -/
theorem if_yes {c : Bool} {A B : Prop} (hc : c = true) (h : A) : if c = true then A else B := by
  rw [if_pos hc]
  exact h
theorem if_no {c : Bool} {A B : Prop} (hc : c = false) (h : B) : if c = true then A else B := by
  rw [hc, if_neg Bool.false_ne_true]
  exact h
theorem if_both {c : Bool} {A B : Prop} (h1 : c = true → A) (h2 : c = false → B) : if c = true then A else B := by
  cases c with
  | true => exact if_yes rfl (h1 rfl)
  | false => exact if_no rfl (h2 rfl)
/-! ### a town -/
abbrev TRow := Nat × Nat × Nat
def rowV (r : TRow) : List V := [.int (r.1 : Int), .int (r.2.1 : Int), .int (r.2.2 : Int)]
def endV (r : TRow) : List V := [.int (r.2.1 : Int), .int (r.2.2 : Int)]
abbrev Ents (H : Hp) : List (Key × V) → List TRow → Prop := Paired fun kv r => kv.1 = Sum.inl (r.1 : Int) ∧ ∃ t, kv.2 = V.ref t ∧ H t = some (.tup (endV r))
theorem ents_ext {H H' : Hp} (k : ∀ t xs, H t = some (.tup xs) → H' t = some (.tup xs)) : ∀ {kvs : List (Key × V)} {rows : List TRow}, Ents H kvs rows → Ents H' kvs rows
  | _, _, .nil => .nil
  | _, _, .cons ⟨e, t, h1, h2⟩ r => .cons ⟨e, t, h1, k t _ h2⟩ (ents_ext k r)
theorem ents_snoc {H : Hp} {t : Addr} {r : TRow} (h : H t = some (.tup (endV r))) : ∀ {kvs : List (Key × V)} {rows : List TRow}, Ents H kvs rows → Ents H (kvs ++ [(Sum.inl (r.1 : Int), V.ref t)]) (rows ++ [r])
  | _, _, .nil => .cons ⟨rfl, t, rfl, h⟩ .nil
  | _, _, .cons z q => .cons z (ents_snoc h q)
theorem ents_get {H : Hp} : ∀ {kvs : List (Key × V)} {rows : List TRow} {i : Nat} {kv : Key × V}, Ents H kvs rows → kvs[i]? = some kv → ∃ r t, rows[i]? = some r ∧ kv = (Sum.inl (r.1 : Int), V.ref t) ∧ H t = some (.tup (endV r))
  | _, _, _, _, .nil, e => by simp at e
  | (k0, v0) :: _, _, 0, _, .cons ⟨e, t, h1, h2⟩ _, q => by
    simp at q
    refine ⟨_, t, rfl, ?_, h2⟩
    have e1 : k0 = _ := e
    have e2 : v0 = _ := h1
    rw [← q, e1, e2]
  | _, _, i + 1, v, .cons _ r, q => by
    obtain ⟨a, t, h1, h2, h3⟩ := ents_get (i := i) (kv := v) r (by simpa using q)
    exact ⟨a, t, by simpa using h1, h2, h3⟩
theorem ents_drop {H : Hp} (k : Nat) : ∀ {kvs : List (Key × V)} {rows : List TRow}, Ents H kvs rows → Ents H (dropK kvs (Sum.inl (k : Int))) (rows.filter fun r => decide (r.1 ≠ k))
  | _, _, .nil => .nil
  | kv :: kvs, r :: rows, .cons z q => by
    obtain ⟨e, t, h1, h2⟩ := id z
    have ih := ents_drop k q
    by_cases h : r.1 = k
    · rw [dropK_pos (by rw [e, h])]
      simp only [List.filter_cons, h]
      simpa using ih
    · have ne : ¬ kv.1 = Sum.inl (k : Int) := by
        rw [e]
        intro y
        exact h (Int.ofNat.inj (Sum.inl.inj y))
      rw [dropK_neg ne]
      simp only [List.filter_cons]
      rw [if_pos (by simpa using h)]
      exact .cons z ih
theorem ents_has {H : Hp} (k : Nat) : ∀ {kvs : List (Key × V)} {rows : List TRow}, Ents H kvs rows → (valV kvs (Sum.inl (k : Int) : Key)).isSome = decide (k ∈ rows.map (·.1))
  | _, _, .nil => by simp [valV_nil]
  | kv :: kvs, r :: rows, .cons z q => by
    obtain ⟨e, t, h1, h2⟩ := id z
    by_cases h : r.1 = k
    · rw [valV_pos (by rw [e, h])]
      simp [h]
    · have ne : ¬ kv.1 = Sum.inl (k : Int) := by
        rw [e]
        intro y
        exact h (Int.ofNat.inj (Sum.inl.inj y))
      rw [valV_neg ne, ents_has k q]
      have h' : ¬ k = r.1 := fun y => h y.symm
      simp [h']
theorem ents_len {H : Hp} {kvs : List (Key × V)} {rows : List TRow} (h : Ents H kvs rows) : kvs.length = rows.length := Paired.length h
def tF (m : Nat) (d : Addr) (n : Nat) : List (Str × V) := [("_many", .int (m : Int)), ("_ends", .ref d), ("_built", .int (n : Int))]
theorem tF_many (m : Nat) (d : Addr) (n : Nat) : (tF m d n).lookup ("_many" : Str) = some (.int (m : Int)) := at_here
theorem tF_ends (m : Nat) (d : Addr) (n : Nat) : (tF m d n).lookup ("_ends" : Str) = some (.ref d) := (at_past (by decide +kernel)).trans at_here
theorem tF_built (m : Nat) (d : Addr) (n : Nat) : (tF m d n).lookup ("_built" : Str) = some (.int (n : Int)) := (at_past (by decide +kernel)).trans ((at_past (by decide +kernel)).trans at_here)
theorem tF_no (m : Nat) (d : Addr) (n : Nat) {x : Str} (h1 : (x == ("_many" : Str)) = false) (h2 : (x == ("_ends" : Str)) = false) (h3 : (x == ("_built" : Str)) = false) : (tF m d n).lookup x = none :=
  (at_past h1).trans ((at_past h2).trans ((at_past h3).trans rfl))
theorem tF_put (m : Nat) (d : Addr) (n k : Nat) : putF "_built" (.int (k : Int)) (tF m d n) = tF m d k :=
  (to_past (by decide +kernel)).trans (congrArg _ ((to_past (by decide +kernel)).trans (congrArg _ to_here)))
theorem tF_new (m : Nat) (d : Addr) : putF "_built" (.int 0) (putF "_ends" (.ref d) (putF "_many" (.int (m : Int)) [])) = tF m d 0 := by
  have e : putF "_ends" (V.ref d) (putF "_many" (.int (m : Int)) []) = [(("_many" : Str), V.int (m : Int)), (("_ends" : Str), V.ref d)] := (to_past (by decide +kernel)).trans rfl
  rw [e]
  exact (to_past (by decide +kernel)).trans (congrArg _ ((to_past (by decide +kernel)).trans rfl))
/-- the streets of a town: numbers rise, below the next one; ends are two unlike places -/
structure RowsOk (m : Nat) (rows : List TRow) (n : Nat) : Prop where
  rise : rows.Pairwise fun a b => a.1 < b.1
  below : ∀ r ∈ rows, r.1 < n
  ends : ∀ r ∈ rows, r.2.1 < m ∧ r.2.2 < m ∧ r.2.1 ≠ r.2.2
  few : rows.length ≤ 60
theorem RowsOk.snoc {m n a b : Nat} {rows : List TRow} (R : RowsOk m rows n) (h : rows.length < 60) (ha : a < m) (hb : b < m) (ne : a ≠ b) : RowsOk m (rows ++ [(n, a, b)]) (n + 1) where
  rise := by
    rw [List.pairwise_append]
    refine ⟨R.rise, List.pairwise_singleton _ _, fun x hx y hy => ?_⟩
    rw [List.mem_singleton] at hy
    rw [hy]
    exact R.below x hx
  below := fun r hr => by
    rcases List.mem_append.mp hr with z | z
    · have := R.below r z
      omega
    · rw [List.mem_singleton] at z
      rw [z]
      exact Nat.lt_succ_self n
  ends := fun r hr => by
    rcases List.mem_append.mp hr with z | z
    · exact R.ends r z
    · rw [List.mem_singleton] at z
      rw [z]
      exact ⟨ha, hb, ne⟩
  few := by
    rw [List.length_append]
    exact h
theorem RowsOk.drop {m n : Nat} {rows : List TRow} (R : RowsOk m rows n) (p : TRow → Bool) : RowsOk m (rows.filter p) n where
  rise := R.rise.filter _
  below := fun r hr => R.below r (List.mem_filter.mp hr).1
  ends := fun r hr => R.ends r (List.mem_filter.mp hr).1
  few := Nat.le_trans (List.length_filter_le _ _) R.few
/-- the town at p, its dict at d -/
structure TownAt (C : Addr) (H : Hp) (p d : Addr) (m : Nat) (rows : List TRow) (n : Nat) : Prop where
  ob : ∃ dx, H p = some (.ins C dx (tF m d n))
  dc : ∃ kvs, H d = some (.dK kvs) ∧ Ents H kvs rows
  ok : RowsOk m rows n
  pm : 1 ≤ m ∧ m ≤ 16
theorem TownAt.pd {C : Addr} {H : Hp} {p d : Addr} {m : Nat} {rows : List TRow} {n : Nat} (T : TownAt C H p d m rows n) : p ≠ d := by
  obtain ⟨dx, h1⟩ := T.ob
  obtain ⟨kvs, h2, _⟩ := T.dc
  exact ne_of h1 h2 (by intro z; cases z)
theorem TownAt.same {C : Addr} {H H' : Hp} {p d : Addr} {m : Nat} {rows : List TRow} {n : Nat} (T : TownAt C H p d m rows n) (s : Same H H') : TownAt C H' p d m rows n := by
  obtain ⟨dx, h1⟩ := T.ob
  obtain ⟨kvs, h2, h3⟩ := T.dc
  exact ⟨⟨dx, s _ _ h1⟩, ⟨kvs, s _ _ h2, ents_ext (fun t xs e => s _ _ e) h3⟩, T.ok, T.pm⟩
/-- all but the town's own two objects stands -/
def Keeps (H H' : Hp) (p d : Addr) : Prop := ∀ c o, H c = some o → c ≠ p → c ≠ d → H' c = some o
theorem keeps_tups {C : Addr} {H H' : Hp} {p d : Addr} {m : Nat} {rows : List TRow} {n : Nat} (T : TownAt C H p d m rows n) (k : Keeps H H' p d) : ∀ t xs, H t = some (.tup xs) → H' t = some (.tup xs) := by
  obtain ⟨dx, h1⟩ := T.ob
  obtain ⟨kvs, h2, _⟩ := T.dc
  intro t xs e
  refine k t _ e (fun z => ?_) fun z => ?_
  · rw [z, h1] at e
    cases e
  · rw [z, h2] at e
    cases e
theorem RowsOk.back {m n : Nat} {rows : List TRow} (R : RowsOk m rows n) (a b : Nat) : ((rows ++ [(n, a, b)]).filter fun r => decide (r.1 ≠ n)) = rows := by
  rw [List.filter_append]
  have e1 : (rows.filter fun r => decide (r.1 ≠ n)) = rows := List.filter_eq_self.mpr fun r hr => by
    have := R.below r hr
    rw [decide_eq_true_eq]
    omega
  rw [e1]
  simp
theorem RowsOk.mono {m n k : Nat} {rows : List TRow} (R : RowsOk m rows n) (h : n ≤ k) : RowsOk m rows k :=
  ⟨R.rise, fun r hr => Nat.lt_of_lt_of_le (R.below r hr) h, R.ends, R.few⟩
theorem same_over {H Hz : Hp} {l : Addr} {o : HO} (n : H l = none) (s : Same H Hz) : Same H (upd Hz l o) := fun c u e => by
  rw [upd_ne (ne_of_none e n)]
  exact s c u e
theorem tups_over {Hz : Hp} {l : Addr} {o : HO} {xs : List V} {vs : List V} {xss : List (List V)} (a : Hz l = some (.lst xs)) (u : Tups Hz vs xss) : Tups (upd Hz l o) vs xss := tups_ext (fun t ys e => by
  rw [upd_ne (fun z => by rw [z, a] at e; cases e)]
  exact e) u
end Own

set_option Elab.async false
set_option linter.all false
set_option maxRecDepth 100000
set_option maxHeartbeats 4000000
/-! Sizes of numbers, remainders, the law helpers' facts that speak of no program. -/
namespace Own
open PySem PySem.Spec PyProof.Rows L2
/-- a whole number that the machine multiplies without a thought -/
def Fit (c : Int) : Prop := c.natAbs.log2 < 2000000
theorem fit_small {c : Int} (h : c.natAbs < 2 ^ 64) : Fit c := by
  unfold Fit
  by_cases e : c.natAbs = 0
  · rw [e]
    decide
  · have z := (Nat.log2_lt e).mpr h
    omega
theorem fit_range {c : Int} (h1 : 0 ≤ c) (h2 : c < 18446744073709551616) : Fit c := fit_small (by omega)
theorem fit_bits {c : Int} (h : Builtin.Int.intBits c ≤ 1048576) : Fit c := by
  unfold Fit
  have z : c.natAbs.log2 ≤ Builtin.Int.intBits c := by
    unfold Builtin.Int.intBits
    split
    · rename_i e
      simp_all
    · omega
  omega
theorem mul_fit {i j : Int} (hi : Fit i) (hj : Fit j) : CMulG i j := by
  unfold CMulG
  unfold Fit at hi hj
  omega
theorem emod_lt {i m : Int} (h : 0 < m) : 0 ≤ i % m ∧ i % m < m := ⟨Int.emod_nonneg i (by omega), Int.emod_lt_of_pos i h⟩
theorem nat_of {i : Int} (h : 0 ≤ i) : ∃ n : Nat, i = (n : Int) := ⟨i.toNat, (Int.toNat_of_nonneg h).symm⟩
/-- an item of a list at a remainder -/
theorem at_mod {α : Type} {xs : List α} {i : Int} (h : xs ≠ []) : ∃ v, atI xs (i % (xs.length : Int)) = some v ∧ v ∈ xs := by
  have hl : 0 < xs.length := List.length_pos_iff.mpr h
  obtain ⟨h1, h2⟩ := emod_lt (i := i) (m := (xs.length : Int)) (by omega)
  obtain ⟨j, hj⟩ := nat_of h1
  have lt : j < xs.length := by omega
  refine ⟨xs[j], ?_, List.getElem_mem lt⟩
  rw [hj]
  exact atI_nat (List.getElem?_eq_getElem lt)
theorem at_lt {α : Type} {xs : List α} {i : Int} (h1 : 0 ≤ i) (h2 : i < (xs.length : Int)) : ∃ v, atI xs i = some v ∧ v ∈ xs := by
  obtain ⟨j, hj⟩ := nat_of h1
  have lt : j < xs.length := by omega
  refine ⟨xs[j], ?_, List.getElem_mem lt⟩
  rw [hj]
  exact atI_nat (List.getElem?_eq_getElem lt)
abbrev Pair := Nat × Nat
def pairV (p : Pair) : List V := [.int (p.1 : Int), .int (p.2 : Int)]
/-- two unlike places of a town of m -/
def PairOk (m : Nat) (p : Pair) : Prop := p.1 < m ∧ p.2 < m ∧ p.1 ≠ p.2
theorem step_ends {m : Nat} {one num : Int} (hm : 2 ≤ m) (h1 : 0 ≤ one) (h2 : one < m) : 0 ≤ (one + 1 + num % ((m : Int) - 1)) % m ∧ (one + 1 + num % ((m : Int) - 1)) % m < m ∧ (one + 1 + num % ((m : Int) - 1)) % m ≠ one := by
  obtain ⟨a1, a2⟩ := emod_lt (i := num) (m := (m : Int) - 1) (by omega)
  generalize num % ((m : Int) - 1) = q at *
  obtain ⟨b1, b2⟩ := emod_lt (i := one + 1 + q) (m := (m : Int)) (by omega)
  refine ⟨b1, b2, ?_⟩
  by_cases h : one + 1 + q < m
  · rw [Int.emod_eq_of_lt (by omega) h]
    omega
  · have e : (one + 1 + q) % (m : Int) = (one + 1 + q - m) % (m : Int) := (Int.sub_emod_right _ _).symm
    rw [e, Int.emod_eq_of_lt (by omega) (by omega)]
    omega
/-- the items taken so far of a list of whole numbers -/
theorem int_item {ns : List Int} {i : Nat} {y : V} (h : (ns.map V.int)[i]? = some y) : ∃ z, ns[i]? = some z ∧ y = V.int z := by
  rw [List.getElem?_map] at h
  cases e : ns[i]? with
  | none =>
    rw [e] at h
    cases h
  | some z =>
    rw [e] at h
    exact ⟨z, rfl, (Option.some.inj h).symm⟩
end Own
namespace Own
open PySem PySem.Spec PyProof.Rows L2
theorem pair_nat {i j : Int} (hi : 0 ≤ i) (hj : 0 ≤ j) : pairV (i.toNat, j.toNat) = [V.int i, V.int j] := by
  show [V.int ((i.toNat : Nat) : Int), V.int ((j.toNat : Nat) : Int)] = [V.int i, V.int j]
  rw [Int.toNat_of_nonneg hi, Int.toNat_of_nonneg hj]
theorem pair_ok {m : Nat} {i j : Int} (h1 : 0 ≤ i) (h2 : i < m) (h3 : 0 ≤ j) (h4 : j < m) (ne : i ≠ j) : PairOk m (i.toNat, j.toNat) := by
  refine ⟨?_, ?_, ?_⟩
  · show i.toNat < m
    omega
  · show j.toNat < m
    omega
  · show i.toNat ≠ j.toNat
    omega
theorem dp_ints {K : PySem.W.Frag} {H : Hp} : ∀ ns : List Int, DpAll K H (ns.map V.int) (ns.map PyData.int)
  | [] => .nil
  | n :: ns => .cons (.int n) (dp_ints ns)
theorem eqv_nil_nil : PyData.eqv (.list []) (.list []) = true := by simp [PyData.eqv, PyData.eqvAll]
theorem eqv_cons_nil (d : PyData) (ds : List PyData) : PyData.eqv (.list (d :: ds)) (.list []) = false := by simp [PyData.eqv, PyData.eqvAll]
/-- what may be laid, n deep -/
def Lay (n : Nat) (d : PyData) : Prop := d.canLay0 = true ∧ d.depth ≤ n
theorem lay_int (i : Int) : Lay 0 (.int i) := ⟨by simp only [PyData.canLay0], by simp only [PyData.depth]; exact Nat.le_refl _⟩
theorem lay_all {n : Nat} : ∀ {ds : List PyData}, (∀ d ∈ ds, Lay n d) → PyData.canLayAll0 ds = true ∧ PyData.depthAll ds ≤ n
  | [], _ => ⟨by simp only [PyData.canLayAll0], by simp only [PyData.depthAll]; exact Nat.zero_le _⟩
  | d :: ds, h => by
    obtain ⟨h1, h2⟩ := lay_all (ds := ds) fun e he => h e (List.mem_cons_of_mem _ he)
    obtain ⟨h3, h4⟩ := h d List.mem_cons_self
    refine ⟨?_, ?_⟩
    · simp only [PyData.canLayAll0, h1, h3, Bool.and_self]
    · simp only [PyData.depthAll]
      exact Nat.max_le.mpr ⟨h4, h2⟩
theorem lay_list {n : Nat} {ds : List PyData} (h : ∀ d ∈ ds, Lay n d) : Lay (n + 1) (.list ds) := by
  obtain ⟨h1, h2⟩ := lay_all h
  exact ⟨by simp only [PyData.canLay0, h1], by simp only [PyData.depth]; omega⟩
theorem lay_tup {n : Nat} {ds : List PyData} (h : ∀ d ∈ ds, Lay n d) : Lay (n + 1) (.tuple ds) := by
  obtain ⟨h1, h2⟩ := lay_all h
  exact ⟨by simp only [PyData.canLay0, h1], by simp only [PyData.depth]; omega⟩
theorem Lay.shaped {n : Nat} {d : PyData} (h : Lay n d) (hn : n ≤ 64) : SeqAt.shaped d = true := by
  unfold SeqAt.shaped
  rw [h.1, Bool.true_and, decide_eq_true_eq]
  exact Nat.le_trans h.2 hn
theorem lay_ints (ns : List Int) : Lay 1 (.list (ns.map PyData.int)) := lay_list fun d hd => by
  obtain ⟨i, _, rfl⟩ := List.mem_map.mp hd
  exact lay_int i
theorem Lay.eqv {n : Nat} {d : PyData} (h : Lay n d) : PyData.eqv d d = true := SeqAt.eqv_refl d h.1
theorem cut_take (xs : List V) (c : Nat) : cutV xs none (some (c : Int)) = xs.take c := by
  unfold cutV
  rw [HT.sIx_none, HT.sIx_nat, Nat.sub_zero, List.drop_zero]
  by_cases h : c ≤ xs.length
  · rw [Nat.min_eq_left h]
  · rw [Nat.min_eq_right (by omega), List.take_of_length_le (Nat.le_refl _), List.take_of_length_le (by omega)]
theorem at_end {α : Type} {l : List α} {v : α} (h : l[l.length - 1]? = some v) : atI l (-1) = some v := by
  rw [← List.getLast?_eq_getElem?, List.getLast?_eq_some_iff] at h
  obtain ⟨ys, rfl⟩ := h
  exact atI_last ys v
end Own

set_option Elab.async false
set_option linter.all false
set_option maxRecDepth 100000
set_option maxHeartbeats 4000000
/-! Defs that make lambdas: the def's own code object and its table. -/
namespace Own
open PySem PySem.Spec PyProof.Rows L2
theorem fn_lam {P : Program} {w : World} {K : PySem.W.Frag} {mg : Str → Option Value} {base : Heap} {x qual : Str} {params : Arguments} {body : List Stmt} {scope : Scope} {fd : FuncData} {N ps : List Str} {k : Nat} {sp : Sp} {p : Str × Option Str}
    (F : FunD K x qual params body scope [] [] (He.fAd K p) fd) (S : FnScope N ps scope) (len : ∀ vs H Q E, sp vs H Q E → vs.length = ps.length)
    (hbody : ∀ (A : Around) (outer : List Env) (s : Shared) (H : Hp) (vs : List V) (Q : VK) (E : XK), Room k (A.deeper (envOfC qual scope s.heap.objs.size (He.fAd K p) (.ref (He.codeOf K p)))) → sp vs H Q E →
      ∃ t, PSs (cxOf (L2.CX P w) P w K mg base N qual scope (He.fAd K p) (.ref (He.codeOf K p)) A outer s H E) body t ∧ t { nx := fun _ H' => Q .non H', rt := Q } (start N vs) H) : FnOk P w K mg base (L2.CX P w) (k + 1) (He.fAd K p) fd ps sp := by
  obtain ⟨oc, od, dV, kV, doc, pm, an, cdv, ct, osl, rfl, lk, hcd, _, _⟩ := F.ex
  obtain ⟨c, rfl⟩ := He.codeIn_ref hcd
  have ec : He.codeOf K p = c := He.codeOf_eq lk rfl
  refine fn_of lk hcd S len fun A outer s H vs Q E hr hsp => ?_
  have z := hbody A outer s H vs Q E
  rw [ec] at z
  exact z hr hsp
/-- a lambda without parameters takes no arguments -/
abbrev LamBinds (params : Arguments) (body : Expr) (scope : Scope) : Prop := ∀ q cl pm cv ctv, bindArgs (PySem.W.kla_fn "<lambda>" q params body scope cl pm cv ctv) ⟨[], []⟩ = pure []
/-- a def's promise with its tables' heap: all but the tables stays, the tables are known -/
abbrev ExtT (T : List (Addr × Str)) (H H' : Hp) : Prop := LamX.ExtN H H' ∧ LamX.Tabs T H'
theorem ext_same {T : List (Addr × Str)} {H H' : Hp} (t : LamX.Tabs T H) (s : Same H H') : ExtT T H H' := ⟨LamX.ExtN.of s, t.ext s⟩
theorem ext_trans {T : List (Addr × Str)} {H H1 H2 : Hp} (a : LamX.ExtN H H1) (b : ExtT T H1 H2) : ExtT T H H2 := ⟨a.trans b.1, b.2⟩
theorem TownAt.ext {C : Addr} {H H' : Hp} {p d : Addr} {m : Nat} {rows : List TRow} {n : Nat} (T : TownAt C H p d m rows n) (s : LamX.ExtN H H') : TownAt C H' p d m rows n := by
  obtain ⟨dx, h1⟩ := T.ob
  obtain ⟨kvs, h2, h3⟩ := T.dc
  exact ⟨⟨dx, s _ _ h1 (fun _ z => by cases z)⟩, ⟨kvs, s _ _ h2 (fun _ z => by cases z), ents_ext (fun t xs e => s _ _ e (fun _ z => by cases z)) h3⟩, T.ok, T.pm⟩
theorem lst_ext {H H' : Hp} {l : Addr} {xs : List V} (h : H l = some (.lst xs)) (s : LamX.ExtN H H') : H' l = some (.lst xs) := s _ _ h (fun _ z => by cases z)
theorem tl_ext {H H' : Hp} {l : Addr} {xss : List (List V)} (h : TL H l xss) (s : LamX.ExtN H H') : TL H' l xss := by
  obtain ⟨vs, h1, h2⟩ := h
  exact ⟨vs, lst_ext h1 s, tups_ext (fun t xs e => s _ _ e (fun _ z => by cases z)) h2⟩
theorem sql_ext {K : PySem.W.Frag} {H H' : Hp} {l : Addr} {xs : List V} (h : SqL K H l xs) (s : LamX.ExtN H H') : SqL K H' l xs := by
  rcases h with (h | ⟨o, h⟩) | h
  · exact .inl (.inl (s _ _ h (fun _ z => by cases z)))
  · exact .inl (.inr ⟨o, s _ _ h (fun _ z => by cases z)⟩)
  · exact .inr h
theorem lam_none {X : Cx} : defaultsOf ({ posonlyargs := [], args := [], vararg := none, kwonlyargs := [], kw_defaults := [], kwarg := none, defaults := [] } : Arguments) X.env = ([], []) := by rfl
theorem ty_ext {H H' : Hp} {v : V} (s : LamX.ExtN H H') (h : ∃ n, tyName v H = some n) : ∃ n, tyName v H' = some n := by
  obtain ⟨n, e⟩ := h
  refine ⟨n, ?_⟩
  cases v with
  | ref p =>
    simp only [tyName] at e ⊢
    cases there : H p with
    | none => simp [there] at e
    | some o =>
      have stays := s p o there fun ps z => by simp [there, z] at e
      rw [stays, ← there]
      exact e
  | _ => exact e
theorem tabs_keeps {C : Addr} {T : List (Addr × Str)} {H H' : Hp} {p d : Addr} {m : Nat} {rows : List TRow} {n : Nat} (W : TownAt C H p d m rows n) (k : Keeps H H' p d) (t : LamX.Tabs T H) : LamX.Tabs T H' := by
  obtain ⟨dx, h1⟩ := W.ob
  obtain ⟨kvs, h2, _⟩ := W.dc
  intro q hq
  obtain ⟨ps, e1, e2, e3⟩ := t q hq
  refine ⟨ps, k _ _ e1 (fun z => ?_) (fun z => ?_), e2, fun pos cv hc => ?_⟩
  · rw [z, h1] at e1
    cases e1
  · rw [z, h2] at e1
    cases e1
  · obtain ⟨c, f1, f2⟩ := e3 pos cv hc
    refine ⟨c, f1, k _ _ f2 (fun z => ?_) (fun z => ?_)⟩
    · rw [z, h1] at f2
      unfold LamX.CodeO at f2
      cases f2
    · rw [z, h2] at f2
      unfold LamX.CodeO at f2
      cases f2
def rowD (r : TRow) : PyData := .tuple [.int (r.1 : Int), .int (r.2.1 : Int), .int (r.2.2 : Int)]
theorem dp_rows {K : PySem.W.Frag} {H : Hp} : ∀ {vs : List V} {rows : List TRow}, Tups H vs (rows.map rowV) → DpAll K H vs (rows.map rowD)
  | [], [], _ => .nil
  | _ :: _, [], h => by cases h
  | [], _ :: _, h => by cases h
  | v :: vs, r :: rows, .cons ⟨t, e, h⟩ q => by
    rw [e]
    exact .cons (.tup (SqT.of h) (.cons (.int _) (.cons (.int _) (.cons (.int _) .nil)))) (dp_rows q)
theorem lay_rows (rows : List TRow) : Lay 2 (.list (rows.map rowD)) := lay_list fun d hd => by
  obtain ⟨r, _, rfl⟩ := List.mem_map.mp hd
  refine lay_tup fun e he => ?_
  simp only [List.mem_cons, List.not_mem_nil, or_false] at he
  rcases he with h | h | h <;> rw [h] <;> exact lay_int _
/-- two lists of the same rows compared -/
theorem dp_town {K : PySem.W.Frag} {H : Hp} {l : Addr} {rows : List TRow} (h : TL H l (rows.map rowV)) : Dp K H (.ref l) (.list (rows.map rowD)) := by
  obtain ⟨vs, h1, h2⟩ := h
  exact .lst (SqL.of h1) (dp_rows h2)
theorem tl_same {H H' : Hp} {l : Addr} {xss : List (List V)} (h : TL H l xss) (s : Same H H') : TL H' l xss := by
  obtain ⟨vs, h1, h2⟩ := h
  exact ⟨vs, s _ _ h1, tups_ext (fun t xs e => s _ _ e) h2⟩
theorem tl_keeps {C : Addr} {H H' : Hp} {p d l : Addr} {m : Nat} {rows : List TRow} {n : Nat} {xss : List (List V)} (W : TownAt C H p d m rows n) (k : Keeps H H' p d) (h : TL H l xss) : TL H' l xss := by
  obtain ⟨vs, h1, h2⟩ := h
  obtain ⟨dx, e1⟩ := W.ob
  obtain ⟨kvs, e2, _⟩ := W.dc
  exact ⟨vs, k _ _ h1 (ne_of h1 e1 (by intro z; cases z)) (ne_of h1 e2 (by intro z; cases z)), tups_ext (keeps_tups W k) h2⟩
end Own

set_option Elab.async false
set_option linter.all false
set_option maxRecDepth 100000
set_option maxHeartbeats 4000000
/-! An own error class over ValueError whose __init__ begins with super().__init__(text). -/
namespace Own
open PySem PySem.Spec PyProof.Rows L2
section
open PySem.W
/-- at C stands an error class whose objects ValueError makes -/
def VeAt (h : Heap) (C : Addr) : Prop := ∃ nm q N bs bm flag sn sub ab col dd k0 k1 k2 k3 k5, h.get? C = some (excClassObj nm q C N bs bm flag sn sub ab col dd k0 k1 k2 k3 k5 "ValueError.__new__")
theorem VeAt.keeps {h h' : Heap} {C : Addr} (c : VeAt h C) (k : ∀ b o, h.get? b = some o → h'.get? b = some o) : VeAt h' C := by
  obtain ⟨nm, q, N, bs, bm, flag, sn, sub, ab, col, dd, k0, k1, k2, k3, k5, at_⟩ := c
  exact ⟨nm, q, N, bs, bm, flag, sn, sub, ab, col, dd, k0, k1, k2, k3, k5, k _ _ at_⟩
/-- ValueError.__init__, bound to the exception at e, called: it sets e's arguments anew, no more -/
theorem call_bound_ve {prog : Program} {w : World} {A : Around} {E : Value → Shared → Prop} {s : Shared} {C u e t0 : Addr} {rest : List Value} {Q : Value → Shared → Prop}
    (cl : VeAt s.heap C) (he : s.heap.get? e = some (HandSPX.excO C t0)) (hu : s.heap.get? u = some (kxs_mw "ValueError.__init__" e)) (few : rest.length ≤ sizeLine)
    (hq : ∀ (h' : Heap) (t1 : Addr), (∀ b o, b ≠ e → s.heap.get? b = some o → h'.get? b = some o) → h'.get? e = some (HandSPX.excO C t1) → Q .none { s with heap := h' }) :
    wpAny (model prog w) A (call (.ref u) rest) Q E s := by
  obtain ⟨h, g, d, t, os⟩ := s
  obtain ⟨nm, q, N, bs, bm, flag, sn, sub, ab, col, dd, k0, k1, k2, k3, k5, hC⟩ := cl
  have kind : (Value.type "method-wrapper" == Value.type "method" || Value.type "method-wrapper" == Value.type "builtin_function_or_method" || Value.type "method-wrapper" == Value.type "method-wrapper") = true := by decide
  have room : ∀ {o : Obj} {b : Addr}, h.get? b = some o → (h.push (kdv_tup rest)).get? b = some o := fun q => Heap.get?_push_of_some _ q
  refine wpAny_call (codeAny_of_tree (?_ : wpAny (model prog w) A.in1 (callAny (.ref u) ⟨rest, []⟩) _ _ _))
  simp only [callAny]
  refine wpAny_bind (wpAny_load hu ?_)
  simp only [kxs_mw, kind, if_true]
  refine KFB.if_so (by decide) (wpAny_bind (ESX.check_bound F.excBase_ValueError hC he rfl (wpAny_bind (wpAny_pure (wpAny_pure ?_)))))
  refine ⟨Code.quiet_builtin _ (by decide +kernel), codeAny_builtin F.excBase_ValueError.initEntry ?_⟩
  rw [Around.under_plainId F.excBase_ValueError.init.plain _]
  wp_walk
  exact hq _ h.objs.size (fun b o off q => (Heap.get?_update_other _ _ off.symm).trans (room q)) (Heap.get?_update_self _ (room he) rfl)
end
abbrev supN : List Str := ["self", "between", "apart", "part"]
abbrev supEnv (scope : Scope) (s : Shared) (f cda cc : Addr) : Env := PySem.W.ksEnv "Parted.__init__" scope s.heap.objs.size f (.ref cda) cc
/-- Parted.__init__ runs: its class's cell is captured -/
def supCx (P : Program) (w : World) (K : PySem.W.Frag) (mg : Str → Option Value) (base : Heap) (scope : Scope) (f cda cc : Addr) (A : Around) (outer : List Env) (s : Shared) (H : Hp) (E : XK) : Cx where
  prog := P
  w := w
  K := K
  mg := mg
  base := base
  A := A.deeper (supEnv scope s f cda cc)
  N := supN
  s_0 := s
  H_0 := H
  env := supEnv scope s f cda cc
  outer := outer
  stack := supEnv scope s f cda cc :: outer
  ex := []
  fn := fun _ => false
  calm := true
  pn := []
  xe := fun e s' => wpAny (model P w) (A.deeper (supEnv scope s f cda cc)) (leaving (supEnv scope s f cda cc) e) (fun _ s'' => L2.CX P w outer H s E e s'') (fun e' s'' => L2.CX P w outer H s E e' s'') s'
/-- the scope of such a def: three parameters, the comprehension's name elsewhere, the class captured -/
structure SupS (scope : Scope) : Prop where
  kind : scope.kind = .function
  co : scope.isCoroutine = false
  gen : scope.isGenerator = false
  loc : scope.names.lookup ("self" : Str) = some .local ∧ scope.names.lookup ("between" : Str) = some .local ∧ scope.names.lookup ("apart" : Str) = some .local
  cls : scope.names.lookup ("__class__" : Str) = some .free
  sup : scope.names.lookup ("super" : Str) = some .globalImplicit
  nocell : ∀ y ∈ scope.names, y.2 ≠ .cell
  free : ∀ y ∈ scope.names, y.2 = .free → y.1 = "__class__"
  part : ¬ Vis scope "part"
structure SupC (K : PySem.W.Frag) (mg : Str → Option Value) (P : Program) (C fI cda cc : Addr) (params : Arguments) (body : List Stmt) (scope : Scope) (fd : FuncData) : Prop where
  oex : OexC K C
  fn : ∃ (oc dV kV doc pm ct : Value) (od an : Option Addr) (osl : Array (Option Value)), fd = PySem.W.ksFn "__init__" "Parted.__init__" params body scope dV kV doc pm an (.ref cda) ct cc ∧ K.lookup fI = some ⟨oc, od, .func fd, osl⟩
  arg : ∃ ar : Arg, (params.posonlyargs ++ params.args).head? = some ar ∧ ar.arg = "self"
  code : PySem.W.codeIn K (.ref cda) "Parted.__init__" = true
  file : ∃ (ccl : Value) (cdd : Option Addr) (vs : Array Value) (ccs : Array (Option Value)) (f : Str) (tf : Tok), K.lookup cda = some ⟨ccl, cdd, .fields vs, ccs⟩ ∧ vs[2]? = some (.str f tf) ∧ ((P.main.file : Str) == f) = true
  cell : ∃ (cl : Value) (cld : Option Addr) (csl : Array (Option Value)), K.lookup cc = some ⟨cl, cld, .cell (some (.ref C)), csl⟩
  sup : mg "super" = none
  opq : PySem.W.nsIn K cStatics "thirdparty.any" = some none
  meth : PySem.W.ks_superIn K C C "__init__" = some (some (.builtin "ValueError.__init__"))
  ve : PySem.W.subIn K (.ref C) (.type "ValueError") = some true
  own : PySem.W.mroIn K C (.ref C) = some true
  top : (P.main.scope.names.lookup ("super" : Str)).isSome = false
section
variable {P : Program} {w : World} {K : PySem.W.Frag} {mg : Str → Option Value} {base : Heap} {C fI cda cc : Addr} {params : Arguments} {body : List Stmt} {scope : Scope} {A : Around} {outer : List Env} {s : Shared} {H : Hp} {E : XK} {v0 v1 v2 : V} {u0 u1 u2 : Value}
theorem sup_start {h0 : Heap} {tk : Nat} (S : SupS scope) (hc : ∃ (cl : Value) (cld : Option Addr) (csl : Array (Option Value)), K.lookup cc = some ⟨cl, cld, .cell (some (.ref C)), csl⟩) (hd : A.handled = none) (e0 : Env0 P w K mg base A outer s H) (r0 : RelV v0 u0) (r1 : RelV v1 u1) (r2 : RelV v2 u2)
    (hns : h0.Ns s.heap.objs.size fun x => ([(("self" : Str), u0), ("between", u1), ("apart", u2)] : List (Str × Value)).reverse.lookup x) (kp : ∀ b o, s.heap.get? b = some o → h0.get? b = some o) :
    Inv (supCx P w K mg base scope fI cda cc A outer s H E) [] [some v0, some v1, some v2, none] H { s with heap := h0, toks := tk } := by
  obtain ⟨cl, cld, csl, hcc⟩ := hc
  have ccB := e0.mod.kin cc _ hcc
  have ccS := e0.bs cc _ ccB
  have only : ∀ {x c}, (supEnv scope s fI cda cc).cells.lookup x = some c → x = "__class__" ∧ c = cc := by
    intro x c e
    have e' : List.lookup x [(("__class__" : Str), cc)] = some c := e
    by_cases hx : x = "__class__"
    · subst hx
      rw [List.lookup_cons_self] at e'
      exact ⟨rfl, (Option.some.inj e').symm⟩
    · have nx : (x == ("__class__" : Str)) = false := by simpa using hx
      simp [List.lookup, nx] at e'
  have noA : ∀ b : Addr, b ∉ (supCx P w K mg base scope fI cda cc A outer s H E).ex := fun b z => absurd (show b ∈ ([] : List Addr) from z) (by simp)
  refine ⟨⟨e0.mod, S.kind, rfl, rfl, Nat.le_refl _, fun y z c a b => (only a).1.trans (only b).1.symm, fun y hy => ?_, fun y c z _ => ?_, fun _ => hd, Around.frames_deeper e0.frames, .inr ⟨rfl, rfl⟩, fun b z => absurd z (noA b), e0.bs, e0.bsz, fun b _ _ => noA b, fun b z => absurd z (noA b), e0.funs, e0.frf⟩,
    rfl, e0.bare, Un.kept kp, ⟨_, hns, fun i y v a b z => ?_⟩, fun y c e => ?_, e0.hok.fresh (Nat.le_refl _), fun y c e => ?_, fun q hq => absurd (show q ∈ ([] : List (Addr × Obj)) ++ [] from hq) (by simp), e0.hok.kept kp, rfl⟩
  · have hy : scope.names.lookup y = some .cell ∨ scope.names.lookup y = some .free := hy
    rcases hy with hy | hy
    · exact absurd rfl (S.nocell _ (PySem.mem_of_lookup hy))
    · have ey : y = "__class__" := S.free _ (PySem.mem_of_lookup hy) rfl
      subst ey
      exact ⟨cc, List.lookup_cons_self⟩
  · have z : false = true := z
    cases z
  · obtain ⟨l0, l1, l2⟩ := S.loc
    match i, a, b with
    | 0, a, b =>
      cases a
      cases b
      exact ⟨u0, r0, .inl ⟨l0, rfl⟩⟩
    | 1, a, b =>
      cases a
      cases b
      exact ⟨u1, r1, .inl ⟨l1, rfl⟩⟩
    | 2, a, b =>
      cases a
      cases b
      exact ⟨u2, r2, .inl ⟨l2, rfl⟩⟩
    | 3, a, b => cases b
    | n + 4, a, b => simp at b
  · obtain ⟨_, rfl⟩ := only e
    exact ⟨_, _, kp _ _ ccS.1, rfl⟩
  · obtain ⟨_, rfl⟩ := only e
    exact ccS.2
end
end Own

set_option Elab.async false
set_option linter.all false
set_option maxRecDepth 100000
set_option maxHeartbeats 4000000
/-! The run of an own __init__ that begins with super().__init__(text). -/
namespace Own
open PySem PySem.Spec PyProof.Rows L2
section
variable {P : Program} {w : World} {K : PySem.W.Frag} {mg : Str → Option Value} {base : Heap} {C fI cda cc : Addr} {params : Arguments} {body rest : List Stmt} {scope : Scope} {fd : FuncData} {A : Around} {outer : List Env} {s : Shared} {H : Hp} {E : XK} {v1 v2 : V} {u1 u2 : Value} {args : Args} {Q : VK} {a : Addr} {k : Nat}
theorem sup_run {p0 p1 pa pc p3 p4 : Pos} {j : Nat} {m : Str} {pl : Sem Bool} (S : SupS scope) (T : SupC K mg P C fI cda cc params body scope fd)
    (eb : body = Stmt.Expr (.Call (.Attribute (.Call (.Name "super" p0) [] [] p1) "__init__" pa) [.Constant (.str m) j pc] [] p3) p4 :: rest)
    (he : ∀ env : Env, eval (.Call (.Attribute (.Call (.Name "super" p0) [] [] p1) "__init__" pa) [.Constant (.str m) j pc] [] p3) env = (do
      let ov ← attributeBase (.Call (.Name "super" p0) [] [] p1) "__init__" env (eval (.Call (.Name "super" p0) [] [] p1) env)
      standAt pa.atName
      let (f, first) ← holding [ov] (getMethod ov "__init__" pl)
      callWith p3 f first (backTo p3 (starEach [.Constant (.str m) j pc] env)) []))
    (hr : Room (k + 1) A) (e0 : Env0 P w K mg base A outer s H) (hb : BindsTo s fd args (([("self" : Str), "between", "apart"]).zip [.ref a, u1, u2])) (r1 : RelV v1 u1) (r2 : RelV v2 u2) (ea : H a = some (exo a C none))
    (hrest : ∃ t, PSs (supCx P w K mg base scope fI cda cc A outer s H E) rest t ∧ t { nx := fun _ H' => Q .non H', rt := Q } [some (.ref a), some v1, some v2, none] H) :
    codeAny (model P w) A (.call (.ref fI) args) (CR (L2.CX P w) outer P w H s Q E) s := by
  obtain ⟨oc, dV, kV, doc, pm, ct, od, an, osl, ef, lk⟩ := T.fn
  obtain ⟨ccl, cdd, vs, ccs, file, tf, lc, ev2, hfile⟩ := T.file
  obtain ⟨cl, cld, csl, lcc⟩ := T.cell
  obtain ⟨nm, q, N, bs, bm, sn, sub, ab, col, dd, k0, k1, k2, k3, k5, hC, hbm⟩ := T.oex.cls
  obtain ⟨ar, har, earg⟩ := T.arg
  have stood : ∀ b o, base.get? b = some o → s.heap.get? b = some o := fun b o e => (e0.bs b o e).1
  have KX := e0.mod.kin.keeps stood
  subst ef
  refine ks_codeAny_call_defAt (fd := PySem.W.ksFn "__init__" "Parted.__init__" params body scope dV kV doc pm an (.ref cda) ct cc) (body := body) (binds := [("self", .ref a), ("between", u1), ("apart", u2)]) hr.depth (KX _ _ lk) rfl (e0.mod.nolimit.keeps stood) (PySem.W.codeRec_of KX T.code) rfl hb S.nocell
    (fun x hx => ?_) (fun h0 hns kp => ?_) S.co S.gen S.kind
  · have hx : x ∈ [(("self" : Str), Value.ref a), ("between", u1), ("apart", u2)] := hx
    simp only [List.mem_cons, List.mem_nil_iff, or_false] at hx
    rcases hx with rfl | rfl | rfl
    · exact S.loc.1
    · exact S.loc.2.1
    · exact S.loc.2.2
  have I : Inv (supCx P w K mg base scope fI cda cc A outer s H E) [] [some (.ref a), some v1, some v2, none] H { s with heap := h0, toks := s.toks + 3 } := sup_start S T.cell hr.hd e0 (v0 := .ref a) rfl r1 r2 hns kp
  obtain ⟨t, ht, hq⟩ := hrest
  obtain ⟨t1, ho⟩ := exo_at I.hok ea
  rcases s with ⟨hh, g, d, tk, os⟩
  obtain ⟨mb, hb1, hb2⟩ := I.mod.blt
  have X0 := I.kIn
  have hD := X0 _ _ hC
  have Ia : PySem.W.InstAt h0 a { cls := .ref C, dict := none, data := .fields #[.ref t1, .none, .none, .none, .bool false, .none] } C none := ⟨ho, rfl, rfl, trivial⟩
  have hcl : PySem.W.clsIn K C = some { name := nm, bases := bs, mro := .ref C :: bm, ns := N, qualname := q, hasDict := true, slotNames := sn, subclasses := sub, abstract := ab, collection := col, hasDel := false } := by unfold PySem.W.clsIn; rw [hC] <;> rfl
  have alo : PySem.W.alongIn K "__init__" (((Value.ref C :: bm).dropWhile (· != .ref C)).drop 1) = some (some (.builtin "ValueError.__init__")) := by
    have z := T.meth
    unfold PySem.W.ks_superIn at z
    rw [hcl] at z
    exact z
  have hke : (supEnv scope ⟨hh, g, d, tk, os⟩ fI cda cc).scope.kind = .function := S.kind
  subst eb
  refine ks_wpAt_execs_cons (ks_wpAt_Expr_any (ks_wpAt_MethodCall (pl := pl) ?_ (he _)) (by show (scope.kind == .module && _) = false; rw [S.kind]; rfl))
  refine ks_wpAt_super_base (env := supEnv scope ⟨hh, g, d, tk, os⟩ fI cda cc) S.sup S.cls (by decide) rfl (X0 _ _ lk) rfl har rfl (X0 _ _ lc) rfl ev2 hfile T.top ?_
  refine PySem.W.ks_loadName_global hke S.sup (Calls.loadGlobal_builtin (env := supEnv scope ⟨hh, g, d, tk, os⟩ fI cda cc) (I.mod.glob.keeps I.bk) T.sup (hb1.keeps I.bk) ((hb2 _ (by decide +kernel)).trans PyProof.Rows.Boot.«super») ⟨rfl, ?_⟩)
  refine wpAny_loadName_free hke S.cls rfl ⟨_, X0 _ _ lcc, rfl⟩ ?_
  rw [earg]
  refine wpAny_loadName_local hke S.loc.1 hns rfl ?_
  refine ks_wpAny_isType_cls hD rfl ⟨rfl, ?_⟩
  refine ks_wpAny_call_super hD rfl ho rfl (fun c e => by cases e) (PySem.W.looks_mroIn X0 T.own) (fun h1 e1 kp1 => ?_)
  have X1 : K.In h1 := X0.keeps kp1
  have I1 : PySem.W.InstAt h1 a { cls := .ref C, dict := none, data := .fields #[.ref t1, .none, .none, .none, .bool false, .none] } C none := ⟨kp1 _ _ ho, rfl, rfl, trivial⟩
  refine PySem.W.kxs_getMethod PySem.W.kxs_ValueError e1 (PySem.W.looks_opaque X1 T.opq) (l₀ := .ref C :: bm) (fun A Q E s k q => wpAny_bind ((PySem.W.looks_clsIn X1 hcl) A _ E s k (wpAny_pure q))) rfl X1 alo (I1.type.andThen (PySem.W.looks_subIn X1 T.ve)) (PySem.W.ks_ne X1 I1 hcl) (by decide) ?_
  have hu : (h1.push (PySem.W.kxs_mw "ValueError.__init__" a)).get? h1.objs.size = some (PySem.W.kxs_mw "ValueError.__init__" a) := Heap.get?_push_at rfl rfl
  have kp2 : ∀ b o, h1.get? b = some o → (h1.push (PySem.W.kxs_mw "ValueError.__init__" a)).get? b = some o := fun b o e => Heap.get?_push_of_some _ e
  refine PySem.W.kxs_callWith (i := "ValueError.__init__") (x := a) (by rfl) ?_
  refine Calls.evalArgs_plain (Calls.spliced_cons (Calls.Constant_str (k := j) (pos := pc) (Calls.spliced_nil ⟨hu, ?_⟩)))
  refine call_bound_ve (VeAt.keeps ⟨_, _, _, _, _, _, _, _, _, _, _, _, _, _, _, _, hD⟩ fun b o q => kp2 b o (kp1 b o q)) (kp2 _ _ (kp1 _ _ ho)) hu (by show 1 ≤ sizeLine; rw [sizeLine_eq]; omega) (fun h3 t3 kp3 e3 => ?_)
  have J := I.write (t' := tk + 3 + 1 + 1) (x := a) (e := a) (h' := h3) (o := exo a C none) (by rw [ea]; exact True.intro) (.inl rfl) (fun b o hb e => kp3 b o hb (kp2 _ _ (kp1 _ _ e))) ⟨_, e3⟩ (exo_ok e3)
  rw [show upd H a (exo a C none) = H from funext fun b => (Decidable.em (b = a)).elim (fun z => by rw [z, upd_same, ea]) upd_ne] at J
  refine wpAt_of_wpAny (wpAny_mono (ht.run [] _ _ _ _ J hq) (fun fl s' told => ?_) fun _ _ z => z)
  match fl, told with
  | .next, ⟨_, H', J', q⟩ => exact ⟨.non, H', J'.os, J'.bare, J'.base, J'.hok, rfl, q⟩
  | .ret _, ⟨v, _, H', J', rel, q⟩ => exact ⟨v, H', J'.os, J'.bare, J'.base, J'.hok, rel, q⟩
  | .brk, ⟨_, _, _, z⟩ => exact z.elim
  | .cont, ⟨_, _, _, z⟩ => exact z.elim
end
end Own

set_option Elab.async false
set_option linter.all false
set_option maxRecDepth 100000
set_option maxHeartbeats 4000000
/-! An own error with its dict, kept as a value: made, and its attributes read. -/
namespace Own
open PySem PySem.Spec PyProof.Rows L2
/-- at p a list of references to these lists -/
abbrev Lsts (H : Hp) : List V → List (List V) → Prop := Paired fun v xs => ∃ t, v = V.ref t ∧ H t = some (.lst xs)
theorem lsts_ext {H H' : Hp} (k : ∀ t xs, H t = some (.lst xs) → H' t = some (.lst xs)) : ∀ {vs : List V} {xss : List (List V)}, Lsts H vs xss → Lsts H' vs xss
  | _, _, .nil => .nil
  | _, _, .cons ⟨t, e, h⟩ r => .cons ⟨t, e, k t _ h⟩ (lsts_ext k r)
theorem lsts_snoc {H : Hp} {t : Addr} {xs : List V} (h : H t = some (.lst xs)) : ∀ {vs : List V} {xss : List (List V)}, Lsts H vs xss → Lsts H (vs ++ [V.ref t]) (xss ++ [xs])
  | _, _, .nil => .cons ⟨t, rfl, h⟩ .nil
  | _, _, .cons r q => .cons r (lsts_snoc h q)
theorem lsts_get {H : Hp} : ∀ {vs : List V} {xss : List (List V)} {i : Nat}, Lsts H vs xss → i < vs.length → ∃ t xs, vs[i]? = some (V.ref t) ∧ xss[i]? = some xs ∧ H t = some (.lst xs)
  | _, _, _, .nil, e => by simp at e
  | _, _, 0, .cons ⟨t, e, h⟩ _, q => ⟨t, _, by rw [e]; rfl, rfl, h⟩
  | _, _, i + 1, .cons _ r, q => by
    obtain ⟨t, xs, h1, h2, h3⟩ := lsts_get (i := i) r (by simpa using q)
    exact ⟨t, xs, by simpa using h1, by simpa using h2, h3⟩
section
variable {X : Cx} {e : Expr} {es : List Expr} {te : TE} {ta : TA} {n x : Str} {p pos : Pos} {C fI : Addr} {k : Nat} {fd : FuncData} {ps : List Str} {sp : Sp} {CX : CXT}
/-- such an error's attribute -/
theorem pe_exf (he : PE X e te) (hb : attributeBase e n X.env (eval e X.env) = eval e X.env := by rfl) :
    PE X (.Attribute e n pos) (fun σ H Q => te σ H fun x H1 => ∃ (a C d : Addr) (fs : List (Str × V)) (v : V), x = .ref a ∧ XfC X.K C ∧ PySem.W.findIn X.K (.ref C) n = some none ∧ H1 a = some (exo a C (some d)) ∧ H1 d = some (exd d fs) ∧ fs.lookup n = some v ∧ Q v H1) := by
  refine ⟨fun pins s σ H Q I wish => attr_of hb (thn (he.run pins s σ H _ I wish) ?_)⟩
  rintro _ s1 ⟨_, H1, I1, here, a, C, d, fs, v, rfl, T, noIn, ea, ed, found, q⟩
  cases here
  obtain ⟨_, at_⟩ := exo_at I1.hok ea
  obtain ⟨mA, ns, rel⟩ := exd_at I1.hok ed
  obtain ⟨od, dict, look⟩ := lookIn_ns ns
  have of := rel n
  rw [found] at of
  obtain ⟨u, there, ru⟩ := RelO.some_of of
  have inst : PySem.W.InstAt s1.heap a _ C (some od) := ⟨at_, rfl, rfl, dict⟩
  have own := PySem.W.findObj_own T.hdC noIn rfl ((look n).trans (congrArg some there))
  exact HandSPX.exc_get I1.kIn inst T.ga T.gg T.exC own (handed_of ru) ⟨v, H1, I1.tok _, ru, q⟩
/-! ### C(e, ..) as a value -/
/-- the heap in which C's __init__ begins: the arguments' tuple, and the exception behind it -/
def excHeap (h : Heap) (C : Addr) (us : List Value) : Heap := (h.push (PySem.W.kdv_tup us)).push (PySem.HandSPX.excO C h.objs.size)
theorem exc_made {pins : List (Addr × Obj)} {σ : L2.St} {H : Hp} {s : Shared} (C : Addr) (us : List Value) (I : Inv X pins σ H s) : H (s.heap.objs.size + 1) = none ∧ Inv X pins σ (upd H (s.heap.objs.size + 1) (exo (s.heap.objs.size + 1) C none)) { s with heap := excHeap s.heap C us } := by
  have behind : s.heap.objs.size ≤ s.heap.objs.size + 1 := by omega
  have there : (excHeap s.heap C us).get? (s.heap.objs.size + 1) = some (PySem.HandSPX.excO C s.heap.objs.size) := by
    unfold excHeap
    heap_get
  exact ⟨I.hok.fresh behind, I.laid (t' := s.toks) (h' := excHeap s.heap C us) (fun b o q => Heap.get?_push_of_some _ (Heap.get?_push_of_some _ q)) behind (exo_ok there)⟩
/-- C's own __init__ keeping sp -/
theorem pe_mkO (T : OexC X.K C) (iC : PySem.W.findIn X.K (.ref C) "__init__" = some (some (.ref fI))) (tI : PySem.W.typeIn X.K (.ref fI) = some (.type "function"))
    (F1 : FnOk X.prog X.w X.K X.mg X.base CX k fI fd ps sp) (hr : Room (k + 1) X.A) (hb : Binds X.K fd ps []) (hx : Passes CX X (fun _ _ _ => False)) (hg : Gl X x) (hm : X.mg x = some (.ref C)) (ha : PA X (e :: es) ta)
    (hdb : (x == ("__debug__" : Str)) = false := by decide) (he : starEach (e :: es) X.env = (false, eval e X.env) :: starEach es X.env := by rfl) (hpl : (backTo pos (starEach es X.env)).any (·.1) = false := by rfl) :
    PE X (.Call (.Name x p) (e :: es) [] pos) (fun σ H Q => ta σ H fun vs H1 => vs.length ≤ 1000 ∧ ∀ a, H1 a = none → sp (.ref a :: vs) (upd H1 a (exo a C none)) (fun v H2 => v = .non ∧ Q (.ref a) H2) (fun _ _ _ => False)) := by
  refine ⟨fun pins s σ H Q I wish => wpAny_Call_Name_kw (ld_glob I hg hm (PySem.W.callWith_K (h₀ := X.base) I.ok.mod.kin T.kC (thn (ha.run pos pins s σ H _ I wish) ?_) he hpl) hdb)⟩
  rintro us s1 ⟨vs, H1, I1, rel, few, go⟩
  refine ⟨I1.kIn, ?_⟩
  obtain ⟨new, I2⟩ := exc_made C us I1
  have want := go _ new
  have all : Vals (V.ref (s1.heap.objs.size + 1) :: vs) (Value.ref (s1.heap.objs.size + 1) :: us) := .cons rfl rel
  have binds := hb _ (Value.ref (s1.heap.objs.size + 1) :: us) I2.kIn (by rw [List.append_nil, ← F1.len _ _ _ _ want]; exact all.length.symm)
  rw [List.append_nil] at binds
  have small : us.length ≤ sizeLine := by
    have z := rel.length
    rw [sizeLine_eq]
    omega
  have init := F1.run _ X.stack _ _ ⟨Value.ref (s1.heap.objs.size + 1) :: us, []⟩ _ _ _ (fun _ _ _ => False) (hr.make C us []) (I2.env0.make C us []) binds all want
  obtain ⟨_, _, _, _, _, _, _, _, _, _, _, _, _, _, _, isC, base⟩ := T.cls
  refine wpAny_call (PySem.HandSPX.call_own F.excBase_ValueError (fun Y => PySem.HandSPX.refsVE_contains Y _ base) (I1.kIn _ _ isC) (PySem.W.looks_findIn I1.kIn iC) (fun self => PySem.W.bind_fn I1.kIn self tI) small (codeAny_mono init fun r s' out => ?_))
  match r, out with
  | .error _, out => exact hx pins σ _ _ _ s' I2 out
  | .ok (.ret _), out =>
    obtain ⟨_, H2, J, rv, none_, q⟩ := I2.after out
    cases none_
    exact ⟨rv, .ref _, H2, J, rfl, q⟩
  | .ok .next, out => exact out.elim
  | .ok .brk, out => exact out.elim
  | .ok .cont, out => exact out.elim
end
/-- new lists of these, none at r -/
abbrev NewL (H H' : Hp) (r : Addr) : List V → List (List V) → Prop := Paired fun v ys => ∃ t, v = V.ref t ∧ t ≠ r ∧ H t = none ∧ H' t = some (.lst ys)
theorem newL_ext {H H1 H2 : Hp} {r : Addr} (k : ∀ t ys, t ≠ r → H t = none → H1 t = some (.lst ys) → H2 t = some (.lst ys)) : ∀ {vs : List V} {yss : List (List V)}, NewL H H1 r vs yss → NewL H H2 r vs yss
  | _, _, .nil => .nil
  | _, _, .cons ⟨t, e, n, z, h⟩ q => .cons ⟨t, e, n, z, k t _ n z h⟩ (newL_ext k q)
theorem newL_snoc {H H' : Hp} {r t : Addr} {ys : List V} (n : t ≠ r) (z : H t = none) (h : H' t = some (.lst ys)) : ∀ {vs : List V} {yss : List (List V)}, NewL H H' r vs yss → NewL H H' r (vs ++ [V.ref t]) (yss ++ [ys])
  | _, _, .nil => .cons ⟨t, rfl, n, z, h⟩ .nil
  | _, _, .cons q w => .cons q (newL_snoc n z h w)
theorem newL_get {H H' : Hp} {r : Addr} : ∀ {vs : List V} {yss : List (List V)} {i : Nat}, NewL H H' r vs yss → i < vs.length → ∃ t ys, vs[i]? = some (V.ref t) ∧ yss[i]? = some ys ∧ t ≠ r ∧ H t = none ∧ H' t = some (.lst ys)
  | _, _, _, .nil, e => by simp at e
  | _, _, 0, .cons ⟨t, e, n, z, h⟩ _, _ => ⟨t, _, by rw [e]; rfl, rfl, n, z, h⟩
  | _, _, i + 1, .cons _ q, l => by
    obtain ⟨t, ys, h1, h2, h3⟩ := newL_get (i := i) q (by simpa using l)
    exact ⟨t, ys, by simpa using h1, by simpa using h2, h3⟩
theorem newL_lsts {H H' : Hp} {r : Addr} : ∀ {vs : List V} {yss : List (List V)}, NewL H H' r vs yss → Lsts H' vs yss
  | _, _, .nil => .nil
  | _, _, .cons ⟨t, e, _, _, h⟩ q => .cons ⟨t, e, h⟩ (newL_lsts q)
end Own

set_option Elab.async false
set_option linter.all false
set_option maxRecDepth 100000
set_option maxHeartbeats 4000000
/-! The head's look: the library's facts, and an error's own __init__ with its class's cell. -/
namespace Own
open PySem PySem.Spec PyProof.Rows L2
/-! ### Bools of facts -/
/-- an error class with its own __init__ -/
def oexB (K : PySem.W.Frag) (C : Addr) : Bool := (match K.lookup C with
  | some ⟨.type t, _, .cls cd, sl⟩ => decide (t = "type") && ((match cd.mro, sl.toList with
    | .ref D :: bm, [_, _, _, _, some (.builtin n), _] => decide (D = C) && (decide (n = "ValueError.__new__") && PySem.HandSPX.refsVE bm)
    | _, _ => false) && (cd.hasDict && !cd.hasDel))
  | _ => false) && (He.eqO (PySem.W.findIn K (.ref C) "__setattr__") (some (some (.builtin "object.__setattr__"))) && (decide (PySem.W.subIn K (.ref C) (.type "BaseException") = some true) && (decide (PySem.W.typeIn K (.ref C) = some (.type "type")) && PySem.W.keepIn K (.ref C))))
theorem oexB_ok {K : PySem.W.Frag} {C : Addr} (h : oexB K C = true) : OexC K C := by
  obtain ⟨h1, h⟩ := He.ba h
  obtain ⟨h2, h⟩ := He.ba h
  obtain ⟨h3, h⟩ := He.ba h
  obtain ⟨h4, h5⟩ := He.ba h
  refine ⟨?_, He.eqO_ok h2, of_decide_eq_true h3, of_decide_eq_true h4, h5⟩
  split at h1
  · rename_i t dd cd sl ho
    obtain ⟨d1, g1⟩ := He.ba h1
    obtain ⟨h6, g2⟩ := He.ba g1
    obtain ⟨h8, h9⟩ := He.ba g2
    have e1 := of_decide_eq_true d1
    clear d1 g1 g2 h1
    subst e1
    obtain ⟨nm, bs, mro, ns, qn, hd, sn, sub, ab, col, del⟩ := cd
    split at h6
    · rename_i D bm k0 k1 k2 k3 n k5 hm hs
      obtain ⟨d2, h10⟩ := He.ba h6
      obtain ⟨d3, h11⟩ := He.ba h10
      have e2 := of_decide_eq_true d2
      have e3 := of_decide_eq_true d3
      clear d2 d3 h10 h6
      subst e2 e3
      dsimp only at hm h8 h9
      subst hm h8
      have e4 : del = false := by
        cases del with
        | false => rfl
        | true => cases h9
      subst e4
      have hsl : sl = #[k0, k1, k2, k3, some (.builtin "ValueError.__new__"), k5] := by
        obtain ⟨l⟩ := sl
        simp only at hs
        rw [hs]
      subst hsl
      exact ⟨nm, qn, ns, bs, bm, sn, sub, ab, col, dd, k0, k1, k2, k3, k5, ho, h11⟩
    · cases h6
  · cases h1
/-- an error class whose instances are asked for their kind -/
def excCB (K : PySem.W.Frag) (D : Addr) : Bool := He.eqO (PySem.W.findIn K (.ref D) "__getattribute__") (some (some (.builtin "BaseException.__getattribute__"))) && (He.eqO (PySem.W.findIn K (.ref D) "__getattr__") (some none) && (decide (PySem.W.subIn K (.ref D) (.type "BaseException") = some true) &&
  (PySem.W.hasDictIn K D && (He.eqO (PySem.W.findIn K (.ref D) "__class__") (some (some (.builtin "object.__class__"))) && (He.eqO (PySem.W.specialIn K (.builtin "object.__class__") "__get__") (some (some (.builtin "getset_descriptor.__get__"))) &&
  (decide (PySem.W.takesIn K (.builtin "object.__class__") = some true) && decide (PySem.W.mroIn K D (.type "object") = some true)))))))
theorem excCB_ok {K : PySem.W.Frag} {D : Addr} (h : excCB K D = true) : ExcC K D := by
  obtain ⟨h1, h⟩ := He.ba h
  obtain ⟨h2, h⟩ := He.ba h
  obtain ⟨h3, h⟩ := He.ba h
  obtain ⟨h4, h⟩ := He.ba h
  obtain ⟨h5, h⟩ := He.ba h
  obtain ⟨h6, h⟩ := He.ba h
  obtain ⟨h7, h8⟩ := He.ba h
  exact ⟨He.eqO_ok h1, He.eqO_ok h2, of_decide_eq_true h3, h4, He.eqO_ok h5, He.eqO_ok h6, of_decide_eq_true h7, of_decide_eq_true h8⟩
/-! ### a method that captures its class -/
abbrev SupV : Type := Option (Str × Str × Arguments × FuncBody × Scope × Addr × List Str × Value × Addr)
def supObs (K : PySem.W.Frag) (f : Addr) : SupV := match K.lookup f with
  | some ⟨_, _, .func fd, _⟩ => some (fd.name, fd.qualname, fd.params, fd.body, fd.scope, fd.globals, fd.closure.map (·.1), fd.defaults, fd.builtins)
  | _ => none
def supVal (st : Stmt) : SupV := some ("__init__", "Parted.__init__", defArgs st, .stmts (defBody st), defScope st, mainGlobals, ["__class__"], .none, builtinsNs)
def fileB (o : Option Value) (file : Str) : Bool := match o with
  | some (.str g _) => (file == g)
  | _ => false
theorem fileB_ok {o : Option Value} {file : Str} (h : fileB o file = true) : ∃ g t, o = some (.str g t) ∧ (file == g) = true := by
  cases o with
  | none => cases h
  | some v =>
    cases v with
    | str g t => exact ⟨g, t, rfl, h⟩
    | _ => cases h
def supB (K : PySem.W.Frag) (f C : Addr) (file : Str) : Bool := match K.lookup f with
  | some ⟨_, _, .func fd, _⟩ => (match fd.code with
    | .ref cda => PySem.W.codeIn K (.ref cda) "Parted.__init__" && (match K.lookup cda with
      | some ⟨_, _, .fields vs, _⟩ => fileB vs[2]? file
      | _ => false)
    | _ => false) && (match fd.closure with
    | (_, cc) :: _ => (match K.lookup cc with
      | some ⟨_, _, .cell (some (.ref D)), _⟩ => decide (D = C)
      | _ => false)
    | _ => false)
  | _ => false
theorem sup_of {K : PySem.W.Frag} {mg : Str → Option Value} {P : Program} {f C : Addr} {st : Stmt} (e : supObs K f = supVal st) (b : supB K f C P.main.file = true) (oex : OexC K C) (arg : ∃ ar : Arg, ((defArgs st).posonlyargs ++ (defArgs st).args).head? = some ar ∧ ar.arg = "self")
    (sup : mg "super" = none) (opq : PySem.W.nsIn K cStatics "thirdparty.any" = some none) (meth : PySem.W.ks_superIn K C C "__init__" = some (some (.builtin "ValueError.__init__"))) (ve : PySem.W.subIn K (.ref C) (.type "ValueError") = some true) (own : PySem.W.mroIn K C (.ref C) = some true)
    (top : (P.main.scope.names.lookup ("super" : Str)).isSome = false) :
    ∃ (cda cc : Addr) (kV doc pm ct : Value) (an : Option Addr), SupC K mg P C f cda cc (defArgs st) (defBody st) (defScope st) (PySem.W.ksFn "__init__" "Parted.__init__" (defArgs st) (defBody st) (defScope st) .none kV doc pm an (.ref cda) ct cc) := by
  unfold supObs at e
  unfold supB at b
  cases q : K.lookup f with
  | none =>
    rw [q] at b
    cases b
  | some o =>
    obtain ⟨oc, od, dt, osl⟩ := o
    rw [q] at b e
    cases dt with
    | func fd =>
      obtain ⟨n1, n2, n3, n4, n5, n6, n7, n8, n9, n10, n11, n12, n13, n14, n15⟩ := fd
      have e2 : (some (n1, n2, n3, n4, n5, n6, n7.map (·.1), n8, n15) : SupV) = some (("__init__" : Str), ("Parted.__init__" : Str), defArgs st, FuncBody.stmts (defBody st), defScope st, mainGlobals, ([("__class__" : Str)] : List Str), Value.none, builtinsNs) := e
      simp only [Option.some.injEq, Prod.mk.injEq] at e2
      obtain ⟨h1, h2, h3, h4, h5, h6, h7, h8, h9⟩ := e2
      subst h1 h2 h3 h4 h5 h6 h8 h9
      obtain ⟨cc, rfl⟩ : ∃ cc, n7 = [(("__class__" : Str), cc)] := by
        cases n7 with
        | nil => exact absurd (congrArg List.length h7) (by simp)
        | cons p r =>
          cases r with
          | nil =>
            obtain ⟨x, c⟩ := p
            have z : [x] = [("__class__" : Str)] := h7
            have z2 : x = "__class__" := (List.cons.inj z).1
            exact ⟨c, by rw [z2]⟩
          | cons p2 r2 => exact absurd (congrArg List.length h7) (by simp)
      obtain ⟨b1, b2⟩ := He.ba b
      cases n13 with
      | ref cda =>
        obtain ⟨b3, b4⟩ := He.ba b1
        refine ⟨cda, cc, n9, n10, n11, n14, n12, oex, ⟨oc, .none, n9, n10, n11, n14, od, n12, osl, rfl, q⟩, arg, b3, ?_, ?_, sup, opq, meth, ve, own, top⟩
        · cases q2 : K.lookup cda with
          | none =>
            rw [q2] at b4
            cases b4
          | some o2 =>
            obtain ⟨oc2, od2, dt2, osl2⟩ := o2
            rw [q2] at b4
            cases dt2 with
            | fields vs =>
              obtain ⟨g, t, q3, b5⟩ := fileB_ok b4
              exact ⟨oc2, od2, vs, osl2, g, t, rfl, q3, b5⟩
            | _ => cases b4
        · cases q2 : K.lookup cc with
          | none =>
            have b5 : (match K.lookup cc with | some ⟨_, _, .cell (some (.ref D)), _⟩ => decide (D = C) | _ => false) = true := b2
            rw [q2] at b5
            cases b5
          | some o2 =>
            have b5 : (match K.lookup cc with | some ⟨_, _, .cell (some (.ref D)), _⟩ => decide (D = C) | _ => false) = true := b2
            obtain ⟨oc2, od2, dt2, osl2⟩ := o2
            rw [q2] at b5
            cases dt2 with
            | cell u =>
              cases u with
              | none => cases b5
              | some u =>
                cases u with
                | ref D =>
                  have z := of_decide_eq_true b5
                  exact ⟨oc2, od2, osl2, by rw [z]⟩
                | _ => cases b5
            | _ => cases b5
      | _ => cases b1
    | _ => cases b
/-! ### the look -/
def asY (g : Addr → Option Obj) (n : Nat) : List Addr := cStatics :: He.asD g n
abbrev AlY : Type := He.AlX × List SupV
def obsY (n : Nat) (fa : List He.Fa) (fn : List He.DefD) (tf : List He.Defn) (ex : PySem.W.Frag → Bool) (ss : List ((PySem.W.Frag → Addr) × Stmt)) (g : Addr → Option Obj) : AlY :=
  ((He.obsT fa fn [] (He.frT g (asY g n)), ex (He.frT g (asY g n)) && He.tabsB g tf (He.frT g (asY g n))), ss.map fun d => supObs (He.frT g (asY g n)) (d.1 (He.frT g (asY g n))))
def valY (fn : List He.DefD) (ss : List ((PySem.W.Frag → Addr) × Stmt)) (w : World) : AlY := (He.valX fn [] w, ss.map fun d => supVal d.2)
structure SaysY (fa : List He.Fa) (fn : List He.DefD) (tf : List He.Defn) (ex : PySem.W.Frag → Bool) (ss : List ((PySem.W.Frag → Addr) × Stmt)) (w : World) (h : Heap) (K : PySem.W.Frag) : Prop where
  x : He.SaysX fa fn [] tf ex w h K
  s : ss.map (fun d => supObs K (d.1 K)) = ss.map fun d => supVal d.2
theorem saysY_of {n : Nat} {fa : List He.Fa} {fn : List He.DefD} {tf : List He.Defn} {ex : PySem.W.Frag → Bool} {ss : List ((PySem.W.Frag → Addr) × Stmt)} {w : World} {h : Heap} (e : obsY n fa fn tf ex ss h.get? = valY fn ss w) : SaysY fa fn tf ex ss w h (He.frT h.get? (asY h.get? n)) := by
  obtain ⟨e12, e3⟩ := Prod.mk.inj e
  obtain ⟨e1, e2⟩ := Prod.mk.inj e12
  obtain ⟨m, tb⟩ := He.ba e2
  have look : ∀ p ∈ tf, PySem.W.codeHdIn (He.frT h.get? (asY h.get? n)) (He.cT (He.frT h.get? (asY h.get? n)) p).1 (He.cT (He.frT h.get? (asY h.get? n)) p).2 = true ∧ ∃ o, h.get? (He.cT (He.frT h.get? (asY h.get? n)) p).2 = some o ∧ He.emptyTab o = true := fun p hp => by
    obtain ⟨z1, z2⟩ := He.ba (List.all_eq_true.mp tb p hp)
    refine ⟨z1, ?_⟩
    revert z2
    cases h.get? (He.cT (He.frT h.get? (asY h.get? n)) p).2 with
    | none => exact fun z => by cases z
    | some o => exact fun z => ⟨o, rfl, z⟩
  refine ⟨⟨e1, m, fun p hp => (look p hp).1, fun p hp => ?_, fun p hp => ?_⟩, e3⟩
  · obtain ⟨_, o, q, z⟩ := look p hp
    exact He.frT_none q z
  · obtain ⟨_, o, q, z⟩ := look p hp
    rw [q, He.emptyTab_eq z]
def hookY (n : Nat) (fa : List He.Fa) (fn : List He.DefD) (tf : List He.Defn) (ex : PySem.W.Frag → Bool) (ss : List ((PySem.W.Frag → Addr) × Stmt)) : PySem.W.Hook where
  α := AlY
  obs := fun s => obsY n fa fn tf ex ss s.heap.get?
  val := fun w => valY fn ss w
  says := fun w h => ∃ K : PySem.W.Frag, K.In h ∧ SaysY fa fn tf ex ss w h K
  of := fun _ _ e => ⟨_, He.frT_in, saysY_of e⟩
  keeps := fun _ _ _ ⟨K, hK, c⟩ k => ⟨K, PySem.W.Frag.In.keeps hK k, ⟨⟨c.x.t, c.x.more, c.x.hd, c.x.out, fun p hp => k _ _ (c.x.empty p hp)⟩, c.s⟩⟩
theorem obsY_eq {n : Nat} {fa : List He.Fa} {fn : List He.DefD} {tf : List He.Defn} {ex : PySem.W.Frag → Bool} {ss : List ((PySem.W.Frag → Addr) × Stmt)} {g : Addr → Option Obj} {s : Shared} (h : ∀ a, g a = s.heap.get? a) : obsY n fa fn tf ex ss g = (hookY n fa fn tf ex ss).obs s := by
  have e : g = s.heap.get? := funext h
  rw [e] <;> rfl
theorem sup_binds {K : PySem.W.Frag} {name qual : Str} {params : Arguments} {body : List Stmt} {scope : Scope} {dV kV doc pm cdv ct : Value} {an : Option Addr} {cc : Addr} {ps : List Str}
    (h : ∀ us : List Value, us.length = ps.length → bindArgs (PySem.W.ksFn name qual params body scope dV kV doc pm an cdv ct cc) ⟨us, []⟩ = pure (ps.zip us)) : Binds K (PySem.W.ksFn name qual params body scope dV kV doc pm an cdv ct cc) ps [] := fun s us _ hl => by
  rw [List.append_nil] at hl ⊢
  exact .of_eq (h us hl)
end Own

set_option Elab.async false
set_option linter.all false
set_option maxRecDepth 100000
set_option maxHeartbeats 4000000
/-! Places joined by streets: ways, classes, their least places. -/
namespace Own
abbrev Join := List (Nat × Nat)
inductive Way (ps : Join) : Nat → Nat → Prop
  | stay (a : Nat) : Way ps a a
  | fwd {a b c : Nat} : Way ps a b → (b, c) ∈ ps → Way ps a c
  | bwd {a b c : Nat} : Way ps a b → (c, b) ∈ ps → Way ps a c
section
variable {ps qs : Join} {m a b c x y : Nat}
theorem Way.trans (h : Way ps a b) (k : Way ps b c) : Way ps a c := by
  induction k with
  | stay => exact h
  | fwd _ e ih => exact .fwd ih e
  | bwd _ e ih => exact .bwd ih e
theorem Way.symm (h : Way ps a b) : Way ps b a := by
  induction h with
  | stay => exact .stay _
  | fwd _ e ih => exact (Way.bwd (.stay _) e).trans ih
  | bwd _ e ih => exact (Way.fwd (.stay _) e).trans ih
theorem Way.mono (s : ∀ q ∈ ps, q ∈ qs) (h : Way ps a b) : Way qs a b := by
  induction h with
  | stay => exact .stay _
  | fwd _ e ih => exact .fwd ih (s _ e)
  | bwd _ e ih => exact .bwd ih (s _ e)
theorem Way.lt (s : ∀ q ∈ ps, q.1 < m ∧ q.2 < m) (ha : a < m) (h : Way ps a b) : b < m := by
  induction h with
  | stay => exact ha
  | fwd _ e ih => exact (s _ e).2
  | bwd _ e ih => exact (s _ e).1
/-- what holds the begin and is closed holds all that is come to -/
theorem Way.closed {S : Nat → Prop} (h : Way ps a b) (ha : S a) (cl : ∀ q ∈ ps, (S q.1 ↔ S q.2)) : S b := by
  induction h with
  | stay => exact ha
  | fwd _ e ih => exact (cl _ e).mp ih
  | bwd _ e ih => exact (cl _ e).mpr ih
/-- a street more -/
theorem way_snoc : Way (ps ++ [(a, b)]) x y ↔ Way ps x y ∨ (Way ps x a ∧ Way ps b y) ∨ (Way ps x b ∧ Way ps a y) := by
  have up : ∀ {u v}, Way ps u v → Way (ps ++ [(a, b)]) u v := fun h => h.mono fun q hq => List.mem_append_left _ hq
  have e : (a, b) ∈ ps ++ [(a, b)] := List.mem_append_right _ (List.mem_singleton.mpr rfl)
  constructor
  · intro h
    induction h with
    | stay => exact .inl (.stay _)
    | @fwd v w _ e ih =>
      rcases List.mem_append.mp e with e | e
      · rcases ih with h | ⟨h1, h2⟩ | ⟨h1, h2⟩
        · exact .inl (.fwd h e)
        · exact .inr (.inl ⟨h1, .fwd h2 e⟩)
        · exact .inr (.inr ⟨h1, .fwd h2 e⟩)
      · cases List.mem_singleton.mp e
        rcases ih with h | ⟨h1, h2⟩ | ⟨h1, h2⟩
        · exact .inr (.inl ⟨h, .stay _⟩)
        · exact .inr (.inl ⟨h1, .stay _⟩)
        · exact .inl h1
    | @bwd v w _ e ih =>
      rcases List.mem_append.mp e with e | e
      · rcases ih with h | ⟨h1, h2⟩ | ⟨h1, h2⟩
        · exact .inl (.bwd h e)
        · exact .inr (.inl ⟨h1, .bwd h2 e⟩)
        · exact .inr (.inr ⟨h1, .bwd h2 e⟩)
      · cases List.mem_singleton.mp e
        rcases ih with h | ⟨h1, h2⟩ | ⟨h1, h2⟩
        · exact .inr (.inr ⟨h, .stay _⟩)
        · exact .inl h1
        · exact .inr (.inr ⟨h1, .stay _⟩)
  · rintro (h | ⟨h1, h2⟩ | ⟨h1, h2⟩)
    · exact up h
    · exact (Way.fwd (up h1) e).trans (up h2)
    · exact (Way.bwd (up h1) e).trans (up h2)
/-- only what is in the list counts -/
theorem way_same (s : ∀ q, q ∈ ps ↔ q ∈ qs) : Way ps a b ↔ Way qs a b := ⟨fun h => h.mono fun q hq => (s q).mp hq, fun h => h.mono fun q hq => (s q).mpr hq⟩
/-- a street between places that are joined joins no more -/
theorem way_add (h : Way ps a b) (s : ∀ q ∈ qs, q = (a, b) ∨ q ∈ ps) (w : Way qs x y) : Way ps x y := by
  induction w with
  | stay => exact .stay _
  | fwd _ e ih =>
    rcases s _ e with z | z
    · cases z
      exact ih.trans h
    · exact .fwd ih z
  | bwd _ e ih =>
    rcases s _ e with z | z
    · cases z
      exact ih.trans h.symm
    · exact .bwd ih z
end
/-! ### the least of a class -/
def Least (ps : Join) (h : Nat) : Prop := ∀ q, q < h → ¬ Way ps q h
theorem least_of (ps : Join) : ∀ p : Nat, ∃ h, h ≤ p ∧ Way ps h p ∧ Least ps h := fun p => by
  induction p using Nat.strongRecOn with
  | ind p ih =>
    by_cases l : Least ps p
    · exact ⟨p, Nat.le_refl _, .stay _, l⟩
    · have z : ∃ q, q < p ∧ Way ps q p := Classical.byContradiction fun n => l fun q hq w => n ⟨q, hq, w⟩
      obtain ⟨q, hq, w⟩ := z
      obtain ⟨h, h1, h2, h3⟩ := ih q hq
      exact ⟨h, Nat.le_trans h1 (Nat.le_of_lt hq), h2.trans w, h3⟩
theorem least_uniq {ps : Join} {h k : Nat} (a : Least ps h) (b : Least ps k) (w : Way ps h k) : h = k := by
  rcases Nat.lt_trichotomy h k with l | e | l
  · exact (b _ l w).elim
  · exact e
  · exact (a _ l w.symm).elim
noncomputable def cls (m : Nat) (ps : Join) (p : Nat) : List Nat := (List.range m).filter fun q => @decide (Way ps p q) (Classical.propDecidable _)
noncomputable def heads (m : Nat) (ps : Join) : List Nat := (List.range m).filter fun p => @decide (Least ps p) (Classical.propDecidable _)
noncomputable def partsOf (m : Nat) (ps : Join) : List (List Nat) := (heads m ps).map (cls m ps)
section
variable {ps qs : Join} {m a b p q x y : Nat}
theorem mem_cls : q ∈ cls m ps p ↔ q < m ∧ Way ps p q := by
  unfold cls
  rw [List.mem_filter, List.mem_range]
  exact and_congr_right fun _ => @decide_eq_true_iff _ (Classical.propDecidable _)
theorem mem_heads : p ∈ heads m ps ↔ p < m ∧ Least ps p := by
  unfold heads
  rw [List.mem_filter, List.mem_range]
  exact and_congr_right fun _ => @decide_eq_true_iff _ (Classical.propDecidable _)
theorem range_up (m : Nat) : (List.range m).Pairwise (· < ·) := List.pairwise_lt_range
theorem cls_up : (cls m ps p).Pairwise (· < ·) := (range_up m).filter _
theorem heads_up : (heads m ps).Pairwise (· < ·) := (range_up m).filter _
theorem cls_same (w : Way ps p q) : cls m ps p = cls m ps q := by
  unfold cls
  refine List.filter_congr fun x _ => ?_
  have e : Way ps p x ↔ Way ps q x := ⟨fun h => w.symm.trans h, fun h => w.trans h⟩
  exact decide_eq_decide.mpr e
theorem cls_len : (cls m ps p).length ≤ m := by
  have z := List.length_filter_le (fun q => @decide (Way ps p q) (Classical.propDecidable _)) (List.range m)
  rw [List.length_range] at z
  exact z
theorem heads_len : (heads m ps).length ≤ m := by
  have z := List.length_filter_le (fun p => @decide (Least ps p) (Classical.propDecidable _)) (List.range m)
  rw [List.length_range] at z
  exact z
theorem parts_len : (partsOf m ps).length ≤ m := by
  unfold partsOf
  rw [List.length_map]
  exact heads_len
theorem parts_congr (e : ∀ x y, Way ps x y ↔ Way qs x y) : partsOf m ps = partsOf m qs := by
  have h1 : heads m ps = heads m qs := List.filter_congr fun x _ => by
    have z : Least ps x ↔ Least qs x := ⟨fun l q hq w => l q hq ((e _ _).mpr w), fun l q hq w => l q hq ((e _ _).mp w)⟩
    exact decide_eq_decide.mpr z
  have h2 : cls m ps = cls m qs := funext fun p => List.filter_congr fun x _ => by
    exact decide_eq_decide.mpr (e p x)
  unfold partsOf
  rw [h1, h2]
theorem filter_less {α : Type} {l : List α} {f g : α → Bool} (i : ∀ x ∈ l, f x = true → g x = true) (s : ∃ x ∈ l, g x = true ∧ f x = false) : (l.filter f).length < (l.filter g).length := by
  induction l with
  | nil =>
    obtain ⟨x, hx, _⟩ := s
    cases hx
  | cons a l ih =>
    have le : (l.filter f).length ≤ (l.filter g).length := by
      rw [← List.countP_eq_length_filter, ← List.countP_eq_length_filter]
      exact List.countP_mono_left fun x hx => i x (List.mem_cons_of_mem _ hx)
    obtain ⟨x, hx, gx, fx⟩ := s
    rcases List.mem_cons.mp hx with rfl | hx
    · rw [List.filter_cons, List.filter_cons, if_pos gx, if_neg (by rw [fx]; exact Bool.false_ne_true), List.length_cons]
      omega
    · have lt := ih (fun y hy => i y (List.mem_cons_of_mem _ hy)) ⟨x, hx, gx, fx⟩
      rw [List.filter_cons, List.filter_cons]
      by_cases fa : f a = true
      · rw [if_pos fa, if_pos (i a List.mem_cons_self fa), List.length_cons, List.length_cons]
        omega
      · rw [if_neg fa]
        by_cases ga : g a = true
        · rw [if_pos ga, List.length_cons]
          omega
        · rw [if_neg ga]
          exact lt
/-- a street whose ends are not joined without it: a part fewer with it -/
theorem parts_fewer (h : ¬ Way ps a b) (s : ∀ q, q ∈ qs ↔ q = (a, b) ∨ q ∈ ps) (ha : a < m) (hb : b < m) : (partsOf m qs).length < (partsOf m ps).length := by
  unfold partsOf
  rw [List.length_map, List.length_map]
  have up : ∀ {x y}, Way ps x y → Way qs x y := fun w => w.mono fun q hq => (s q).mpr (.inr hq)
  have ab : Way qs a b := .fwd (.stay _) ((s _).mpr (.inl rfl))
  refine filter_less (fun x _ hx => ?_) ?_
  · have l : Least qs x := (@decide_eq_true_iff _ (Classical.propDecidable _)).mp hx
    exact (@decide_eq_true_iff _ (Classical.propDecidable _)).mpr fun q hq w => l q hq (up w)
  · obtain ⟨la, a1, a2, a3⟩ := least_of ps a
    obtain ⟨lb, b1, b2, b3⟩ := least_of ps b
    have ne : la ≠ lb := fun e => h (a2.symm.trans (e ▸ b2))
    have both : Way qs la lb := ((up a2).trans ab).trans (up b2.symm)
    rcases Nat.lt_or_gt_of_ne ne with l | l
    · refine ⟨lb, List.mem_range.mpr (by omega), (@decide_eq_true_iff _ (Classical.propDecidable _)).mpr b3, (@decide_eq_false_iff_not _ (Classical.propDecidable _)).mpr fun z => z _ l both⟩
    · refine ⟨la, List.mem_range.mpr (by omega), (@decide_eq_true_iff _ (Classical.propDecidable _)).mpr a3, (@decide_eq_false_iff_not _ (Classical.propDecidable _)).mpr fun z => z _ l both.symm⟩
theorem parts_grow (s : ∀ q, q ∈ qs ↔ q = (a, b) ∨ q ∈ ps) (ha : a < m) (hb : b < m) : (partsOf m qs).length < (partsOf m ps).length ↔ ¬ Way ps a b := by
  refine ⟨fun l w => ?_, fun h => parts_fewer h s ha hb⟩
  have e : partsOf m ps = partsOf m qs := parts_congr fun x y => ⟨fun h => h.mono fun q hq => (s q).mpr (.inr hq), fun h => way_add w (fun q hq => (s q).mp hq) h⟩
  rw [e] at l
  omega
end
/-! ### lists in order -/
theorem up_uniq : ∀ {l1 l2 : List Nat}, l1.Pairwise (· < ·) → l2.Pairwise (· < ·) → (∀ x, x ∈ l1 ↔ x ∈ l2) → l1 = l2
  | [], [], _, _, _ => rfl
  | [], b :: l2, _, _, e => absurd ((e b).mpr List.mem_cons_self) (by simp)
  | a :: l1, [], _, _, e => absurd ((e a).mp List.mem_cons_self) (by simp)
  | a :: l1, b :: l2, p1, p2, e => by
    rw [List.pairwise_cons] at p1 p2
    have hab : a = b := by
      rcases List.mem_cons.mp ((e a).mp List.mem_cons_self) with h | h
      · exact h
      · rcases List.mem_cons.mp ((e b).mpr List.mem_cons_self) with k | k
        · exact k.symm
        · have := p2.1 a h
          have := p1.1 b k
          omega
    subst hab
    refine congrArg (a :: ·) (up_uniq p1.2 p2.2 fun x => ?_)
    constructor
    · intro h
      rcases List.mem_cons.mp ((e x).mp (List.mem_cons_of_mem _ h)) with k | k
      · have := p1.1 x h
        omega
      · exact k
    · intro h
      rcases List.mem_cons.mp ((e x).mpr (List.mem_cons_of_mem _ h)) with k | k
      · have := p2.1 x h
        omega
      · exact k
theorem nodup_le : ∀ {m : Nat} {xs : List Nat}, xs.Nodup → (∀ x ∈ xs, x < m) → xs.length ≤ m
  | 0, xs, _, h => by
    cases xs with
    | nil => exact Nat.le_refl _
    | cons a r => exact absurd (h a List.mem_cons_self) (by omega)
  | m + 1, xs, nd, h => by
    have ih := nodup_le (m := m) (xs := xs.erase m) (nd.erase _) (fun x hx => by
      have z := (nd.mem_erase_iff).mp hx
      have := h x z.2
      omega)
    have z : xs.length ≤ (xs.erase m).length + 1 := by
      by_cases hm : m ∈ xs
      · rw [List.length_erase_of_mem hm]
        omega
      · rw [List.erase_of_not_mem hm]
        omega
    omega
/-- sorted whole numbers that are these places -/
theorem sorted_cls {S : List Nat} {ys : List Int} {l : List Nat} (p : ys.Perm (S.map fun (q : Nat) => (q : Int))) (up : ys.Pairwise (· ≤ ·)) (nd : S.Nodup) (hl : l.Pairwise (· < ·)) (e : ∀ x, x ∈ S ↔ x ∈ l) : ys = l.map fun (q : Nat) => (q : Int) := by
  have nn : ∀ y ∈ ys, ∃ k : Nat, y = (k : Int) := fun y hy => by
    obtain ⟨k, _, rfl⟩ := List.mem_map.mp (p.mem_iff.mp hy)
    exact ⟨k, rfl⟩
  have back : ∃ zs : List Nat, ys = zs.map fun (q : Nat) => (q : Int) := by
    clear p up
    induction ys with
    | nil => exact ⟨[], rfl⟩
    | cons y ys ih =>
      obtain ⟨k, hk⟩ := nn y List.mem_cons_self
      obtain ⟨zs, hz⟩ := ih fun z hz => nn z (List.mem_cons_of_mem _ hz)
      exact ⟨k :: zs, by rw [hk, hz]; rfl⟩
  obtain ⟨zs, rfl⟩ := back
  have inj : Function.Injective (fun (q : Nat) => (q : Int)) := fun a b h => Int.ofNat.inj h
  have mem : ∀ x, x ∈ zs ↔ x ∈ S := fun x => by
    have z := p.mem_iff (a := (x : Int))
    constructor
    · intro h
      obtain ⟨k, hk, ek⟩ := List.mem_map.mp (z.mp (List.mem_map.mpr ⟨x, h, rfl⟩))
      have : k = x := Int.ofNat.inj ek
      exact this ▸ hk
    · intro h
      obtain ⟨k, hk, ek⟩ := List.mem_map.mp (z.mpr (List.mem_map.mpr ⟨x, h, rfl⟩))
      have : k = x := Int.ofNat.inj ek
      exact this ▸ hk
  have ndz : zs.Nodup := by
    have z : (S.map fun (q : Nat) => (q : Int)).Nodup := by
      rw [List.nodup_iff_pairwise_ne, List.pairwise_map]
      exact (List.nodup_iff_pairwise_ne.mp nd).imp fun h k => h (Int.ofNat.inj k)
    have y := (p.nodup_iff).mpr z
    rw [List.nodup_iff_pairwise_ne, List.pairwise_map] at y
    exact List.nodup_iff_pairwise_ne.mpr (y.imp fun h k => h (by rw [k]))
  have upz : zs.Pairwise (· < ·) := by
    rw [List.pairwise_map] at up
    have y := List.nodup_iff_pairwise_ne.mp ndz
    exact (up.and y).imp fun ⟨h, k⟩ => by omega
  rw [up_uniq upz hl fun x => (mem x).trans (e x)]
end Own

set_option Elab.async false
set_option linter.all false
set_option maxRecDepth 100000
set_option maxHeartbeats 4000000
/-! Steps, and the walks that are found by them: pure. -/
namespace Own
open L2
def natV (q : Nat) : V := .int (q : Int)
def ends (rows : List TRow) : Join := rows.map (·.2)
def normR (r : TRow) : TRow := (r.1, min r.2.1 r.2.2, max r.2.1 r.2.2)
def flipR (r : TRow) : TRow := (r.1, r.2.2, r.2.1)
theorem flipR_flipR (r : TRow) : flipR (flipR r) = r := rfl
theorem normR_flipR (r : TRow) : normR (flipR r) = normR r := by
  show (r.1, min r.2.2 r.2.1, max r.2.2 r.2.1) = (r.1, min r.2.1 r.2.2, max r.2.1 r.2.2)
  rw [Nat.min_comm, Nat.max_comm]
inductive Led (ws : Join) : Nat → Nat → Prop
  | stay (a : Nat) : Led ws a a
  | go {a b c : Nat} : Led ws a b → (b, c) ∈ ws → Led ws a c
section
variable {ws ws' : Join} {m a b c : Nat}
theorem Led.trans (h : Led ws a b) (k : Led ws b c) : Led ws a c := by
  induction k with
  | stay => exact h
  | go _ e ih => exact .go ih e
theorem Led.closed {S : Nat → Prop} (h : Led ws a b) (ha : S a) (cl : ∀ q ∈ ws, S q.1 → S q.2) : S b := by
  induction h with
  | stay => exact ha
  | go _ e ih => exact cl _ e ih
theorem Led.mono (s : ∀ q ∈ ws, q ∈ ws') (h : Led ws a b) : Led ws' a b := by
  induction h with
  | stay => exact .stay _
  | go _ e ih => exact .go ih (s _ e)
theorem Led.way (h : Led ws a b) : Way ws a b := by
  induction h with
  | stay => exact .stay _
  | go _ e ih => exact .fwd ih e
end
/-- both ways -/
def bothWays (rows : List TRow) : List TRow := rows.flatMap fun r => [r, flipR r]
theorem both_nil : bothWays [] = [] := rfl
theorem both_cons (r : TRow) (rows : List TRow) : bothWays (r :: rows) = r :: flipR r :: bothWays rows := rfl
theorem both_snoc (r : TRow) (rows : List TRow) : bothWays (rows ++ [r]) = bothWays rows ++ [r, flipR r] := by
  unfold bothWays
  rw [List.flatMap_append]
  rfl
theorem mem_both {rows : List TRow} {x : TRow} : x ∈ bothWays rows ↔ x ∈ rows ∨ flipR x ∈ rows := by
  unfold bothWays
  rw [List.mem_flatMap]
  constructor
  · rintro ⟨r, hr, h⟩
    simp only [List.mem_cons, List.not_mem_nil, or_false] at h
    rcases h with h | h
    · exact .inl (h ▸ hr)
    · right
      rw [h, flipR_flipR]
      exact hr
  · rintro (h | h)
    · exact ⟨x, h, List.mem_cons_self ..⟩
    · exact ⟨flipR x, h, by rw [flipR_flipR]; simp⟩
theorem both_len (rows : List TRow) : (bothWays rows).length = 2 * rows.length := by
  induction rows with
  | nil => rfl
  | cons r rows ih =>
    rw [both_cons, List.length_cons, List.length_cons, List.length_cons, ih]
    omega
theorem both_flip {rows : List TRow} {x : TRow} (h : x ∈ bothWays rows) : flipR x ∈ bothWays rows := by
  rw [mem_both] at h ⊢
  rw [flipR_flipR]
  exact h.symm
theorem both_filter (p : Nat → Bool) (rows : List TRow) : (bothWays rows).filter (fun x => p x.1) = bothWays (rows.filter fun x => p x.1) := by
  induction rows with
  | nil => rfl
  | cons r rows ih =>
    rw [both_cons]
    have f : (flipR r).1 = r.1 := rfl
    cases h : p r.1 with
    | true => rw [List.filter_cons, if_pos h, List.filter_cons, if_pos (by rw [f]; exact h), ih, List.filter_cons, if_pos h, both_cons]
    | false => rw [List.filter_cons, if_neg (by rw [h]; exact Bool.false_ne_true), List.filter_cons, if_neg (by rw [f, h]; exact Bool.false_ne_true), ih, List.filter_cons, if_neg (by rw [h]; exact Bool.false_ne_true)]
theorem both_filterP (p : Nat → Bool) (rows : List TRow) (h : ∀ r ∈ rows, p r.2.1 = p r.2.2) : (bothWays rows).filter (fun x => p x.2.1) = bothWays (rows.filter fun x => p x.2.1) := by
  induction rows with
  | nil => rfl
  | cons r rows ih =>
    have ih := ih fun x hx => h x (List.mem_cons_of_mem _ hx)
    have hr := h r (List.mem_cons_self ..)
    rw [both_cons]
    have f : (flipR r).2.1 = r.2.2 := rfl
    cases e : p r.2.1 with
    | true => rw [List.filter_cons, if_pos e, List.filter_cons, if_pos (by rw [f, ← hr]; exact e), ih, List.filter_cons, if_pos e, both_cons]
    | false => rw [List.filter_cons, if_neg (by rw [e]; exact Bool.false_ne_true), List.filter_cons, if_neg (by rw [f, ← hr, e]; exact Bool.false_ne_true), ih, List.filter_cons, if_neg (by rw [e]; exact Bool.false_ne_true)]
theorem both_in {m : Nat} {rows : List TRow} (inm : ∀ q ∈ ends rows, q.1 < m ∧ q.2 < m) : ∀ q ∈ ends (bothWays rows), q.1 < m ∧ q.2 < m := fun q hq => by
  obtain ⟨x, hx, rfl⟩ := List.mem_map.mp hq
  rcases mem_both.mp hx with h | h
  · exact inm _ (List.mem_map.mpr ⟨x, h, rfl⟩)
  · have z := inm _ (List.mem_map.mpr ⟨flipR x, h, rfl⟩)
    exact ⟨z.2, z.1⟩
theorem led_both {rows : List TRow} {a b : Nat} : Led (ends (bothWays rows)) a b ↔ Way (ends rows) a b := by
  constructor
  · intro h
    induction h with
    | stay => exact .stay _
    | @go b c _ e ih =>
      obtain ⟨x, hx, ex⟩ := List.mem_map.mp e
      have e1 : x.2.1 = b := congrArg Prod.fst ex
      have e2 : x.2.2 = c := congrArg Prod.snd ex
      rcases mem_both.mp hx with h | h
      · exact .fwd ih (List.mem_map.mpr ⟨x, h, ex⟩)
      · exact .bwd ih (List.mem_map.mpr ⟨flipR x, h, by rw [← e1, ← e2]; rfl⟩)
  · intro h
    induction h with
    | stay => exact .stay _
    | @fwd b c _ e ih =>
      obtain ⟨x, hx, ex⟩ := List.mem_map.mp e
      exact .go ih (List.mem_map.mpr ⟨x, mem_both.mpr (.inl hx), ex⟩)
    | @bwd b c _ e ih =>
      obtain ⟨x, hx, ex⟩ := List.mem_map.mp e
      have e1 : x.2.1 = c := congrArg Prod.fst ex
      have e2 : x.2.2 = b := congrArg Prod.snd ex
      exact .go ih (List.mem_map.mpr ⟨flipR x, mem_both.mpr (.inr hx), by rw [← e1, ← e2]; rfl⟩)
/-! ### walks as they are found -/
abbrev Walks := List (Nat × List TRow)
def wk (W : Walks) : List Nat := W.map (·.1)
def walkTo (W : Walks) (p : Nat) : List TRow := ((W.find? fun e => decide (e.1 = p)).map (·.2)).getD []
def stepW (a : Nat) (S : Walks × List Nat) (st : TRow) : Walks × List Nat :=
  if st.2.1 = a ∧ st.2.2 ∉ wk S.1 then (S.1 ++ [(st.2.2, walkTo S.1 a ++ [st])], S.2 ++ [st.2.2]) else S
def bfs (steps : List TRow) : Nat → Walks × List Nat → Walks
  | 0, S => S.1
  | _ + 1, (W, []) => W
  | n + 1, (W, a :: q) => bfs steps n (steps.foldl (stepW a) (W, q))
def walksF (steps : List TRow) (p : Nat) : Walks := bfs steps 16 ([(p, [])], [p])
theorem bfs_nil (steps : List TRow) (n : Nat) (W : Walks) : bfs steps n (W, []) = W := by
  cases n <;> rfl
theorem walkTo_mem {W : Walks} {k : Nat} (h : k ∈ wk W) : (k, walkTo W k) ∈ W := by
  obtain ⟨e, he, ek⟩ := List.mem_map.mp h
  unfold walkTo
  cases z : W.find? fun e => decide (e.1 = k) with
  | none =>
    have := List.find?_eq_none.mp z e he
    rw [decide_eq_true ek] at this
    exact (this rfl).elim
  | some x =>
    have h1 := List.find?_some z
    have h2 := List.mem_of_find?_eq_some z
    have h3 : x.1 = k := of_decide_eq_true h1
    show (k, x.2) ∈ W
    rw [← h3]
    exact h2
/-- how the walks hang together -/
inductive Tree (steps : List TRow) (p : Nat) : Walks → Prop
  | root : Tree steps p [(p, [])]
  | add {W : Walks} {a : Nat} {w0 : List TRow} {st : TRow} : Tree steps p W → (a, w0) ∈ W → st ∈ steps → st.2.1 = a → st.2.2 ∉ wk W → Tree steps p (W ++ [(st.2.2, w0 ++ [st])])
theorem wk_snoc (W : Walks) (k : Nat) (w : List TRow) : wk (W ++ [(k, w)]) = wk W ++ [k] := by
  unfold wk
  rw [List.map_append]
  rfl
/-- steps in a row from a to c -/
def Run : Nat → List TRow → Nat → Prop
  | a, [], c => a = c
  | a, st :: w, c => st.2.1 = a ∧ Run st.2.2 w c
theorem run_app : ∀ {u v : List TRow} {a c : Nat}, Run a (u ++ v) c ↔ ∃ b, Run a u b ∧ Run b v c
  | [], v, a, c => by
    constructor
    · exact fun h => ⟨a, rfl, h⟩
    · rintro ⟨b, h1, h2⟩
      have e : a = b := h1
      rw [List.nil_append, e]
      exact h2
  | st :: u, v, a, c => by
    show (st.2.1 = a ∧ Run st.2.2 (u ++ v) c) ↔ _
    rw [run_app]
    constructor
    · rintro ⟨e, b, h1, h2⟩
      exact ⟨b, ⟨e, h1⟩, h2⟩
    · rintro ⟨b, ⟨e, h1⟩, h2⟩
      exact ⟨e, b, h1, h2⟩
theorem run_snoc {u : List TRow} {st : TRow} {a : Nat} (h : Run a u st.2.1) : Run a (u ++ [st]) st.2.2 := run_app.mpr ⟨_, h, rfl, rfl⟩
theorem run_led : ∀ {w : List TRow} {a c : Nat}, Run a w c → Led (ends w) a c
  | [], a, c, h => by
    have e : a = c := h
    rw [e]
    exact .stay _
  | st :: w, a, c, ⟨e, h⟩ => by
    have l1 : Led (ends (st :: w)) a st.2.2 := .go (.stay a) (by rw [← e]; exact List.mem_cons_self ..)
    exact l1.trans ((run_led h).mono fun q hq => List.mem_cons_of_mem _ hq)
/-- each place on a run is led to, and leads on -/
theorem run_via : ∀ {w : List TRow} {a c : Nat}, Run a w c → ∀ st ∈ w, Led (ends w) a st.2.2 ∧ Led (ends w) st.2.2 c
  | st :: w, a, c, ⟨e, h⟩, x, hx => by
    have up : ∀ {u v : Nat}, Led (ends w) u v → Led (ends (st :: w)) u v := fun l => l.mono fun q hq => List.mem_cons_of_mem _ hq
    have l1 : Led (ends (st :: w)) a st.2.2 := .go (.stay a) (by rw [← e]; exact List.mem_cons_self ..)
    rcases List.mem_cons.mp hx with z | z
    · rw [z]
      exact ⟨l1, up (run_led h)⟩
    · have ih := run_via h x z
      exact ⟨l1.trans (up ih.1), up ih.2⟩
section
variable {steps : List TRow} {p m : Nat} {W : Walks}
theorem tree_root (T : Tree steps p W) : p ∈ wk W := by
  induction T with
  | root => exact List.mem_cons_self ..
  | add _ _ _ _ _ ih => rw [wk_snoc]; exact List.mem_append_left _ ih
theorem tree_nd (T : Tree steps p W) : (wk W).Nodup := by
  induction T with
  | root => exact (List.nodup_cons.mpr ⟨List.not_mem_nil, List.nodup_nil⟩)
  | add _ _ _ _ n ih =>
    rw [wk_snoc, List.nodup_append]
    refine ⟨ih, (List.nodup_cons.mpr ⟨List.not_mem_nil, List.nodup_nil⟩), fun x hx y hy e => ?_⟩
    rw [List.mem_singleton] at hy
    rw [hy] at e
    rw [e] at hx
    exact n hx
theorem tree_led (T : Tree steps p W) : ∀ k ∈ wk W, Led (ends steps) p k := by
  induction T with
  | root =>
    intro k hk
    rw [List.mem_singleton.mp hk]
    exact .stay _
  | @add W a w0 st T ha hs e n ih =>
    intro k hk
    rw [wk_snoc] at hk
    rcases List.mem_append.mp hk with z | z
    · exact ih k z
    · rw [List.mem_singleton.mp z]
      exact .go (ih a (List.mem_map.mpr ⟨_, ha, rfl⟩)) (List.mem_map.mpr ⟨st, hs, by rw [← e]⟩)
theorem tree_run (T : Tree steps p W) : ∀ e ∈ W, Run p e.2 e.1 ∧ (∀ st ∈ e.2, st ∈ steps ∧ st.2.1 ∈ wk W ∧ st.2.2 ∈ wk W) ∧ e.2.length < W.length := by
  induction T with
  | root =>
    intro e he
    rw [List.mem_singleton.mp he]
    exact ⟨rfl, fun st hst => absurd hst List.not_mem_nil, Nat.zero_lt_one⟩
  | @add W a w0 st T ha hs e n ih =>
    intro x hx
    have len : (W ++ [(st.2.2, w0 ++ [st])]).length = W.length + 1 := by rw [List.length_append]; rfl
    rcases List.mem_append.mp hx with z | z
    · obtain ⟨h1, h2, h3⟩ := ih x z
      refine ⟨h1, fun y hy => ?_, by omega⟩
      obtain ⟨g1, g2, g3⟩ := h2 y hy
      rw [wk_snoc]
      exact ⟨g1, List.mem_append_left _ g2, List.mem_append_left _ g3⟩
    · rw [List.mem_singleton.mp z]
      obtain ⟨h1, h2, h3⟩ := ih _ ha
      refine ⟨run_snoc (by rw [e]; exact h1), fun y hy => ?_, ?_⟩
      · rw [wk_snoc]
        rcases List.mem_append.mp hy with y1 | y1
        · obtain ⟨g1, g2, g3⟩ := h2 y y1
          exact ⟨g1, List.mem_append_left _ g2, List.mem_append_left _ g3⟩
        · rw [List.mem_singleton.mp y1]
          exact ⟨hs, List.mem_append_left _ (by rw [e]; exact List.mem_map.mpr ⟨_, ha, rfl⟩), List.mem_append_right _ (List.mem_singleton.mpr rfl)⟩
      · show (w0 ++ [st]).length < _
        rw [len, List.length_append]
        show w0.length + 1 < _
        have : w0.length < W.length := h3
        omega
/-- where a number has one street, no street is walked twice -/
theorem tree_nums (T : Tree steps p W) (u : ∀ x ∈ steps, ∀ y ∈ steps, x.1 = y.1 → y = x ∨ y = flipR x) : ∀ e ∈ W, (e.2.map (·.1)).Nodup := by
  induction T with
  | root =>
    intro e he
    rw [List.mem_singleton.mp he]
    exact List.nodup_nil
  | @add W a w0 st T ha hs e n ih =>
    intro x hx
    rcases List.mem_append.mp hx with z | z
    · exact ih x z
    · rw [List.mem_singleton.mp z]
      show ((w0 ++ [st]).map (·.1)).Nodup
      rw [List.map_append, List.nodup_append]
      refine ⟨ih _ ha, (List.nodup_cons.mpr ⟨List.not_mem_nil, List.nodup_nil⟩), fun i hi j hj ij => ?_⟩
      obtain ⟨y, hy, ey⟩ := List.mem_map.mp hi
      have hj : j = st.1 := List.mem_singleton.mp hj
      have g := (tree_run T _ ha).2.1 y hy
      rcases u y g.1 st hs (by rw [ey, ij, hj]) with s | s
      · rw [s] at n
        exact n g.2.2
      · rw [s] at n
        exact n g.2.1
/-- the search, in the midst -/
structure BfsI (steps : List TRow) (p m : Nat) (S : Walks × List Nat) : Prop where
  tree : Tree steps p S.1
  lt : ∀ k ∈ wk S.1, k < m
  sub : ∀ a ∈ S.2, a ∈ wk S.1
theorem bfsI_len {S : Walks × List Nat} (I : BfsI steps p m S) : S.1.length ≤ m := by
  have z := nodup_le (tree_nd I.tree) I.lt
  unfold wk at z
  rw [List.length_map] at z
  exact z
theorem stepW_yes {a : Nat} {S : Walks × List Nat} {st : TRow} (h1 : st.2.1 = a) (h2 : st.2.2 ∉ wk S.1) : stepW a S st = (S.1 ++ [(st.2.2, walkTo S.1 a ++ [st])], S.2 ++ [st.2.2]) := if_pos ⟨h1, h2⟩
theorem stepW_no {a : Nat} {S : Walks × List Nat} {st : TRow} (h : ¬ (st.2.1 = a ∧ st.2.2 ∉ wk S.1)) : stepW a S st = S := if_neg h
theorem stepW_I {S : Walks × List Nat} {a : Nat} {st : TRow} (I : BfsI steps p m S) (ha : a ∈ wk S.1) (hs : st ∈ steps) (b : st.2.2 < m) : BfsI steps p m (stepW a S st) := by
  by_cases h : st.2.1 = a ∧ st.2.2 ∉ wk S.1
  · rw [stepW_yes h.1 h.2]
    refine ⟨.add I.tree (walkTo_mem ha) hs h.1 h.2, fun k hk => ?_, fun x hx => ?_⟩
    · rw [wk_snoc] at hk
      rcases List.mem_append.mp hk with z | z
      · exact I.lt k z
      · rw [List.mem_singleton.mp z]
        exact b
    · show x ∈ wk (S.1 ++ [_])
      rw [wk_snoc]
      rcases List.mem_append.mp hx with z | z
      · exact List.mem_append_left _ (I.sub x z)
      · exact List.mem_append_right _ z
  · rw [stepW_no h]
    exact I
theorem stepW_keep {S : Walks × List Nat} {a : Nat} {st : TRow} {k : Nat} (h : k ∈ wk S.1) : k ∈ wk (stepW a S st).1 := by
  by_cases c : st.2.1 = a ∧ st.2.2 ∉ wk S.1
  · rw [stepW_yes c.1 c.2]
    show k ∈ wk (S.1 ++ [_])
    rw [wk_snoc]
    exact List.mem_append_left _ h
  · rw [stepW_no c]
    exact h
theorem stepW_put {S : Walks × List Nat} {a : Nat} {st : TRow} (h : st.2.1 = a) : st.2.2 ∈ wk (stepW a S st).1 := by
  by_cases c : st.2.2 ∈ wk S.1
  · exact stepW_keep c
  · rw [stepW_yes h c]
    show _ ∈ wk (S.1 ++ [_])
    rw [wk_snoc]
    exact List.mem_append_right _ (List.mem_singleton.mpr rfl)
/-- as much as the walks grow, so much longer those that wait; what is new waits -/
theorem stepW_size (S : Walks × List Nat) (a : Nat) (st : TRow) : (stepW a S st).2.length + S.1.length = S.2.length + (stepW a S st).1.length := by
  by_cases c : st.2.1 = a ∧ st.2.2 ∉ wk S.1
  · rw [stepW_yes c.1 c.2, List.length_append, List.length_append]
    show S.2.length + 1 + S.1.length = S.2.length + (S.1.length + 1)
    omega
  · rw [stepW_no c]
theorem stepW_new {S : Walks × List Nat} {a : Nat} {st : TRow} {k : Nat} (h : k ∈ wk (stepW a S st).1) : k ∈ wk S.1 ∨ k ∈ (stepW a S st).2 := by
  by_cases c : st.2.1 = a ∧ st.2.2 ∉ wk S.1
  · rw [stepW_yes c.1 c.2] at h ⊢
    have h : k ∈ wk (S.1 ++ [_]) := h
    rw [wk_snoc] at h
    rcases List.mem_append.mp h with z | z
    · exact .inl z
    · exact .inr (List.mem_append_right _ z)
  · rw [stepW_no c] at h
    exact .inl h
theorem stepW_wait {S : Walks × List Nat} {a : Nat} {st : TRow} {k : Nat} (h : k ∈ S.2) : k ∈ (stepW a S st).2 := by
  by_cases c : st.2.1 = a ∧ st.2.2 ∉ wk S.1
  · rw [stepW_yes c.1 c.2]
    exact List.mem_append_left _ h
  · rw [stepW_no c]
    exact h
/-- all steps of one place -/
structure FoldW (steps : List TRow) (p m a : Nat) (xs : List TRow) (S S' : Walks × List Nat) : Prop where
  I : BfsI steps p m S'
  keep : ∀ k ∈ wk S.1, k ∈ wk S'.1
  size : S'.2.length + S.1.length = S.2.length + S'.1.length
  new : ∀ k ∈ wk S'.1, k ∈ wk S.1 ∨ k ∈ S'.2
  wait : ∀ k ∈ S.2, k ∈ S'.2
  put : ∀ st ∈ xs, st.2.1 = a → st.2.2 ∈ wk S'.1
theorem fold_W {a : Nat} : ∀ {xs : List TRow} {S : Walks × List Nat}, BfsI steps p m S → a ∈ wk S.1 → (∀ st ∈ xs, st ∈ steps ∧ st.2.2 < m) → FoldW steps p m a xs S (xs.foldl (stepW a) S)
  | [], S, I, _, _ => ⟨I, fun _ h => h, rfl, fun _ h => .inl h, fun _ h => h, fun _ h => absurd h List.not_mem_nil⟩
  | x :: xs, S, I, ha, h => by
    have hx := h x (List.mem_cons_self ..)
    have F := fold_W (xs := xs) (S := stepW a S x) (stepW_I I ha hx.1 hx.2) (stepW_keep ha) fun st hst => h st (List.mem_cons_of_mem _ hst)
    have sz := stepW_size S a x
    have sz2 := F.size
    refine ⟨F.I, fun k hk => F.keep k (stepW_keep hk), ?_, fun k hk => ?_, fun k hk => F.wait k (stepW_wait hk), fun st hst e => ?_⟩
    · show (xs.foldl (stepW a) (stepW a S x)).2.length + S.1.length = _
      show _ = S.2.length + (xs.foldl (stepW a) (stepW a S x)).1.length
      omega
    · rcases F.new k hk with z | z
      · rcases stepW_new z with y | y
        · exact .inl y
        · exact .inr (F.wait k y)
      · exact .inr z
    · rcases List.mem_cons.mp hst with z | z
      · rw [z] at e ⊢
        exact F.keep _ (stepW_put e)
      · exact F.put st z e
theorem bfs_spec (inm : ∀ q ∈ ends steps, q.1 < m ∧ q.2 < m) : ∀ {n : Nat} {S : Walks × List Nat}, BfsI steps p m S → (∀ k ∈ wk S.1, k ∉ S.2 → ∀ st ∈ steps, st.2.1 = k → st.2.2 ∈ wk S.1) → S.2.length + (m - S.1.length) ≤ n →
    BfsI steps p m (bfs steps n S, []) ∧ ∀ k ∈ wk (bfs steps n S), ∀ st ∈ steps, st.2.1 = k → st.2.2 ∈ wk (bfs steps n S)
  | n, (W, []), I, cl, _ => by
    rw [bfs_nil]
    exact ⟨I, fun k hk => cl k hk List.not_mem_nil⟩
  | 0, (W, a :: q), I, cl, h => by
    have h : (q.length + 1) + (m - W.length) ≤ 0 := h
    omega
  | n + 1, (W, a :: q), I, cl, h => by
    have h : (q.length + 1) + (m - W.length) ≤ n + 1 := h
    have ha : a ∈ wk W := I.sub a (List.mem_cons_self ..)
    have I0 : BfsI steps p m (W, q) := ⟨I.tree, I.lt, fun x hx => I.sub x (List.mem_cons_of_mem _ hx)⟩
    have F := fold_W (a := a) (xs := steps) I0 ha fun st hst => ⟨hst, (inm _ (List.mem_map.mpr ⟨st, hst, rfl⟩)).2⟩
    have sz : (steps.foldl (stepW a) (W, q)).2.length + W.length = q.length + (steps.foldl (stepW a) (W, q)).1.length := F.size
    have l1 : (steps.foldl (stepW a) (W, q)).1.length ≤ m := bfsI_len F.I
    have l0 : W.length ≤ m := bfsI_len I0
    refine bfs_spec inm (n := n) F.I (fun k hk hn st hst e => ?_) (by omega)
    rcases F.new k hk with z | z
    · by_cases ka : k = a
      · exact F.put st hst (e.trans ka)
      · refine F.keep _ (cl k z (fun y => ?_) st hst e)
        rcases List.mem_cons.mp y with y | y
        · exact ka y
        · exact hn (F.wait k y)
    · exact (hn z).elim
theorem bfs_start (hp : p < m) : BfsI steps p m ([(p, [])], [p]) := ⟨.root, fun k hk => by rw [List.mem_singleton.mp hk]; exact hp, fun a ha => ha⟩
theorem walks_spec (inm : ∀ q ∈ ends steps, q.1 < m ∧ q.2 < m) (hp : p < m) (m16 : m ≤ 16) : Tree steps p (walksF steps p) ∧ (∀ k, k ∈ wk (walksF steps p) ↔ k < m ∧ Led (ends steps) p k) := by
  have z := bfs_spec inm (n := 16) (bfs_start (steps := steps) hp) (fun k hk hn => (hn hk).elim) (by show 1 + (m - 1) ≤ 16; omega)
  refine ⟨z.1.tree, fun k => ⟨fun hk => ⟨z.1.lt k hk, tree_led z.1.tree k hk⟩, fun hk => ?_⟩⟩
  refine hk.2.closed (S := fun k => k ∈ wk (walksF steps p)) (tree_root z.1.tree) fun q hq h1 => ?_
  obtain ⟨st, hst, e⟩ := List.mem_map.mp hq
  rw [← e]
  exact z.2 _ h1 st hst (by rw [← e])
theorem walks_len (inm : ∀ q ∈ ends steps, q.1 < m ∧ q.2 < m) (hp : p < m) (m16 : m ≤ 16) : (walksF steps p).length ≤ m := by
  have z := bfs_spec inm (n := 16) (bfs_start (steps := steps) hp) (fun k hk hn => (hn hk).elim) (by show 1 + (m - 1) ≤ 16; omega)
  exact bfsI_len z.1
end
end Own

set_option Elab.async false
set_option linter.all false
set_option maxRecDepth 100000
set_option maxHeartbeats 4000000
/-! Rows of steps out of a piece: each leads from what is had to what is had. -/
namespace Own
open L2
def rowF (steps : List TRow) (had : List Nat) : List TRow :=
  match steps.filter (fun st => decide (st.2.1 ∈ had)) with
  | [] => []
  | f :: _ =>
    match (wk (walksF (steps.filter fun st => decide (st.1 ≠ f.1)) f.2.2)).filter (fun k => decide (k ∈ had)) with
    | [] => []
    | k :: _ => f :: walkTo (walksF (steps.filter fun st => decide (st.1 ≠ f.1)) f.2.2) k
def leftF (steps row : List TRow) : List TRow := steps.filter fun st => decide (st.1 ∉ row.map (·.1))
def moreF (had : List Nat) (row : List TRow) : List Nat := had ++ row.dropLast.map (·.2.2)
def rowsF : Nat → List TRow → List Nat → List (List TRow)
  | 0, _, _ => []
  | n + 1, steps, had => if steps.isEmpty = true then [] else rowF steps had :: rowsF n (leftF steps (rowF steps had)) (moreF had (rowF steps had))
/-- where a row can be told -/
structure RowAt (steps : List TRow) (had : List Nat) (f : TRow) (fs : List TRow) (k : Nat) (ks : List Nat) : Prop where
  first : steps.filter (fun st => decide (st.2.1 ∈ had)) = f :: fs
  last : (wk (walksF (steps.filter fun st => decide (st.1 ≠ f.1)) f.2.2)).filter (fun k => decide (k ∈ had)) = k :: ks
theorem rowF_eq {steps : List TRow} {had : List Nat} {f : TRow} {fs : List TRow} {k : Nat} {ks : List Nat} (A : RowAt steps had f fs k ks) : rowF steps had = f :: walkTo (walksF (steps.filter fun st => decide (st.1 ≠ f.1)) f.2.2) k := by
  unfold rowF
  rw [A.first]
  dsimp only
  rw [A.last]
/-- a piece: joined, also without any one of its streets -/
structure PieceI (m : Nat) (E : List TRow) (pc : List Nat) : Prop where
  lt : ∀ x ∈ pc, x < m
  inE : ∀ r ∈ E, r.2.1 ∈ pc ∧ r.2.2 ∈ pc
  conn : ∀ x ∈ pc, ∀ y ∈ pc, Way (ends E) x y
  two : ∀ r ∈ E, Way (ends (E.filter fun q => decide (q.1 ≠ r.1))) r.2.1 r.2.2
  nums : ∀ x ∈ E, ∀ y ∈ E, x.1 = y.1 → x = y
structure RowsI (E : List TRow) (pc : List Nat) (steps : List TRow) (had : List Nat) (told : List TRow) : Prop where
  st : steps = bothWays (E.filter fun r => decide (r.1 ∉ told.map (·.1)))
  sub : ∀ x ∈ had, x ∈ pc
  one : had ≠ []
  used : ∀ r ∈ E, r.1 ∈ told.map (·.1) → r.2.1 ∈ had ∧ r.2.2 ∈ had
  strong : ∀ x ∈ had, ∀ y ∈ had, Led (ends told) x y
  mem : ∀ st ∈ told, st ∈ bothWays E
  nd : (told.map (·.1)).Nodup
theorem run_ends : ∀ {w : List TRow} {a c : Nat}, Run a w c → ∀ st ∈ w, (st.2.1 = a ∨ st.2.1 ∈ w.dropLast.map (·.2.2)) ∧ (st.2.2 = c ∨ st.2.2 ∈ w.dropLast.map (·.2.2))
  | [x], a, c, ⟨e, h⟩, st, hst => by
    rw [List.mem_singleton.mp hst]
    exact ⟨.inl e, .inl h⟩
  | x :: y :: w, a, c, ⟨e, h⟩, st, hst => by
    have d : (x :: y :: w).dropLast = x :: (y :: w).dropLast := rfl
    rw [d, List.map_cons]
    rcases List.mem_cons.mp hst with z | z
    · rw [z]
      exact ⟨.inl e, .inr (List.mem_cons_self ..)⟩
    · obtain ⟨h1, h2⟩ := run_ends h st z
      refine ⟨?_, ?_⟩
      · rcases h1 with h1 | h1
        · rw [h1]
          exact .inr (List.mem_cons_self ..)
        · exact .inr (List.mem_cons_of_mem _ h1)
      · rcases h2 with h2 | h2
        · exact .inl h2
        · exact .inr (List.mem_cons_of_mem _ h2)
section
variable {m : Nat} {E steps told : List TRow} {pc had : List Nat}
theorem filter_some {α : Type} {l : List α} {p : α → Bool} (h : ∃ x ∈ l, p x = true) : ∃ y ys, l.filter p = y :: ys := by
  obtain ⟨x, hx, px⟩ := h
  cases z : l.filter p with
  | nil => exact absurd (List.filter_eq_nil_iff.mp z x hx) (fun y => y px)
  | cons y ys => exact ⟨y, ys, rfl⟩
theorem filter_head {α : Type} {l : List α} {p : α → Bool} {y : α} {ys : List α} (h : l.filter p = y :: ys) : y ∈ l ∧ p y = true := List.mem_filter.mp (by rw [h]; exact List.mem_cons_self ..)
theorem rowsI_in (P : PieceI m E pc) (R : RowsI E pc steps had told) : ∀ st ∈ steps, st ∈ bothWays E ∧ st.1 ∉ told.map (·.1) := fun st hst => by
  rw [R.st] at hst
  rcases mem_both.mp hst with z | z
  · obtain ⟨z1, z2⟩ := List.mem_filter.mp z
    exact ⟨mem_both.mpr (.inl z1), of_decide_eq_true z2⟩
  · obtain ⟨z1, z2⟩ := List.mem_filter.mp z
    exact ⟨mem_both.mpr (.inr z1), (show (flipR st).1 ∉ _ from of_decide_eq_true z2)⟩
theorem both_pc (P : PieceI m E pc) {st : TRow} (h : st ∈ bothWays E) : st.2.1 ∈ pc ∧ st.2.2 ∈ pc := by
  rcases mem_both.mp h with z | z
  · exact P.inE st z
  · have := P.inE _ z
    exact ⟨this.2, this.1⟩
theorem both_two (P : PieceI m E pc) {st : TRow} (h : st ∈ bothWays E) : Way (ends (E.filter fun q => decide (q.1 ≠ st.1))) st.2.1 st.2.2 := by
  rcases mem_both.mp h with z | z
  · exact P.two st z
  · exact (P.two _ z).symm
theorem both_nums (P : PieceI m E pc) {x y : TRow} (hx : x ∈ bothWays E) (hy : y ∈ bothWays E) (e : x.1 = y.1) : y = x ∨ y = flipR x := by
  rcases mem_both.mp hx with a | a <;> rcases mem_both.mp hy with b | b
  · exact .inl (P.nums _ a _ b e).symm
  · have z : x = flipR y := P.nums _ a _ b e
    exact .inr (by rw [z]; rfl)
  · have z : flipR x = y := P.nums _ a _ b e
    exact .inr z.symm
  · have z : flipR x = flipR y := P.nums _ a _ b e
    exact .inl (by rw [← flipR_flipR y, ← z]; rfl)
theorem others_eq (R : RowsI E pc steps had told) (k : Nat) : (steps.filter fun st => decide (st.1 ≠ k)) = bothWays ((E.filter fun r => decide (r.1 ∉ told.map (·.1))).filter fun r => decide (r.1 ≠ k)) := by
  rw [R.st]
  exact both_filter (fun n => decide (n ≠ k)) _
theorem others_in (P : PieceI m E pc) (R : RowsI E pc steps had told) (k : Nat) : ∀ q ∈ ends (steps.filter fun st => decide (st.1 ≠ k)), q.1 < m ∧ q.2 < m := fun q hq => by
  obtain ⟨x, hx, rfl⟩ := List.mem_map.mp hq
  have z := both_pc P (rowsI_in P R x (List.mem_filter.mp hx).1).1
  exact ⟨P.lt _ z.1, P.lt _ z.2⟩
theorem row_at (P : PieceI m E pc) (m16 : m ≤ 16) (R : RowsI E pc steps had told) (ne : steps ≠ []) : ∃ f fs k ks, RowAt steps had f fs k ks := by
  obtain ⟨h, hh⟩ := List.exists_mem_of_ne_nil _ R.one
  have first : ∃ st ∈ steps, decide (st.2.1 ∈ had) = true := by
    refine Classical.byContradiction fun no => ?_
    have no' : ∀ st ∈ steps, st.2.1 ∉ had := fun st hst y => no ⟨st, hst, decide_eq_true y⟩
    obtain ⟨x, hx⟩ := List.exists_mem_of_ne_nil _ ne
    have px := both_pc P (rowsI_in P R x hx).1
    have w := P.conn h (R.sub h hh) x.2.1 px.1
    refine no' x hx (w.closed (S := fun q => q ∈ had) hh fun q hq => ?_)
    obtain ⟨e, he, rfl⟩ := List.mem_map.mp hq
    by_cases u : e.1 ∈ told.map (·.1)
    · have z := R.used e he u
      exact ⟨fun _ => z.2, fun _ => z.1⟩
    · have z : e ∈ E.filter fun r => decide (r.1 ∉ told.map (·.1)) := List.mem_filter.mpr ⟨he, decide_eq_true u⟩
      have e1 : e ∈ steps := by rw [R.st]; exact mem_both.mpr (.inl z)
      have e2 : flipR e ∈ steps := by rw [R.st]; exact mem_both.mpr (.inr z)
      exact ⟨fun y => (no' _ e1 y).elim, fun y => (no' _ e2 y).elim⟩
  obtain ⟨f, fs, hf⟩ := filter_some first
  obtain ⟨f1, f2⟩ := filter_head hf
  have f2 : f.2.1 ∈ had := of_decide_eq_true f2
  have f3 := (rowsI_in P R f f1).1
  have f4 := both_pc P f3
  have spec := walks_spec (others_in P R f.1) (P.lt _ f4.2) m16
  have last : ∃ k ∈ wk (walksF (steps.filter fun st => decide (st.1 ≠ f.1)) f.2.2), decide (k ∈ had) = true := by
    refine Classical.byContradiction fun no => ?_
    have oe := others_eq R f.1
    generalize (steps.filter fun st => decide (st.1 ≠ f.1)) = others at *
    have no' : ∀ x ∈ had, ¬ Way (ends ((E.filter fun r => decide (r.1 ∉ told.map (·.1))).filter fun r => decide (r.1 ≠ f.1))) f.2.2 x := fun x hx w => by
      refine no ⟨x, (spec.2 x).mpr ⟨P.lt _ (R.sub x hx), ?_⟩, decide_eq_true hx⟩
      rw [oe]
      exact led_both.mpr w
    refine no' f.2.1 f2 ((both_two P f3).symm.closed (S := fun x => Way (ends ((E.filter fun r => decide (r.1 ∉ told.map (·.1))).filter fun r => decide (r.1 ≠ f.1))) f.2.2 x) (.stay _) fun q hq => ?_)
    obtain ⟨e, he, rfl⟩ := List.mem_map.mp hq
    obtain ⟨he1, he2⟩ := List.mem_filter.mp he
    by_cases u : e.1 ∈ told.map (·.1)
    · have z := R.used e he1 u
      exact ⟨fun y => (no' _ z.1 y).elim, fun y => (no' _ z.2 y).elim⟩
    · have z : e ∈ (E.filter fun r => decide (r.1 ∉ told.map (·.1))).filter fun r => decide (r.1 ≠ f.1) := List.mem_filter.mpr ⟨List.mem_filter.mpr ⟨he1, decide_eq_true u⟩, he2⟩
      have ze : e.2 ∈ ends ((E.filter fun r => decide (r.1 ∉ told.map (·.1))).filter fun r => decide (r.1 ≠ f.1)) := List.mem_map.mpr ⟨e, z, rfl⟩
      exact ⟨fun y => .fwd y ze, fun y => .bwd y ze⟩
  obtain ⟨k, ks, hk⟩ := filter_some last
  exact ⟨f, fs, k, ks, hf, hk⟩
/-- what a row is -/
structure RowIs (steps : List TRow) (had : List Nat) (row : List TRow) : Prop where
  run : ∃ a ∈ had, ∃ c ∈ had, Run a row c
  mem : ∀ st ∈ row, st ∈ steps
  nd : (row.map (·.1)).Nodup
  ne : row ≠ []
  few : row.length ≤ 17
theorem row_is (P : PieceI m E pc) (m16 : m ≤ 16) (R : RowsI E pc steps had told) {f : TRow} {fs : List TRow} {k : Nat} {ks : List Nat} (A : RowAt steps had f fs k ks) : RowIs steps had (rowF steps had) := by
  rw [rowF_eq A]
  obtain ⟨f1, f2⟩ := filter_head A.first
  have f2 : f.2.1 ∈ had := of_decide_eq_true f2
  obtain ⟨k1, k2⟩ := filter_head A.last
  have k2 : k ∈ had := of_decide_eq_true k2
  have f3 := (rowsI_in P R f f1).1
  have spec := walks_spec (others_in P R f.1) (P.lt _ (both_pc P f3).2) m16
  have len := walks_len (others_in P R f.1) (P.lt _ (both_pc P f3).2) m16
  have u : ∀ x ∈ steps.filter (fun st => decide (st.1 ≠ f.1)), ∀ y ∈ steps.filter (fun st => decide (st.1 ≠ f.1)), x.1 = y.1 → y = x ∨ y = flipR x := fun x hx y hy e =>
    both_nums P (rowsI_in P R x (List.mem_filter.mp hx).1).1 (rowsI_in P R y (List.mem_filter.mp hy).1).1 e
  have km := walkTo_mem k1
  obtain ⟨r1, r2, r3⟩ := tree_run spec.1 _ km
  have r4 := tree_nums spec.1 u _ km
  have r1 : Run f.2.2 (walkTo (walksF (steps.filter fun st => decide (st.1 ≠ f.1)) f.2.2) k) k := r1
  generalize hw : walkTo (walksF (steps.filter fun st => decide (st.1 ≠ f.1)) f.2.2) k = w at *
  refine ⟨⟨f.2.1, f2, k, k2, rfl, r1⟩, fun st hst => ?_, ?_, by simp, ?_⟩
  · rcases List.mem_cons.mp hst with z | z
    · rw [z]
      exact f1
    · exact (List.mem_filter.mp (r2 st z).1).1
  · rw [List.map_cons, List.nodup_cons]
    refine ⟨fun z => ?_, r4⟩
    obtain ⟨x, hx, ex⟩ := List.mem_map.mp z
    exact of_decide_eq_true (List.mem_filter.mp (r2 x hx).1).2 ex
  · show w.length + 1 ≤ 17
    have r3 : w.length < _ := r3
    omega
theorem nots (a : Nat) (A B : List Nat) : (decide (a ∉ A) && decide (a ∉ B)) = decide (a ∉ B ++ A) := by
  by_cases h1 : a ∈ A
  · rw [decide_eq_false (p := a ∉ A) (fun z => z h1), decide_eq_false (p := a ∉ B ++ A) (fun z => z (List.mem_append_right _ h1))]
    rfl
  · by_cases h2 : a ∈ B
    · rw [decide_eq_false (p := a ∉ B) (fun z => z h2), decide_eq_false (p := a ∉ B ++ A) (fun z => z (List.mem_append_left _ h2)), Bool.and_false]
    · rw [decide_eq_true h1, decide_eq_true h2, decide_eq_true (p := a ∉ B ++ A) (fun z => (List.mem_append.mp z).elim h2 h1)]
      rfl
theorem row_next (P : PieceI m E pc) (R : RowsI E pc steps had told) {row : List TRow} (I : RowIs steps had row) : RowsI E pc (leftF steps row) (moreF had row) (told ++ row) := by
  obtain ⟨a, ha, c, hc, run⟩ := I.run
  have inBoth : ∀ st ∈ row, st ∈ bothWays E := fun st hst => (rowsI_in P R st (I.mem st hst)).1
  have hadUp : ∀ x ∈ had, x ∈ moreF had row := fun x hx => List.mem_append_left _ hx
  have ledUp : ∀ {x y : Nat}, Led (ends told) x y → Led (ends (told ++ row)) x y := fun l => l.mono fun q hq => by
    unfold ends at hq ⊢
    rw [List.map_append]
    exact List.mem_append_left _ hq
  have ledRow : ∀ {x y : Nat}, Led (ends row) x y → Led (ends (told ++ row)) x y := fun l => l.mono fun q hq => by
    unfold ends at hq ⊢
    rw [List.map_append]
    exact List.mem_append_right _ hq
  have near : ∀ x ∈ moreF had row, (∃ h ∈ had, Led (ends (told ++ row)) h x) ∧ ∃ h ∈ had, Led (ends (told ++ row)) x h := fun x hx => by
    rcases List.mem_append.mp hx with z | z
    · exact ⟨⟨x, z, .stay _⟩, x, z, .stay _⟩
    · obtain ⟨st, hst, rfl⟩ := List.mem_map.mp z
      have v := run_via run st (List.dropLast_subset _ hst)
      exact ⟨⟨a, ha, ledRow v.1⟩, c, hc, ledRow v.2⟩
  refine ⟨?_, fun x hx => ?_, ?_, fun r hr hu => ?_, fun x hx y hy => ?_, fun st hst => ?_, ?_⟩
  · unfold leftF
    rw [R.st]
    have e := both_filter (fun n => decide (n ∉ row.map (·.1))) (E.filter fun r => decide (r.1 ∉ told.map (·.1)))
    rw [e, List.filter_filter]
    refine congrArg bothWays (List.filter_congr fun r _ => ?_)
    rw [List.map_append]
    exact nots _ _ _
  · rcases List.mem_append.mp hx with z | z
    · exact R.sub x z
    · obtain ⟨st, hst, rfl⟩ := List.mem_map.mp z
      exact (both_pc P (inBoth st (List.dropLast_subset _ hst))).2
  · intro z
    exact R.one (List.append_eq_nil_iff.mp z).1
  · rw [List.map_append] at hu
    rcases List.mem_append.mp hu with z | z
    · have y := R.used r hr z
      exact ⟨hadUp _ y.1, hadUp _ y.2⟩
    · obtain ⟨st, hst, e⟩ := List.mem_map.mp z
      have en := run_ends run st hst
      have s1 : st.2.1 ∈ moreF had row := by
        rcases en.1 with y | y
        · rw [y]
          exact hadUp _ ha
        · exact List.mem_append_right _ y
      have s2 : st.2.2 ∈ moreF had row := by
        rcases en.2 with y | y
        · rw [y]
          exact hadUp _ hc
        · exact List.mem_append_right _ y
      rcases both_nums P (inBoth st hst) (mem_both.mpr (.inl hr)) e with y | y
      · rw [y]
        exact ⟨s1, s2⟩
      · rw [y]
        exact ⟨s2, s1⟩
  · obtain ⟨_, h, hh, l1⟩ := near x hx
    obtain ⟨⟨h', hh', l2⟩, _⟩ := near y hy
    exact (l1.trans (ledUp (R.strong h hh h' hh'))).trans l2
  · rcases List.mem_append.mp hst with z | z
    · exact R.mem st z
    · exact inBoth st z
  · rw [List.map_append, List.nodup_append]
    refine ⟨R.nd, I.nd, fun x hx y hy e => ?_⟩
    obtain ⟨st, hst, ey⟩ := List.mem_map.mp hy
    have z := (rowsI_in P R st (I.mem st hst)).2
    rw [ey, ← e] at z
    exact z hx
theorem left_less {row : List TRow} (I : RowIs steps had row) : (leftF steps row).length < steps.length := by
  obtain ⟨st, hst⟩ := List.exists_mem_of_ne_nil _ I.ne
  have z := filter_less (l := steps) (f := fun st => decide (st.1 ∉ row.map (·.1))) (g := fun _ => true) (fun _ _ _ => rfl) ⟨st, I.mem st hst, rfl, decide_eq_false fun y => y (List.mem_map.mpr ⟨st, hst, rfl⟩)⟩
  have e : steps.filter (fun _ => true) = steps := List.filter_eq_self.mpr fun _ _ => rfl
  rw [e] at z
  exact z
/-- at the end -/
theorem rows_all (P : PieceI m E pc) (m16 : m ≤ 16) : ∀ {n : Nat} {steps : List TRow} {had : List Nat} {told : List TRow}, RowsI E pc steps had told → steps.length ≤ n → ∃ had', RowsI E pc [] had' (told ++ (rowsF n steps had).flatten)
  | 0, steps, had, told, R, h => by
    have e : steps = [] := List.length_eq_zero_iff.mp (Nat.le_zero.mp h)
    subst e
    refine ⟨had, ?_⟩
    show RowsI E pc [] had (told ++ [])
    rw [List.append_nil]
    exact R
  | n + 1, steps, had, told, R, h => by
    unfold rowsF
    by_cases e : steps.isEmpty = true
    · rw [if_pos e]
      have e := List.isEmpty_iff.mp e
      subst e
      refine ⟨had, ?_⟩
      show RowsI E pc [] had (told ++ [])
      rw [List.append_nil]
      exact R
    · rw [if_neg e]
      have ne : steps ≠ [] := fun z => e (List.isEmpty_iff.mpr z)
      obtain ⟨f, fs, k, ks, A⟩ := row_at P m16 R ne
      have I := row_is P m16 R A
      have z := rows_all P m16 (n := n) (row_next P R I) (by have := left_less I; omega)
      rw [List.flatten_cons, ← List.append_assoc]
      exact z
theorem rows_start (P : PieceI m E pc) {h : Nat} (hh : h ∈ pc) : RowsI E pc (bothWays E) [h] [] where
  st := by
    congr 1
    exact (List.filter_eq_self.mpr fun r _ => rfl).symm
  sub := fun x hx => by rw [List.mem_singleton.mp hx]; exact hh
  one := by simp
  used := fun r _ hu => absurd hu (by simp)
  strong := fun x hx y hy => by
    rw [List.mem_singleton.mp hx, List.mem_singleton.mp hy]
    exact .stay _
  mem := fun st hst => absurd hst List.not_mem_nil
  nd := List.nodup_nil
/-- when no step is left, each place of the piece is had, each street told -/
theorem rows_done (P : PieceI m E pc) {had' : List Nat} {T : List TRow} (R : RowsI E pc [] had' T) : (∀ r ∈ E, r.1 ∈ T.map (·.1)) ∧ ∀ x ∈ pc, ∀ y ∈ pc, Led (ends T) x y := by
  have all : ∀ r ∈ E, r.1 ∈ T.map (·.1) := fun r hr => by
    refine Classical.byContradiction fun no => ?_
    have z : r ∈ bothWays (E.filter fun r => decide (r.1 ∉ T.map (·.1))) := mem_both.mpr (.inl (List.mem_filter.mpr ⟨hr, decide_eq_true no⟩))
    rw [← R.st] at z
    exact absurd z List.not_mem_nil
  obtain ⟨h, hh⟩ := List.exists_mem_of_ne_nil _ R.one
  have full : ∀ x ∈ pc, x ∈ had' := fun x hx => (P.conn h (R.sub h hh) x hx).closed (S := fun q => q ∈ had') hh fun q hq => by
    obtain ⟨e, he, rfl⟩ := List.mem_map.mp hq
    have z := R.used e he (all e he)
    exact ⟨fun _ => z.2, fun _ => z.1⟩
  exact ⟨all, fun x hx y hy => R.strong x (full x hx) y (full y hy)⟩
end
end Own

set_option Elab.async false
set_option linter.all false
set_option maxRecDepth 100000
set_option maxHeartbeats 4000000
/-! Good ways: pure. -/
namespace Own
open L2
noncomputable def ledOf (m : Nat) (ws : Join) (p : Nat) : List Nat := (List.range m).filter fun q => @decide (Led ws p q) (Classical.propDecidable _)
theorem mem_led {m p q : Nat} {ws : Join} : q ∈ ledOf m ws p ↔ q < m ∧ Led ws p q := by
  unfold ledOf
  rw [List.mem_filter, List.mem_range]
  exact and_congr_right fun _ => @decide_eq_true_iff _ (Classical.propDecidable _)
theorem led_up {m p : Nat} {ws : Join} : (ledOf m ws p).Pairwise (· < ·) := (range_up m).filter _
theorem led_len {m p : Nat} {ws : Join} : (ledOf m ws p).length ≤ m := by
  have z := List.length_filter_le (fun q => @decide (Led ws p q) (Classical.propDecidable _)) (List.range m)
  rw [List.length_range] at z
  exact z
/-- all places are led to just if as many are -/
theorem led_all {m p : Nat} {ws : Join} : (ledOf m ws p).length = m ↔ ∀ q, q < m → Led ws p q := by
  constructor
  · intro h q hq
    have e : ledOf m ws p = List.range m := List.filter_eq_self.mpr (by
      refine List.length_filter_eq_length_iff.mp ?_
      rw [List.length_range]
      exact h)
    exact (mem_led.mp (e ▸ List.mem_range.mpr hq)).2
  · intro h
    have e : ledOf m ws p = List.range m := List.filter_eq_self.mpr fun q hq => (@decide_eq_true_iff _ (Classical.propDecidable _)).mpr (h q (List.mem_range.mp hq))
    rw [e, List.length_range]
/-- without the street its ends are apart -/
noncomputable def bridge (rows : List TRow) (r : TRow) : Bool := @decide (¬ Way (ends (rows.filter fun q => decide (q.1 ≠ r.1))) r.2.1 r.2.2) (Classical.propDecidable _)
noncomputable def piecesOf (m : Nat) (rows : List TRow) : List (List Nat) := partsOf m (ends (rows.filter fun q => decide (q ∉ rows.filter (bridge rows))))
noncomputable def goodB (m : Nat) (rows ways : List TRow) : Bool := decide (ways.map normR = rows.map normR) && (decide ((ledOf m (ends ways) 0).length = m) && decide ((ledOf m (ends (ways.map flipR)) 0).length = m))
/-! ### ways by which each step comes back are good ways -/
theorem led_of_way {ws : Join} {a b : Nat} (back : ∀ q ∈ ws, Led ws q.2 q.1) (w : Way ws a b) : Led ws a b := by
  induction w with
  | stay => exact .stay _
  | fwd _ e ih => exact .go ih e
  | bwd _ e ih => exact ih.trans (back _ e)
theorem way_of_led {ws : Join} {a b : Nat} (l : Led ws a b) : Way ws a b := by
  induction l with
  | stay => exact .stay _
  | go _ e ih => exact .fwd ih e
def swapJ (ws : Join) : Join := ws.map fun q => (q.2, q.1)
theorem led_swap {ws : Join} {a b : Nat} (l : Led ws a b) : Led (swapJ ws) b a := by
  induction l with
  | stay => exact .stay _
  | @go b c l e ih => exact (Led.go (.stay c) (List.mem_map.mpr ⟨(b, c), e, rfl⟩)).trans ih
theorem ends_flip (ws : List TRow) : ends (ws.map flipR) = swapJ (ends ws) := by
  unfold ends swapJ
  rw [List.map_map, List.map_map]
  rfl
/-- the same streets, whichever way -/
theorem way_norm {rows ws : List TRow} (e : ws.map normR = rows.map normR) {a b : Nat} (w : Way (ends rows) a b) : Way (ends ws) a b := by
  have key : ∀ q ∈ ends rows, (q.1, q.2) ∈ ends ws ∨ (q.2, q.1) ∈ ends ws := fun q hq => by
    obtain ⟨r, hr, rfl⟩ := List.mem_map.mp hq
    have mem : normR r ∈ ws.map normR := e ▸ List.mem_map.mpr ⟨r, hr, rfl⟩
    obtain ⟨y, hy, ey⟩ := List.mem_map.mp mem
    have e1 : min y.2.1 y.2.2 = min r.2.1 r.2.2 := congrArg (fun z : TRow => z.2.1) ey
    have e2 : max y.2.1 y.2.2 = max r.2.1 r.2.2 := congrArg (fun z : TRow => z.2.2) ey
    have cases2 : (y.2.1 = r.2.1 ∧ y.2.2 = r.2.2) ∨ (y.2.1 = r.2.2 ∧ y.2.2 = r.2.1) := by omega
    rcases cases2 with ⟨h1, h2⟩ | ⟨h1, h2⟩
    · exact .inl (List.mem_map.mpr ⟨y, hy, Prod.ext h1 h2⟩)
    · exact .inr (List.mem_map.mpr ⟨y, hy, Prod.ext h1 h2⟩)
  induction w with
  | stay => exact .stay _
  | fwd _ h ih =>
    rcases key _ h with k | k
    · exact .fwd ih k
    · exact .bwd ih k
  | bwd _ h ih =>
    rcases key _ h with k | k
    · exact .bwd ih k
    · exact .fwd ih k
/-- one part: each place is joined to the first -/
theorem one_part {m : Nat} {ps : Join} (h : (partsOf m ps).length = 1) (m1 : 1 ≤ m) {q : Nat} (hq : q < m) : Way ps 0 q := by
  obtain ⟨k, h1, h2, h3⟩ := least_of ps q
  have l0 : Least ps 0 := fun x hx => absurd hx (Nat.not_lt_zero x)
  have i0 : 0 ∈ heads m ps := mem_heads.mpr ⟨by omega, l0⟩
  have ik : k ∈ heads m ps := mem_heads.mpr ⟨by omega, h3⟩
  unfold partsOf at h
  rw [List.length_map] at h
  obtain ⟨x, hx⟩ := List.length_eq_one_iff.mp h
  rw [hx, List.mem_singleton] at i0 ik
  rw [i0, ← ik]
  exact h2
theorem good_of {m : Nat} {rows ws : List TRow} (e : ws.map normR = rows.map normR) (one : (partsOf m (ends rows)).length = 1) (m1 : 1 ≤ m) (back : ∀ q ∈ ends ws, Led (ends ws) q.2 q.1) : goodB m rows ws = true := by
  have all : ∀ q, q < m → Led (ends ws) 0 q := fun q hq => led_of_way back (way_norm e (one_part one m1 hq))
  have home : ∀ q, q < m → Led (ends ws) q 0 := fun q hq => led_of_way back (way_norm e (one_part one m1 hq)).symm
  have h2 : ∀ q, q < m → Led (ends (ws.map flipR)) 0 q := fun q hq => by
    rw [ends_flip]
    exact led_swap (home q hq)
  unfold goodB
  rw [decide_eq_true e, decide_eq_true (led_all.mpr all), decide_eq_true (led_all.mpr h2)]
  rfl
/-- and no others are: of good ways each step comes back -/
theorem back_of {m : Nat} {rows ws : List TRow} (h : goodB m rows ws = true) {a b : Nat} (ha : a < m) (hb : b < m) : Led (ends ws) a b := by
  unfold goodB at h
  rw [Bool.and_eq_true, Bool.and_eq_true] at h
  have l1 := led_all.mp (of_decide_eq_true h.2.1) b hb
  have l2 := led_all.mp (of_decide_eq_true h.2.2) a ha
  rw [ends_flip] at l2
  have l3 := led_swap l2
  have twice : swapJ (swapJ (ends ws)) = ends ws := by
    unfold swapJ
    rw [List.map_map]
    have e : ((fun q : Nat × Nat => (q.2, q.1)) ∘ fun q : Nat × Nat => (q.2, q.1)) = id := funext fun q => rfl
    rw [e, List.map_id]
  rw [twice] at l3
  exact l3.trans l1
noncomputable def canB (m : Nat) (rows : List TRow) : Bool := decide ((partsOf m (ends rows)).length = 1) && (rows.filter (bridge rows)).isEmpty
/-- what one_way tells where it can -/
structure Ways (fW : Nat → List TRow → List TRow) : Prop where
  good : ∀ m rows n, RowsOk m rows n → 1 ≤ m → m ≤ 16 → canB m rows = true → goodB m rows (fW m rows) = true
theorem norm_flip (ws : List TRow) : (ws.map flipR).map normR = ws.map normR := by
  rw [List.map_map]
  refine List.map_congr_left fun r _ => ?_
  show (r.1, min r.2.2 r.2.1, max r.2.2 r.2.1) = (r.1, min r.2.1 r.2.2, max r.2.1 r.2.2)
  rw [Nat.min_comm, Nat.max_comm]
theorem flip_flip (ws : List TRow) : (ws.map flipR).map flipR = ws := by
  rw [List.map_map]
  have e : (flipR ∘ flipR) = id := funext fun r => rfl
  rw [e, List.map_id]
theorem good_flip {m : Nat} {rows ws : List TRow} (h : goodB m rows ws = true) : goodB m rows (ws.map flipR) = true := by
  unfold goodB at h ⊢
  rw [norm_flip, flip_flip]
  rw [Bool.and_eq_true, Bool.and_eq_true] at h ⊢
  exact ⟨h.1, h.2.2, h.2.1⟩
theorem good_len {m : Nat} {rows ws : List TRow} (h : goodB m rows ws = true) : ws.length = rows.length := by
  unfold goodB at h
  rw [Bool.and_eq_true] at h
  have e := congrArg List.length (of_decide_eq_true h.1)
  rw [List.length_map, List.length_map] at e
  exact e
theorem good_in {m : Nat} {rows ws : List TRow} (h : goodB m rows ws = true) (inm : ∀ q ∈ ends rows, q.1 < m ∧ q.2 < m) : ∀ q ∈ ends ws, q.1 < m ∧ q.2 < m := fun q hq => by
  unfold goodB at h
  rw [Bool.and_eq_true] at h
  have e := of_decide_eq_true h.1
  obtain ⟨r, hr, rfl⟩ := List.mem_map.mp hq
  have mem : normR r ∈ rows.map normR := e ▸ List.mem_map.mpr ⟨r, hr, rfl⟩
  obtain ⟨y, hy, ey⟩ := List.mem_map.mp mem
  have b := inm _ (List.mem_map.mpr ⟨y, hy, rfl⟩)
  have e1 : min y.2.1 y.2.2 = min r.2.1 r.2.2 := congrArg (fun z : TRow => z.2.1) ey
  have e2 : max y.2.1 y.2.2 = max r.2.1 r.2.2 := congrArg (fun z : TRow => z.2.2) ey
  have b1 : y.2.1 < m := b.1
  have b2 : y.2.2 < m := b.2
  show r.2.1 < m ∧ r.2.2 < m
  constructor <;> omega
/-! ### streets that don't part -/
noncomputable def solid (rows : List TRow) : List TRow := rows.filter fun r => !bridge rows r
theorem bridge_true {rows : List TRow} {r : TRow} : bridge rows r = true ↔ ¬ Way (ends (rows.filter fun q => decide (q.1 ≠ r.1))) r.2.1 r.2.2 := by
  unfold bridge
  exact @decide_eq_true_iff _ (Classical.propDecidable _)
theorem bridge_false {rows : List TRow} {r : TRow} : bridge rows r = false ↔ Way (ends (rows.filter fun q => decide (q.1 ≠ r.1))) r.2.1 r.2.2 := by
  rw [← Bool.not_eq_true, bridge_true]
  exact Classical.not_not
def OneNum (rows : List TRow) : Prop := ∀ x ∈ rows, ∀ y ∈ rows, x.1 = y.1 → x = y
theorem rise_one {rows : List TRow} (h : rows.Pairwise fun a b => a.1 < b.1) : OneNum rows := by
  induction h with
  | nil => exact fun x hx => absurd hx List.not_mem_nil
  | @cons a l h1 _ ih =>
    intro x hx y hy e
    rcases List.mem_cons.mp hx with hx | hx <;> rcases List.mem_cons.mp hy with hy | hy
    · rw [hx, hy]
    · have := h1 y hy
      rw [hx] at e
      omega
    · have := h1 x hx
      rw [hy] at e
      omega
    · exact ih x hx y hy e
theorem solid_in {rows : List TRow} {r : TRow} : r ∈ solid rows ↔ r ∈ rows ∧ bridge rows r = false := by
  unfold solid
  rw [List.mem_filter]
  exact and_congr_right fun _ => by cases bridge rows r <;> simp
theorem solid_kept (rows : List TRow) (u : OneNum rows) : (rows.filter fun q => decide (q ∉ rows.filter (bridge rows))) = solid rows ∧ (rows.filter fun q => decide (q.1 ∉ (rows.filter (bridge rows)).map (·.1))) = solid rows := by
  have key : ∀ q ∈ rows, (decide (q ∉ rows.filter (bridge rows)) = !bridge rows q) ∧ (decide (q.1 ∉ (rows.filter (bridge rows)).map (·.1)) = !bridge rows q) := fun q hq => by
    cases h : bridge rows q with
    | true =>
      have z : q ∈ rows.filter (bridge rows) := List.mem_filter.mpr ⟨hq, h⟩
      exact ⟨decide_eq_false fun y => y z, decide_eq_false fun y => y (List.mem_map.mpr ⟨q, z, rfl⟩)⟩
    | false =>
      refine ⟨decide_eq_true fun y => ?_, decide_eq_true fun y => ?_⟩
      · have := (List.mem_filter.mp y).2
        rw [h] at this
        cases this
      · obtain ⟨x, hx, e⟩ := List.mem_map.mp y
        obtain ⟨x1, x2⟩ := List.mem_filter.mp hx
        rw [u x x1 q hq e, h] at x2
        cases x2
  exact ⟨List.filter_congr fun q hq => (key q hq).1, List.filter_congr fun q hq => (key q hq).2⟩
/-- a set of streets: those for which p holds -/
def Sub (rows : List TRow) (p : TRow → Prop) : Join → Prop := fun J => ∀ q, q ∈ J ↔ ∃ r ∈ rows, p r ∧ r.2 = q
theorem mem_ends_filter {rows : List TRow} {f : TRow → Bool} {q : Nat × Nat} : q ∈ ends (rows.filter f) ↔ ∃ r ∈ rows, f r = true ∧ r.2 = q := by
  unfold ends
  rw [List.mem_map]
  constructor
  · rintro ⟨r, hr, e⟩
    obtain ⟨h1, h2⟩ := List.mem_filter.mp hr
    exact ⟨r, h1, h2, e⟩
  · rintro ⟨r, h1, h2, e⟩
    exact ⟨r, List.mem_filter.mpr ⟨h1, h2⟩, e⟩
theorem way_sub {A B : Join} {a b : Nat} (w : Way A a b) (h : ∀ q ∈ A, q ∈ B) : Way B a b := w.mono h
/-- streets that part, taken away: what didn't part doesn't -/
theorem two_left {rows : List TRow} (u : OneNum rows) {r : TRow} (hr : r ∈ rows) (hb : bridge rows r = false) : ∀ bs : List TRow, (∀ b ∈ bs, b ∈ rows ∧ bridge rows b = true) → Way (ends (rows.filter fun q => decide (q.1 ∉ bs.map (·.1) ∧ q.1 ≠ r.1))) r.2.1 r.2.2
  | [], _ => by
    refine (bridge_false.mp hb).mono fun q hq => ?_
    obtain ⟨x, h1, h2, e⟩ := mem_ends_filter.mp hq
    exact mem_ends_filter.mpr ⟨x, h1, decide_eq_true ⟨List.not_mem_nil, of_decide_eq_true h2⟩, e⟩
  | b :: bs, hbs => by
    have ih := two_left u hr hb bs fun x hx => hbs x (List.mem_cons_of_mem _ hx)
    obtain ⟨hb1, hb2⟩ := hbs b (List.mem_cons_self ..)
    have rb : ∀ x : TRow, x ∈ rows → bridge rows x = true → r.1 ≠ x.1 := fun x hx h e => by
      rw [u r hr x hx e, h] at hb
      cases hb
    have rbs : r.1 ∉ bs.map (·.1) := fun y => by
      obtain ⟨x, hx, e⟩ := List.mem_map.mp y
      have z := hbs x (List.mem_cons_of_mem _ hx)
      exact rb x z.1 z.2 e.symm
    by_cases inb : b.1 ∈ bs.map (·.1)
    · refine ih.mono fun q hq => ?_
      obtain ⟨x, h1, h2, e⟩ := mem_ends_filter.mp hq
      have h2 := of_decide_eq_true h2
      refine mem_ends_filter.mpr ⟨x, h1, decide_eq_true ⟨fun y => ?_, h2.2⟩, e⟩
      rcases List.mem_cons.mp y with y | y
      · exact h2.1 (y ▸ inb)
      · exact h2.1 y
    · -- the streets behind, and b
      generalize hA : ends (rows.filter fun q => decide (q.1 ∉ (b :: bs).map (·.1) ∧ q.1 ≠ r.1)) = A
      have split : ∀ q ∈ ends (rows.filter fun q => decide (q.1 ∉ bs.map (·.1) ∧ q.1 ≠ r.1)), q ∈ A ++ [b.2] := fun q hq => by
        obtain ⟨x, h1, h2, e⟩ := mem_ends_filter.mp hq
        have h2 := of_decide_eq_true h2
        by_cases xb : x.1 = b.1
        · rw [u x h1 b hb1 xb] at e
          exact List.mem_append_right _ (List.mem_singleton.mpr e.symm)
        · refine List.mem_append_left _ ?_
          rw [← hA]
          refine mem_ends_filter.mpr ⟨x, h1, decide_eq_true ⟨fun y => ?_, h2.2⟩, e⟩
          rcases List.mem_cons.mp y with y | y
          · exact xb y
          · exact h2.1 y
      have upA : ∀ q ∈ A, q ∈ ends (rows.filter fun q => decide (q.1 ≠ b.1)) := fun q hq => by
        rw [← hA] at hq
        obtain ⟨x, h1, h2, e⟩ := mem_ends_filter.mp hq
        have h2 := of_decide_eq_true h2
        exact mem_ends_filter.mpr ⟨x, h1, decide_eq_true fun y => h2.1 (y ▸ List.mem_cons_self ..), e⟩
      have rIn : r.2 ∈ ends (rows.filter fun q => decide (q.1 ≠ b.1)) := mem_ends_filter.mpr ⟨r, hr, decide_eq_true (rb b hb1 hb2), rfl⟩
      have no := bridge_true.mp hb2
      have w := ih.mono split
      rcases way_snoc.mp w with h | ⟨h1, h2⟩ | ⟨h1, h2⟩
      · exact h
      · refine (no ?_).elim
        exact ((h1.mono upA).symm.trans (.fwd (.stay _) rIn)).trans (h2.mono upA).symm
      · refine (no ?_).elim
        exact ((h2.mono upA).trans (.bwd (.stay _) rIn)).trans (h1.mono upA)
theorem two_solid {rows : List TRow} (u : OneNum rows) {r : TRow} (h : r ∈ solid rows) : Way (ends ((solid rows).filter fun q => decide (q.1 ≠ r.1))) r.2.1 r.2.2 := by
  obtain ⟨hr, hb⟩ := solid_in.mp h
  have w := two_left u hr hb (rows.filter (bridge rows)) fun b hb => List.mem_filter.mp hb
  refine w.mono fun q hq => ?_
  obtain ⟨x, h1, h2, e⟩ := mem_ends_filter.mp hq
  have h2 := of_decide_eq_true h2
  refine mem_ends_filter.mpr ⟨x, ?_, decide_eq_true h2.2, e⟩
  rw [← (solid_kept rows u).2]
  exact List.mem_filter.mpr ⟨h1, decide_eq_true h2.1⟩
/-- a walk stays within -/
theorem way_within {G G' : List TRow} {S : Nat → Prop} {a b : Nat} (w : Way (ends G) a b) (ha : S a) (h : ∀ e ∈ G, S e.2.1 ∨ S e.2.2 → S e.2.1 ∧ S e.2.2 ∧ e ∈ G') : S b ∧ Way (ends G') a b := by
  induction w with
  | stay => exact ⟨ha, .stay _⟩
  | fwd _ e ih =>
    obtain ⟨s, w⟩ := ih
    obtain ⟨x, hx, ex⟩ := List.mem_map.mp e
    have e1 := congrArg Prod.fst ex
    have e2 := congrArg Prod.snd ex
    dsimp only at e1 e2
    obtain ⟨_, s2, x2⟩ := h x hx (.inl (by rw [e1]; exact s))
    exact ⟨e2 ▸ s2, .fwd w (List.mem_map.mpr ⟨x, x2, ex⟩)⟩
  | bwd _ e ih =>
    obtain ⟨s, w⟩ := ih
    obtain ⟨x, hx, ex⟩ := List.mem_map.mp e
    have e1 := congrArg Prod.fst ex
    have e2 := congrArg Prod.snd ex
    dsimp only at e1 e2
    obtain ⟨s1, _, x2⟩ := h x hx (.inr (by rw [e2]; exact s))
    exact ⟨e1 ▸ s1, .bwd w (List.mem_map.mpr ⟨x, x2, ex⟩)⟩
def pieceE (rows : List TRow) (pc : List Nat) : List TRow := rows.filter fun r => decide (r.2.1 ∈ pc)
theorem cls_ends {m h : Nat} {G : List TRow} (inm : ∀ q ∈ ends G, q.1 < m ∧ q.2 < m) {r : TRow} (hr : r ∈ G) : r.2.1 ∈ cls m (ends G) h ↔ r.2.2 ∈ cls m (ends G) h := by
  have e : r.2 ∈ ends G := List.mem_map.mpr ⟨r, hr, rfl⟩
  have b := inm _ e
  rw [mem_cls, mem_cls]
  exact ⟨fun z => ⟨b.2, .fwd z.2 e⟩, fun z => ⟨b.1, .bwd z.2 e⟩⟩
theorem piece_I {m : Nat} {rows : List TRow} (u : OneNum rows) (inm : ∀ q ∈ ends rows, q.1 < m ∧ q.2 < m) (h : Nat) : PieceI m (pieceE (solid rows) (cls m (ends (solid rows)) h)) (cls m (ends (solid rows)) h) := by
  have inS : ∀ q ∈ ends (solid rows), q.1 < m ∧ q.2 < m := fun q hq => by
    obtain ⟨x, hx, e⟩ := List.mem_map.mp hq
    exact inm q (List.mem_map.mpr ⟨x, (solid_in.mp hx).1, e⟩)
  have ce := fun {r : TRow} (hr : r ∈ solid rows) => cls_ends (h := h) inS hr
  have inE : ∀ {r : TRow}, r ∈ pieceE (solid rows) (cls m (ends (solid rows)) h) ↔ r ∈ solid rows ∧ r.2.1 ∈ cls m (ends (solid rows)) h := fun {r} => by
    unfold pieceE
    rw [List.mem_filter, decide_eq_true_iff]
  refine ⟨fun x hx => (mem_cls.mp hx).1, fun r hr => ?_, fun x hx y hy => ?_, fun r hr => ?_, fun x hx y hy e => ?_⟩
  · obtain ⟨h1, h2⟩ := inE.mp hr
    exact ⟨h2, (ce h1).mp h2⟩
  · have w := (mem_cls.mp hx).2.symm.trans (mem_cls.mp hy).2
    exact (way_within (S := fun q => q ∈ cls m (ends (solid rows)) h) w hx fun e he s => by
      have z : e.2.1 ∈ cls m (ends (solid rows)) h := s.elim id (ce he).mpr
      exact ⟨z, (ce he).mp z, inE.mpr ⟨he, z⟩⟩).2
  · obtain ⟨h1, h2⟩ := inE.mp hr
    exact (way_within (S := fun q => q ∈ cls m (ends (solid rows)) h) (two_solid u h1) h2 fun e he s => by
      obtain ⟨he1, he2⟩ := List.mem_filter.mp he
      have z : e.2.1 ∈ cls m (ends (solid rows)) h := s.elim id (ce he1).mpr
      exact ⟨z, (ce he1).mp z, List.mem_filter.mpr ⟨inE.mpr ⟨he1, z⟩, he2⟩⟩).2
  · exact u x (solid_in.mp (inE.mp hx).1).1 y (solid_in.mp (inE.mp hy).1).1 e
/-! ### what handles tells, what one_way tells -/
def pieceRows (rows : List TRow) (pc : List Nat) : List (List TRow) := rowsF (bothWays (pieceE rows pc)).length (bothWays (pieceE rows pc)) (pc.take 1)
noncomputable def handlesF (m : Nat) (rows : List TRow) : List (List TRow) := (piecesOf m rows).flatMap (pieceRows (solid rows))
noncomputable def fW (m : Nat) (rows : List TRow) : List TRow := rows.map fun r => if r ∈ (handlesF m rows).flatten then r else flipR r
theorem norm_fW (m : Nat) (rows : List TRow) : (fW m rows).map normR = rows.map normR := by
  unfold fW
  rw [List.map_map]
  refine List.map_congr_left fun r _ => ?_
  show normR (if r ∈ (handlesF m rows).flatten then r else flipR r) = normR r
  split
  · rfl
  · exact normR_flipR r
theorem pieces_eq (m : Nat) {rows : List TRow} (u : OneNum rows) : piecesOf m rows = (heads m (ends (solid rows))).map (cls m (ends (solid rows))) := by
  unfold piecesOf partsOf
  rw [(solid_kept rows u).1]
theorem cls_take {m h : Nat} {ps : Join} (hm : h < m) (l : Least ps h) : (cls m ps h).take 1 = [h] := by
  have hin : h ∈ cls m ps h := mem_cls.mpr ⟨hm, .stay _⟩
  have up : (cls m ps h).Pairwise (· < ·) := cls_up
  have least : ∀ x ∈ cls m ps h, h ≤ x := fun x hx => by
    refine Classical.byContradiction fun n => ?_
    exact l x (by omega) (mem_cls.mp hx).2.symm
  cases e : cls m ps h with
  | nil =>
    rw [e] at hin
    exact absurd hin List.not_mem_nil
  | cons y ys =>
    rw [e] at hin up least
    have y1 := least y (List.mem_cons_self ..)
    rcases List.mem_cons.mp hin with z | z
    · rw [z]
      rfl
    · have := (List.pairwise_cons.mp up).1 h z
      omega
/-- the rows of one piece, all told -/
theorem piece_done {m h : Nat} {rows : List TRow} (u : OneNum rows) (inm : ∀ q ∈ ends rows, q.1 < m ∧ q.2 < m) (m16 : m ≤ 16) (hm : h < m) (l : Least (ends (solid rows)) h) :
    ∃ had', RowsI (pieceE (solid rows) (cls m (ends (solid rows)) h)) (cls m (ends (solid rows)) h) [] had' (pieceRows (solid rows) (cls m (ends (solid rows)) h)).flatten := by
  have P := piece_I u inm h
  have s := rows_start P (mem_cls.mpr ⟨hm, .stay h⟩ : h ∈ cls m (ends (solid rows)) h)
  obtain ⟨had', R⟩ := rows_all P m16 s (Nat.le_refl _)
  unfold pieceRows
  rw [cls_take hm l]
  exact ⟨had', R⟩
/-- in a town that can be made one-way there is one piece, and all streets are in it -/
theorem can_facts {m : Nat} {rows : List TRow} (u : OneNum rows) (inm : ∀ q ∈ ends rows, q.1 < m ∧ q.2 < m) (m1 : 1 ≤ m) (can : canB m rows = true) :
    solid rows = rows ∧ heads m (ends rows) = [0] ∧ (∀ q, q < m → q ∈ cls m (ends rows) 0) ∧ pieceE rows (cls m (ends rows) 0) = rows ∧ (partsOf m (ends rows)).length = 1 := by
  unfold canB at can
  rw [Bool.and_eq_true] at can
  have one := of_decide_eq_true can.1
  have none := List.isEmpty_iff.mp can.2
  have sol : solid rows = rows := List.filter_eq_self.mpr fun r hr => by
    cases z : bridge rows r with
    | false => rfl
    | true => exact absurd z (List.filter_eq_nil_iff.mp none r hr)
  have all : ∀ q, q < m → q ∈ cls m (ends rows) 0 := fun q hq => mem_cls.mpr ⟨hq, one_part one m1 hq⟩
  have hd : heads m (ends rows) = [0] := by
    have i0 : 0 ∈ heads m (ends rows) := mem_heads.mpr ⟨by omega, fun x hx => absurd hx (Nat.not_lt_zero x)⟩
    have len : (heads m (ends rows)).length = 1 := by
      unfold partsOf at one
      rw [List.length_map] at one
      exact one
    obtain ⟨x, hx⟩ := List.length_eq_one_iff.mp len
    rw [hx, List.mem_singleton] at i0
    rw [hx, ← i0]
  exact ⟨sol, hd, all, List.filter_eq_self.mpr fun r hr => decide_eq_true (all _ (inm _ (List.mem_map.mpr ⟨r, hr, rfl⟩)).1), one⟩
theorem can_told {m : Nat} {rows : List TRow} (u : OneNum rows) (inm : ∀ q ∈ ends rows, q.1 < m ∧ q.2 < m) (m1 : 1 ≤ m) (m16 : m ≤ 16) (can : canB m rows = true) :
    ((∀ st ∈ (handlesF m rows).flatten, st ∈ bothWays rows) ∧ ((handlesF m rows).flatten.map (·.1)).Nodup ∧ (∀ r ∈ rows, r.1 ∈ (handlesF m rows).flatten.map (·.1)) ∧ ∀ x, x < m → ∀ y, y < m → Led (ends (handlesF m rows).flatten) x y) := by
  obtain ⟨sol, hd, all, pe, _⟩ := can_facts u inm m1 can
  have l0 : Least (ends (solid rows)) 0 := fun x hx => absurd hx (Nat.not_lt_zero x)
  obtain ⟨had', R⟩ := piece_done u inm m16 (h := 0) m1 l0
  have P := piece_I u inm 0
  have hF : (handlesF m rows).flatten = (pieceRows (solid rows) (cls m (ends (solid rows)) 0)).flatten := by
    unfold handlesF
    rw [pieces_eq m u, sol, hd]
    show (pieceRows rows (cls m (ends rows) 0) ++ []).flatten = _
    rw [List.append_nil]
  rw [hF]
  have D := rows_done P R
  rw [sol] at R D ⊢
  rw [pe] at R D
  exact ⟨R.mem, R.nd, D.1, fun x hx y hy => D.2 x (all x hx) y (all y hy)⟩
theorem mem_fW {m : Nat} {rows : List TRow} (u : OneNum rows) (inm : ∀ q ∈ ends rows, q.1 < m ∧ q.2 < m) (m1 : 1 ≤ m) (m16 : m ≤ 16) (can : canB m rows = true) {x : TRow} : x ∈ fW m rows ↔ x ∈ (handlesF m rows).flatten := by
  obtain ⟨h1, h2, h3, h4⟩ := can_told u inm m1 m16 can
  unfold fW
  rw [List.mem_map]
  generalize (handlesF m rows).flatten = T at *
  have oneT : ∀ a ∈ T, ∀ b ∈ T, a.1 = b.1 → a = b := by
    clear h1 h3 h4
    induction T with
    | nil => exact fun a ha => absurd ha List.not_mem_nil
    | cons t T ih =>
      rw [List.map_cons, List.nodup_cons] at h2
      intro a ha b hb e
      rcases List.mem_cons.mp ha with ha | ha <;> rcases List.mem_cons.mp hb with hb | hb
      · rw [ha, hb]
      · exact (h2.1 (List.mem_map.mpr ⟨b, hb, by rw [← e, ha]⟩)).elim
      · exact (h2.1 (List.mem_map.mpr ⟨a, ha, by rw [e, hb]⟩)).elim
      · exact ih h2.2 a ha b hb e
  constructor
  · rintro ⟨r, hr, e⟩
    by_cases ht : r ∈ T
    · rw [if_pos ht] at e
      exact e ▸ ht
    · rw [if_neg ht] at e
      obtain ⟨st, hst, es⟩ := List.mem_map.mp (h3 r hr)
      rcases mem_both.mp (h1 st hst) with z | z
      · exact (ht (u st z r hr es ▸ hst)).elim
      · have ef : flipR st = r := u _ z r hr es
        have e2 : flipR r = st := by rw [← ef]; rfl
        rw [← e, e2]
        exact hst
  · intro hx
    rcases mem_both.mp (h1 x hx) with z | z
    · exact ⟨x, z, if_pos hx⟩
    · refine ⟨flipR x, z, ?_⟩
      by_cases ht : flipR x ∈ T
      · rw [if_pos ht]
        exact oneT _ ht _ hx rfl
      · rw [if_neg ht]
        rfl
theorem ways_fW : Ways fW where
  good := fun m rows n R m1 m16 can => by
    have u := rise_one R.rise
    have inm : ∀ q ∈ ends rows, q.1 < m ∧ q.2 < m := fun q hq => by
      obtain ⟨r, hr, rfl⟩ := List.mem_map.mp hq
      have z := R.ends r hr
      exact ⟨z.1, z.2.1⟩
    have T := can_told u inm m1 m16 can
    have M := fun {x : TRow} => mem_fW (x := x) u inm m1 m16 can
    refine good_of (norm_fW m rows) (can_facts u inm m1 can).2.2.2.2 m1 fun q hq => ?_
    have up : ∀ q ∈ ends (handlesF m rows).flatten, q ∈ ends (fW m rows) := fun q hq => by
      obtain ⟨x, hx, e⟩ := List.mem_map.mp hq
      exact List.mem_map.mpr ⟨x, M.mpr hx, e⟩
    obtain ⟨x, hx, rfl⟩ := List.mem_map.mp hq
    have b : x.2.1 < m ∧ x.2.2 < m := both_in inm _ (List.mem_map.mpr ⟨x, T.1 x (M.mp hx), rfl⟩)
    exact (T.2.2.2 _ b.2 _ b.1).mono up
theorem fW_rise {m : Nat} {rows : List TRow} (h : rows.Pairwise fun a b => a.1 < b.1) : (fW m rows).Pairwise fun a b => a.1 < b.1 := by
  unfold fW
  rw [List.pairwise_map]
  refine h.imp fun {a b} ab => ?_
  have f : ∀ r : TRow, (if r ∈ (handlesF m rows).flatten then r else flipR r).1 = r.1 := fun r => by split <;> rfl
  rw [f, f]
  exact ab
/-- lists that rise by numbers and hold the same are one -/
theorem rise_uniq : ∀ {l1 l2 : List TRow}, l1.Pairwise (fun a b => a.1 < b.1) → l2.Pairwise (fun a b => a.1 < b.1) → (∀ x, x ∈ l1 ↔ x ∈ l2) → l1 = l2
  | [], [], _, _, _ => rfl
  | [], y :: _, _, _, h => absurd ((h y).mpr (List.mem_cons_self ..)) List.not_mem_nil
  | x :: _, [], _, _, h => absurd ((h x).mp (List.mem_cons_self ..)) List.not_mem_nil
  | x :: xs, y :: ys, p1, p2, h => by
    obtain ⟨a1, a2⟩ := List.pairwise_cons.mp p1
    obtain ⟨b1, b2⟩ := List.pairwise_cons.mp p2
    have e : x = y := by
      rcases List.mem_cons.mp ((h x).mp (List.mem_cons_self ..)) with z | z
      · exact z
      · rcases List.mem_cons.mp ((h y).mpr (List.mem_cons_self ..)) with w | w
        · exact w.symm
        · have h1 := b1 x z
          have h2 := a1 y w
          omega
    subst e
    rw [rise_uniq a2 b2 fun z => ?_]
    constructor
    · intro hz
      rcases List.mem_cons.mp ((h z).mp (List.mem_cons_of_mem _ hz)) with w | w
      · have := a1 z hz
        rw [w] at this
        omega
      · exact w
    · intro hz
      rcases List.mem_cons.mp ((h z).mpr (List.mem_cons_of_mem _ hz)) with w | w
      · have := b1 z hz
        rw [w] at this
        omega
      · exact w
end Own

/-! Cuts: how many streets lead from one side to the other. -/
set_option Elab.async false
set_option linter.all false
set_option maxRecDepth 100000
set_option maxHeartbeats 4000000
namespace Own
open L2
/-- the rows that lead across -/
def crs (b : Nat → Bool) (rows : List TRow) : List TRow := rows.filter fun r => b r.2.1 != b r.2.2
theorem mem_crs {b : Nat → Bool} {rows : List TRow} {r : TRow} : r ∈ crs b rows ↔ r ∈ rows ∧ b r.2.1 ≠ b r.2.2 := by
  unfold crs
  rw [List.mem_filter]
  simp
theorem crs_two (b d : Nat → Bool) : ∀ rows : List TRow, (crs (fun q => b q && d q) rows).length + (crs (fun q => b q && !d q) rows).length ≤ (crs b rows).length + 2 * (crs d rows).length
  | [] => Nat.le_refl _
  | r :: rows => by
    have ih := crs_two b d rows
    unfold crs at ih ⊢
    dsimp only at ih
    simp only [List.filter_cons]
    cases b r.2.1 <;> cases b r.2.2 <;> cases d r.2.1 <;> cases d r.2.2 <;> simp <;> omega
theorem nd_le {α : Type} [DecidableEq α] : ∀ {xs ys : List α}, xs.Nodup → (∀ x ∈ xs, x ∈ ys) → xs.length ≤ ys.length
  | [], _, _, _ => Nat.zero_le _
  | x :: xs, ys, nd, h => by
    obtain ⟨m1, m2⟩ := List.nodup_cons.mp nd
    have hx := h x (List.mem_cons_self ..)
    have z := nd_le (ys := ys.erase x) m2 fun y hy => (List.mem_erase_of_ne (fun e => m1 (by rw [← e]; exact hy))).mpr (h y (List.mem_cons_of_mem _ hy))
    rw [List.length_erase_of_mem hx] at z
    have : 0 < ys.length := List.length_pos_of_mem hx
    show xs.length + 1 ≤ ys.length
    omega
theorem rise_nd {rows : List TRow} (h : rows.Pairwise fun a b => a.1 < b.1) : rows.Nodup := h.imp fun {a b} ab e => by
  rw [e] at ab
  exact Nat.lt_irrefl _ ab
/-- the one side of a street that parts -/
noncomputable def sideB (rows : List TRow) (r : TRow) (q : Nat) : Bool := @decide (Way (ends (rows.filter fun x => decide (x.1 ≠ r.1))) r.2.1 q) (Classical.propDecidable _)
theorem sideB_true {rows : List TRow} {r : TRow} {q : Nat} : sideB rows r q = true ↔ Way (ends (rows.filter fun x => decide (x.1 ≠ r.1))) r.2.1 q := by
  unfold sideB
  exact @decide_eq_true_iff _ (Classical.propDecidable _)
theorem side_one {rows : List TRow} {r : TRow} : sideB rows r r.2.1 = true := sideB_true.mpr (.stay _)
theorem side_other {rows : List TRow} {r : TRow} (h : bridge rows r = true) : sideB rows r r.2.2 = false := by
  cases z : sideB rows r r.2.2 with
  | false => rfl
  | true => exact (bridge_true.mp h (sideB_true.mp z)).elim
theorem side_crs {rows : List TRow} {r : TRow} (u : OneNum rows) (hr : r ∈ rows) : ∀ x ∈ crs (sideB rows r) rows, x = r := fun x hx => by
  obtain ⟨h1, h2⟩ := mem_crs.mp hx
  refine Classical.byContradiction fun ne => h2 ?_
  have n1 : x.1 ≠ r.1 := fun z => ne (u x h1 r hr z)
  have hin : x.2 ∈ ends (rows.filter fun y => decide (y.1 ≠ r.1)) := List.mem_map.mpr ⟨x, List.mem_filter.mpr ⟨h1, decide_eq_true n1⟩, rfl⟩
  have w : Way (ends (rows.filter fun y => decide (y.1 ≠ r.1))) x.2.1 x.2.2 := .fwd (.stay _) hin
  have w2 : sideB rows r x.2.1 = true ↔ sideB rows r x.2.2 = true := ⟨fun h => sideB_true.mpr ((sideB_true.mp h).trans w), fun h => sideB_true.mpr ((sideB_true.mp h).trans w.symm)⟩
  cases e1 : sideB rows r x.2.1 <;> cases e2 : sideB rows r x.2.2
  · rfl
  · exact absurd (w2.mpr e2) (by rw [e1]; exact Bool.false_ne_true)
  · exact absurd (w2.mp e1) (by rw [e2]; exact Bool.false_ne_true)
  · rfl
theorem side_len {rows : List TRow} {r : TRow} (rise : rows.Pairwise fun a b => a.1 < b.1) (hr : r ∈ rows) : (crs (sideB rows r) rows).length ≤ 1 :=
  nd_le (ys := [r]) ((rise_nd rise).filter _) fun x hx => by
    rw [side_crs (rise_one rise) hr x hx]
    exact List.mem_cons_self ..
/-- a street that leads across alone is one that parts -/
theorem crs_bridge {b : Nat → Bool} {rows : List TRow} {r : TRow} (h : (crs b rows).length ≤ 1) (hr : r ∈ crs b rows) : bridge rows r = true := by
  refine bridge_true.mpr fun w => ?_
  obtain ⟨h1, h2⟩ := mem_crs.mp hr
  have one : ∀ x ∈ crs b rows, x = r := fun x hx => by
    match e : crs b rows, h, hr, hx with
    | [y], _, hr, hx => rw [List.mem_singleton.mp hr, List.mem_singleton.mp hx]
  have z : b r.2.2 = b r.2.1 := w.closed (S := fun q => b q = b r.2.1) rfl fun q hq => by
    obtain ⟨x, hx, e⟩ := List.mem_map.mp hq
    obtain ⟨x1, x2⟩ := List.mem_filter.mp hx
    have nx : x ∉ crs b rows := fun z => by
      rw [one x z] at x2
      exact of_decide_eq_true x2 rfl
    have ex : b x.2.1 = b x.2.2 := Classical.byContradiction fun ne => nx (mem_crs.mpr ⟨x1, ne⟩)
    rw [← e, ex]
  exact h2 z.symm
/-- how many of those that part lead out of a piece -/
noncomputable def leadO (m : Nat) (rows : List TRow) (h : Nat) : List TRow := (rows.filter (bridge rows)).filter fun r => decide (r.2.1 ∈ cls m (ends (solid rows)) h ∨ r.2.2 ∈ cls m (ends (solid rows)) h)
theorem solid_same {b : Nat → Bool} {rows : List TRow} (h : (crs b rows).length ≤ 1) {x y : Nat} (w : Way (ends (solid rows)) x y) : b y = b x := w.closed (S := fun q => b q = b x) rfl fun q hq => by
  obtain ⟨e, he, eq⟩ := List.mem_map.mp hq
  obtain ⟨e1, e2⟩ := solid_in.mp he
  have : b e.2.1 = b e.2.2 := Classical.byContradiction fun ne => by
    have z := crs_bridge h (mem_crs.mpr ⟨e1, ne⟩)
    rw [e2] at z
    cases z
  rw [← eq, this]
/-- on a side that one street at most leads out of lies a piece that one street at most leads out of -/
theorem want_in {m : Nat} {rows : List TRow} (rise : rows.Pairwise fun a b => a.1 < b.1) (inm : ∀ q ∈ ends rows, q.1 < m ∧ q.2 < m) : ∀ (n : Nat) (b : Nat → Bool), ((List.range m).filter b).length ≤ n → (crs b rows).length ≤ 1 → (∃ p, p < m ∧ b p = true) →
    ∃ h ∈ heads m (ends (solid rows)), b h = true ∧ (leadO m rows h).length ≤ 1
  | 0, b, hn, _, ⟨p, hp, bp⟩ => by
    have : p ∈ (List.range m).filter b := List.mem_filter.mpr ⟨List.mem_range.mpr hp, bp⟩
    have := List.length_pos_of_mem this
    omega
  | n + 1, b, hn, hc, ⟨p, hp, bp⟩ => by
    obtain ⟨h, h1, h2, h3⟩ := least_of (ends (solid rows)) p
    have hh : h ∈ heads m (ends (solid rows)) := mem_heads.mpr ⟨by omega, h3⟩
    have bh : b h = true := by rw [solid_same hc h2.symm, bp]
    by_cases le : (leadO m rows h).length ≤ 1
    · exact ⟨h, hh, bh, le⟩
    · have nd : (leadO m rows h).Nodup := ((rise_nd rise).filter _).filter _
      obtain ⟨r, hr, nr⟩ : ∃ r ∈ leadO m rows h, r ∉ crs b rows := Classical.byContradiction fun no => le (Nat.le_trans (nd_le nd fun x hx => Classical.byContradiction fun z => no ⟨x, hx, z⟩) hc)
      obtain ⟨r1, r2⟩ := List.mem_filter.mp hr
      obtain ⟨r3, r4⟩ := List.mem_filter.mp r1
      have r2 := of_decide_eq_true r2
      have same : b r.2.1 = b r.2.2 := Classical.byContradiction fun ne => nr (mem_crs.mpr ⟨r3, ne⟩)
      have inP : ∀ q, q ∈ cls m (ends (solid rows)) h → b q = true := fun q hq => by rw [solid_same hc (mem_cls.mp hq).2, bh]
      have b1 : b r.2.1 = true := by
        rcases r2 with z | z
        · exact inP _ z
        · rw [same]
          exact inP _ z
      have b2 : b r.2.2 = true := by rw [← same, b1]
      have b12 := inm r.2 (List.mem_map.mpr ⟨r, r3, rfl⟩)
      have d1 : sideB rows r r.2.1 = true := side_one
      have d2 := side_other r4
      have cd := side_len rise r3
      have two := crs_two b (sideB rows r) rows
      by_cases c1 : (crs (fun q => b q && sideB rows r q) rows).length ≤ 1
      · have less : ((List.range m).filter fun q => b q && sideB rows r q).length < ((List.range m).filter b).length := filter_less (fun x _ hx => by
          cases z : b x with
          | true => rfl
          | false =>
            rw [z] at hx
            cases hx) ⟨r.2.2, List.mem_range.mpr b12.2, b2, by rw [d2, Bool.and_false]⟩
        obtain ⟨k, k1, k2, k3⟩ := want_in rise inm n _ (by omega) c1 ⟨r.2.1, b12.1, by rw [b1, d1]; rfl⟩
        refine ⟨k, k1, ?_, k3⟩
        cases z : b k with
        | true => rfl
        | false =>
          rw [z] at k2
          cases k2
      · have less : ((List.range m).filter fun q => b q && !sideB rows r q).length < ((List.range m).filter b).length := filter_less (fun x _ hx => by
          cases z : b x with
          | true => rfl
          | false =>
            rw [z] at hx
            cases hx) ⟨r.2.1, List.mem_range.mpr b12.1, b1, by rw [d1]; simp⟩
        obtain ⟨k, k1, k2, k3⟩ := want_in rise inm n (fun q => b q && !sideB rows r q) (by omega) (by omega) ⟨r.2.2, b12.2, by rw [b2, d2]; rfl⟩
        refine ⟨k, k1, ?_, k3⟩
        cases z : b k with
        | true => rfl
        | false =>
          rw [z] at k2
          cases k2
end Own

/-! A walk in depth: which places it comes to, and how they lie on the sides of a cut. -/
set_option Elab.async false
set_option linter.all false
set_option maxRecDepth 100000
set_option maxHeartbeats 4000000
namespace Own
open L2
def nextF (steps : List TRow) (a : Nat) : List Nat := (steps.filter fun st => decide (st.2.1 = a)).map (·.2.2)
/-- told, and what waits (the top first) -/
def depthF (steps : List TRow) : Nat → List Nat → List Nat → List Nat
  | 0, told, _ => told
  | _ + 1, told, [] => told
  | n + 1, told, a :: s => if a ∈ told then depthF steps n told s else depthF steps n (told ++ [a]) ((nextF steps a).reverse ++ s)
def inDepthF (steps : List TRow) (p : Nat) : List Nat := depthF steps (steps.length + 1) [] [p]
/-- the steps that start where it has not been -/
def openF (steps : List TRow) (told : List Nat) : List TRow := steps.filter fun st => decide (st.2.1 ∉ told)
theorem open_snoc (told : List Nat) (a : Nat) (h : a ∉ told) : ∀ steps : List TRow, (openF steps (told ++ [a])).length + (nextF steps a).length = (openF steps told).length
  | [] => rfl
  | st :: steps => by
    have ih := open_snoc told a h steps
    unfold openF nextF at ih ⊢
    simp only [List.filter_cons, List.length_map] at ih ⊢
    by_cases e : st.2.1 = a
    · subst e
      simp [h]
      simp at ih
      omega
    · by_cases e2 : st.2.1 ∈ told <;> simp [e, e2] <;> simp at ih <;> omega
theorem mem_next {steps : List TRow} {a y : Nat} : y ∈ nextF steps a ↔ ∃ st ∈ steps, st.2.1 = a ∧ st.2.2 = y := by
  unfold nextF
  rw [List.mem_map]
  constructor
  · rintro ⟨st, h, e⟩
    obtain ⟨h1, h2⟩ := List.mem_filter.mp h
    exact ⟨st, h1, of_decide_eq_true h2, e⟩
  · rintro ⟨st, h1, h2, e⟩
    exact ⟨st, List.mem_filter.mpr ⟨h1, decide_eq_true h2⟩, e⟩
section
variable {steps : List TRow}
theorem depth_nd : ∀ (n : Nat) (told s : List Nat), told.Nodup → (depthF steps n told s).Nodup
  | 0, _, _, h => h
  | _ + 1, _, [], h => h
  | n + 1, told, a :: s, h => by
    unfold depthF
    by_cases e : a ∈ told
    · rw [if_pos e]
      exact depth_nd n _ _ h
    · rw [if_neg e]
      refine depth_nd n _ _ ?_
      rw [List.nodup_append]
      exact ⟨h, List.nodup_cons.mpr ⟨List.not_mem_nil, List.nodup_nil⟩, fun x hx y hy z => e (by rw [← List.mem_singleton.mp hy, ← z]; exact hx)⟩
/-- all that are told are come to; none is left over -/
theorem depth_in (p : Nat) : ∀ (n : Nat) (told s : List Nat), (∀ x ∈ told, Led (ends steps) p x) → (∀ x ∈ s, Led (ends steps) p x) → ∀ x ∈ depthF steps n told s, Led (ends steps) p x
  | 0, _, _, h, _ => h
  | _ + 1, _, [], h, _ => h
  | n + 1, told, a :: s, h, hs => by
    unfold depthF
    by_cases e : a ∈ told
    · rw [if_pos e]
      exact depth_in p n _ _ h fun x hx => hs x (List.mem_cons_of_mem _ hx)
    · rw [if_neg e]
      have ha := hs a (List.mem_cons_self ..)
      refine depth_in p n _ _ (fun x hx => ?_) fun x hx => ?_
      · rcases List.mem_append.mp hx with z | z
        · exact h x z
        · rw [List.mem_singleton.mp z]
          exact ha
      · rcases List.mem_append.mp hx with z | z
        · obtain ⟨st, h1, h2, h3⟩ := mem_next.mp (List.mem_reverse.mp z)
          rw [← h3]
          refine ha.trans ?_
          have : st.2 ∈ ends steps := List.mem_map.mpr ⟨st, h1, rfl⟩
          rw [← h2]
          exact .go (.stay _) this
        · exact hs x (List.mem_cons_of_mem _ z)
theorem depth_all : ∀ (n : Nat) (told s : List Nat), s.length + (openF steps told).length ≤ n → (∀ x ∈ told, ∀ y ∈ nextF steps x, y ∈ told ∨ y ∈ s) →
    (∀ x ∈ told, x ∈ depthF steps n told s) ∧ (∀ x ∈ s, x ∈ depthF steps n told s) ∧ ∀ x ∈ depthF steps n told s, ∀ y ∈ nextF steps x, y ∈ depthF steps n told s
  | n, told, [], _, cl => by
    have e : depthF steps n told [] = told := by cases n <;> rfl
    rw [e]
    exact ⟨fun x h => h, fun x h => absurd h List.not_mem_nil, fun x hx y hy => (cl x hx y hy).resolve_right List.not_mem_nil⟩
  | 0, told, a :: s, h, _ => by
    have : (a :: s).length = s.length + 1 := rfl
    omega
  | n + 1, told, a :: s, h, cl => by
    have l1 : (a :: s).length = s.length + 1 := rfl
    unfold depthF
    by_cases e : a ∈ told
    · rw [if_pos e]
      obtain ⟨k1, k2, k3⟩ := depth_all n told s (by omega) fun x hx y hy => by
        rcases cl x hx y hy with z | z
        · exact .inl z
        · rcases List.mem_cons.mp z with z | z
          · rw [z]
            exact .inl e
          · exact .inr z
      exact ⟨k1, fun x hx => by
        rcases List.mem_cons.mp hx with z | z
        · rw [z]
          exact k1 a e
        · exact k2 x z, k3⟩
    · rw [if_neg e]
      have o := open_snoc told a e steps
      obtain ⟨k1, k2, k3⟩ := depth_all n (told ++ [a]) ((nextF steps a).reverse ++ s) (by rw [List.length_append, List.length_reverse]; omega) fun x hx y hy => by
        rcases List.mem_append.mp hx with z | z
        · rcases cl x z y hy with z | z
          · exact .inl (List.mem_append_left _ z)
          · rcases List.mem_cons.mp z with z | z
            · exact .inl (List.mem_append_right _ (by rw [z]; exact List.mem_cons_self ..))
            · exact .inr (List.mem_append_right _ z)
        · rw [List.mem_singleton.mp z] at hy
          exact .inr (List.mem_append_left _ (List.mem_reverse.mpr hy))
      exact ⟨fun x hx => k1 x (List.mem_append_left _ hx), fun x hx => by
        rcases List.mem_cons.mp hx with z | z
        · rw [z]
          exact k1 a (List.mem_append_right _ (List.mem_cons_self ..))
        · exact k2 x (List.mem_append_right _ z), k3⟩
theorem in_depth (p : Nat) : (inDepthF steps p).Nodup ∧ ∀ x, x ∈ inDepthF steps p ↔ Led (ends steps) p x := by
  have fuel : ([p] : List Nat).length + (openF steps []).length ≤ steps.length + 1 := by
    have := List.length_filter_le (fun st : TRow => decide (st.2.1 ∉ ([] : List Nat))) steps
    unfold openF
    show 1 + _ ≤ _
    omega
  obtain ⟨_, k2, k3⟩ := depth_all (steps := steps) (steps.length + 1) [] [p] fuel fun x hx => absurd hx List.not_mem_nil
  refine ⟨depth_nd _ _ _ List.nodup_nil, fun x => ⟨fun h => depth_in p _ _ _ (fun x hx => absurd hx List.not_mem_nil) (fun x hx => by rw [List.mem_singleton.mp hx]; exact .stay _) x h, fun h => ?_⟩⟩
  exact h.closed (S := fun q => q ∈ inDepthF steps p) (k2 p (List.mem_cons_self ..)) fun q hq h1 => by
    obtain ⟨st, hst, e⟩ := List.mem_map.mp hq
    exact k3 _ h1 _ (mem_next.mpr ⟨st, hst, by rw [e], by rw [e]⟩)
/-! ### the sides of a cut -/
/-- on the one side, then on the other, then on the one -/
def Three (b : Nat → Bool) (c : Bool) (L : List Nat) : Prop := ∃ A B C, L = A ++ B ++ C ∧ (∀ x ∈ A, b x = c) ∧ (∀ x ∈ B, b x = !c) ∧ ∀ x ∈ C, b x = c
variable {b : Nat → Bool} {c : Bool}
/-- behind the other side -/
theorem three_3 : ∀ (n : Nat) (A B C s : List Nat), (∀ x ∈ A, b x = c) → (∀ x ∈ B, b x = !c) → (∀ x ∈ C, b x = c) → (∀ x ∈ s, b x = c ∨ x ∈ A ++ B ++ C) → (∀ st ∈ steps, b st.2.1 = c → b st.2.2 = (!c) → st.2.1 ∈ A ++ B ++ C) →
    Three b c (depthF steps n (A ++ B ++ C) s)
  | 0, A, B, C, _, hA, hB, hC, _, _ => ⟨A, B, C, rfl, hA, hB, hC⟩
  | _ + 1, A, B, C, [], hA, hB, hC, _, _ => ⟨A, B, C, rfl, hA, hB, hC⟩
  | n + 1, A, B, C, a :: s, hA, hB, hC, hs, cr => by
    unfold depthF
    by_cases e : a ∈ A ++ B ++ C
    · rw [if_pos e]
      exact three_3 n A B C s hA hB hC (fun x hx => hs x (List.mem_cons_of_mem _ hx)) cr
    · rw [if_neg e]
      have ba : b a = c := (hs a (List.mem_cons_self ..)).resolve_right e
      rw [List.append_assoc (A ++ B) C [a]]
      have up : ∀ x, x ∈ A ++ B ++ C → x ∈ A ++ B ++ (C ++ [a]) := fun x hx => by
        rw [← List.append_assoc]
        exact List.mem_append_left _ hx
      refine three_3 n A B (C ++ [a]) _ hA hB (fun x hx => ?_) (fun x hx => ?_) fun st h1 h2 h3 => up _ (cr st h1 h2 h3)
      · rcases List.mem_append.mp hx with z | z
        · exact hC x z
        · rw [List.mem_singleton.mp z, ba]
      · rcases List.mem_append.mp hx with z | z
        · obtain ⟨st, h1, h2, h3⟩ := mem_next.mp (List.mem_reverse.mp z)
          refine .inl (Classical.byContradiction fun ne => e ?_)
          have b2 : b st.2.2 = !c := by
            rw [h3]
            cases q : b x <;> cases c <;> simp_all
          rw [← h2]
          exact cr st h1 (by rw [h2, ba]) b2
        · rcases hs x (List.mem_cons_of_mem _ z) with y | y
          · exact .inl y
          · exact .inr (up x y)
/-- on the other side -/
theorem three_2 (back : ∀ st ∈ steps, flipR st ∈ steps) : ∀ (n : Nat) (A B Y X : List Nat), (∀ x ∈ A, b x = c) → (∀ x ∈ B, b x = !c) → (∀ x ∈ Y, b x = (!c) ∨ x ∈ A ++ B) → (∀ x ∈ X, b x = c) → (∀ st ∈ steps, b st.2.1 = c → b st.2.2 = (!c) → st.2.1 ∈ A ++ B) →
    Three b c (depthF steps n (A ++ B) (Y ++ X))
  | 0, A, B, _, _, hA, hB, _, _, _ => ⟨A, B, [], by rw [List.append_nil]; rfl, hA, hB, fun x hx => absurd hx List.not_mem_nil⟩
  | n + 1, A, B, [], X, hA, hB, _, hX, cr => by
    have z := three_3 (steps := steps) (n + 1) A B [] X hA hB (fun x hx => absurd hx List.not_mem_nil) (fun x hx => .inl (hX x hx)) (by rw [List.append_nil]; exact cr)
    rw [List.append_nil] at z
    exact z
  | n + 1, A, B, a :: Y, X, hA, hB, hY, hX, cr => by
    show Three b c (if a ∈ A ++ B then depthF steps n (A ++ B) (Y ++ X) else depthF steps n (A ++ B ++ [a]) ((nextF steps a).reverse ++ (Y ++ X)))
    by_cases e : a ∈ A ++ B
    · rw [if_pos e]
      exact three_2 back n A B Y X hA hB (fun x hx => hY x (List.mem_cons_of_mem _ hx)) hX cr
    · rw [if_neg e, List.append_assoc A B [a], ← List.append_assoc _ Y X]
      have ba : b a = !c := (hY a (List.mem_cons_self ..)).resolve_right e
      have up : ∀ x, x ∈ A ++ B → x ∈ A ++ (B ++ [a]) := fun x hx => by
        rw [← List.append_assoc]
        exact List.mem_append_left _ hx
      refine three_2 back n A (B ++ [a]) _ X hA (fun x hx => ?_) (fun x hx => ?_) hX fun st h1 h2 h3 => up _ (cr st h1 h2 h3)
      · rcases List.mem_append.mp hx with z | z
        · exact hB x z
        · rw [List.mem_singleton.mp z, ba]
      · rcases List.mem_append.mp hx with z | z
        · obtain ⟨st, h1, h2, h3⟩ := mem_next.mp (List.mem_reverse.mp z)
          by_cases q : b x = c
          · refine .inr (up _ ?_)
            have y := cr (flipR st) (back st h1) (by show b st.2.2 = c; rw [h3, q]) (by show b st.2.1 = !c; rw [h2, ba])
            have : (flipR st).2.1 = x := h3
            rw [← this]
            exact y
          · refine .inl ?_
            cases q2 : b x <;> cases c <;> simp_all
        · rcases hY x (List.mem_cons_of_mem _ z) with y | y
          · exact .inl y
          · exact .inr (up x y)
/-- how many lead to the other side and are still ahead -/
def ahead (steps : List TRow) (b : Nat → Bool) (c : Bool) (told s : List Nat) : Nat := (s.filter fun x => decide (b x = !c)).length + ((openF steps told).filter fun st => decide (b st.2.1 = c) && decide (b st.2.2 = !c)).length
theorem ahead_snoc (told : List Nat) (a : Nat) (h : a ∉ told) (ba : b a = c) : ∀ steps : List TRow,
    ((openF steps (told ++ [a])).filter fun st => decide (b st.2.1 = c) && decide (b st.2.2 = !c)).length + ((nextF steps a).filter fun x => decide (b x = !c)).length = ((openF steps told).filter fun st => decide (b st.2.1 = c) && decide (b st.2.2 = !c)).length
  | [] => rfl
  | st :: steps => by
    have ih := ahead_snoc told a h ba steps
    unfold openF nextF at ih ⊢
    simp only [List.filter_cons] at ih ⊢
    by_cases e : st.2.1 = a
    · subst e
      by_cases e3 : b st.2.2 = !c
      · simp [h, ba, e3]
        simp at ih
        omega
      · simp [h, ba, e3]
        simp at ih
        omega
    · by_cases e2 : st.2.1 ∈ told
      · simp [e, e2]
        simp at ih
        omega
      · by_cases e3 : b st.2.1 = c
        · by_cases e4 : b st.2.2 = !c <;> simp [e, e2, e3, e4] <;> simp at ih <;> omega
        · simp [e, e2, e3]
          simp at ih
          omega
theorem three_1 (back : ∀ st ∈ steps, flipR st ∈ steps) : ∀ (n : Nat) (told s : List Nat), (∀ x ∈ told, b x = c) → ahead steps b c told s ≤ 1 → Three b c (depthF steps n told s)
  | 0, told, _, h, _ => ⟨told, [], [], by simp [depthF], h, fun x hx => absurd hx List.not_mem_nil, fun x hx => absurd hx List.not_mem_nil⟩
  | _ + 1, told, [], h, _ => ⟨told, [], [], by simp [depthF], h, fun x hx => absurd hx List.not_mem_nil, fun x hx => absurd hx List.not_mem_nil⟩
  | n + 1, told, a :: s, h, hp => by
    unfold depthF
    unfold ahead at hp
    rw [List.filter_cons] at hp
    by_cases e : a ∈ told
    · rw [if_pos e]
      refine three_1 back n told s h ?_
      unfold ahead
      split at hp
      · rw [List.length_cons] at hp
        omega
      · exact hp
    · rw [if_neg e]
      by_cases ba : b a = c
      · have nn : ¬ (decide (b a = !c)) = true := by
          rw [ba]
          cases c <;> decide
        rw [if_neg nn] at hp
        have z := ahead_snoc told a e ba steps
        refine three_1 back n (told ++ [a]) _ (fun x hx => ?_) ?_
        · rcases List.mem_append.mp hx with y | y
          · exact h x y
          · rw [List.mem_singleton.mp y, ba]
        · unfold ahead
          rw [List.filter_append, List.length_append, List.filter_reverse, List.length_reverse]
          omega
      · have ba2 : b a = !c := by cases q : b a <;> cases c <;> simp_all
        rw [if_pos (decide_eq_true ba2), List.length_cons] at hp
        have z1 : (s.filter fun x => decide (b x = !c)) = [] := List.length_eq_zero_iff.mp (by omega)
        have z2 : ((openF steps told).filter fun st => decide (b st.2.1 = c) && decide (b st.2.2 = !c)) = [] := List.length_eq_zero_iff.mp (by omega)
        have cr : ∀ st ∈ steps, b st.2.1 = c → b st.2.2 = (!c) → st.2.1 ∈ told := fun st h1 h2 h3 => Classical.byContradiction fun q => by
          have : st ∈ (openF steps told).filter fun st => decide (b st.2.1 = c) && decide (b st.2.2 = !c) := List.mem_filter.mpr ⟨List.mem_filter.mpr ⟨h1, decide_eq_true q⟩, by simp [h2, h3]⟩
          rw [z2] at this
          exact absurd this List.not_mem_nil
        refine three_2 back n told [a] (nextF steps a).reverse s h (fun x hx => by rw [List.mem_singleton.mp hx, ba2]) (fun x hx => ?_) (fun x hx => ?_) fun st h1 h2 h3 => List.mem_append_left _ (cr st h1 h2 h3)
        · obtain ⟨st, h1, h2, h3⟩ := mem_next.mp (List.mem_reverse.mp hx)
          by_cases q : b x = c
          · refine .inr (List.mem_append_left _ ?_)
            have y := cr (flipR st) (back st h1) (by show b st.2.2 = c; rw [h3, q]) (by show b st.2.1 = !c; rw [h2, ba2])
            have : (flipR st).2.1 = x := h3
            rw [← this]
            exact y
          · refine .inl ?_
            cases q2 : b x <;> cases c <;> simp_all
        · have nx : x ∉ s.filter fun x => decide (b x = !c) := by rw [z1]; exact List.not_mem_nil
          cases q : b x <;> cases c <;> simp_all
end
/-- a walk in depth along the streets meets the far side of a cut that one street leads across in one go -/
theorem depth_three {rows : List TRow} {b : Nat → Bool} (p : Nat) (h : (crs b rows).length ≤ 1) : Three b (b p) (inDepthF (bothWays rows) p) := by
  refine three_1 (fun st hst => both_flip hst) _ [] [p] (fun x hx => absurd hx List.not_mem_nil) ?_
  have key : ∀ rows : List TRow, ((openF (bothWays rows) []).filter fun st => decide (b st.2.1 = b p) && decide (b st.2.2 = !b p)).length = (crs b rows).length := fun rows => by
    induction rows with
    | nil => rfl
    | cons r rows ih =>
      rw [both_cons]
      unfold openF crs at ih ⊢
      simp only [List.filter_cons]
      cases e1 : b r.2.1 <;> cases e2 : b r.2.2 <;> cases e3 : b p <;> simp [flipR, e1, e2] <;> simp [e3] at ih <;> first | exact ih | omega
  unfold ahead
  rw [key]
  have : ([p].filter fun x => decide (b x = !b p)).length = 0 := by
    rw [List.filter_cons, if_neg (by cases b p <;> decide)]
    rfl
  omega
end Own

/-! The parts chained, the rest paired half a circle on: every cut is crossed twice. -/
set_option Elab.async false
set_option linter.all false
set_option maxRecDepth 100000
set_option maxHeartbeats 4000000
namespace Own
open L2
def stepC (S : Join × List Nat) (wt : List Nat) : Join × List Nat := if S.2 = [] then (S.1, wt) else (S.1 ++ [(S.2.getLast?.getD 0, wt.head?.getD 0)], S.2.dropLast ++ wt.tail)
def halfF (free : List Nat) : Join := List.zip free (free.drop (free.length / 2))
def chainF (ws : List (List Nat)) : Join × List Nat := ws.foldl stepC ([], [])
def fewF (ws : List (List Nat)) : Join := (chainF ws).1 ++ halfF (chainF ws).2
/-- the pairs that lead across -/
def crp (b : Nat → Bool) (J : Join) : Join := J.filter fun q => b q.1 != b q.2
theorem crp_app (b : Nat → Bool) (I J : Join) : crp b (I ++ J) = crp b I ++ crp b J := List.filter_append ..
def nonc (b : Nat → Bool) (wt : List Nat) : Bool := wt.any b && wt.any fun x => !b x
section
variable {b : Nat → Bool} {c : Bool}
theorem nonc_false {wt : List Nat} (h : nonc b wt = false) : ∀ x ∈ wt, ∀ y ∈ wt, b x = b y := fun x hx y hy => by
  unfold nonc at h
  rw [Bool.and_eq_false_iff] at h
  rcases h with z | z
  · rw [List.any_eq_false] at z
    have zx := z x hx
    have zy := z y hy
    cases e1 : b x <;> cases e2 : b y <;> simp_all
  · rw [List.any_eq_false] at z
    have zx := z x hx
    have zy := z y hy
    cases e1 : b x <;> cases e2 : b y <;> simp_all
theorem nonc_true {wt : List Nat} (h : nonc b wt = true) (v : Bool) : ∃ x ∈ wt, b x = v := by
  unfold nonc at h
  rw [Bool.and_eq_true, List.any_eq_true, List.any_eq_true] at h
  obtain ⟨⟨x, hx, ex⟩, y, hy, ey⟩ := h
  cases v with
  | true => exact ⟨x, hx, ex⟩
  | false => exact ⟨y, hy, by simpa using ey⟩
theorem bne {x c : Bool} (h : x ≠ c) : x = !c := by cases x <;> cases c <;> simp_all
theorem three_rev {L : List Nat} (h : Three b c L) : Three b c L.reverse := by
  obtain ⟨A, B, C, e, hA, hB, hC⟩ := h
  exact ⟨C.reverse, B.reverse, A.reverse, by rw [e]; simp [List.append_assoc], fun x hx => hC x (List.mem_reverse.mp hx), fun x hx => hB x (List.mem_reverse.mp hx), fun x hx => hA x (List.mem_reverse.mp hx)⟩
theorem three_head {y : Nat} {T F : List Nat} (h : Three b c (y :: T)) (hF : ∀ x ∈ F, b x = b y) : Three b (b y) (F ++ T) := by
  obtain ⟨A, B, C, e, hA, hB, hC⟩ := h
  cases A with
  | cons a A =>
    rw [List.cons_append, List.cons_append] at e
    obtain ⟨e1, e2⟩ := List.cons.inj e
    subst e1
    have ec : b y = c := hA y (List.mem_cons_self ..)
    refine ⟨F ++ A, B, C, by rw [e2]; simp [List.append_assoc], fun x hx => ?_, fun x hx => by rw [ec]; exact hB x hx, fun x hx => by rw [ec]; exact hC x hx⟩
    rcases List.mem_append.mp hx with z | z
    · exact hF x z
    · rw [ec]
      exact hA x (List.mem_cons_of_mem _ z)
  | nil =>
    cases B with
    | cons a B =>
      rw [List.nil_append, List.cons_append] at e
      obtain ⟨e1, e2⟩ := List.cons.inj e
      subst e1
      have ec : b y = !c := hB y (List.mem_cons_self ..)
      refine ⟨F ++ B, C, [], by rw [e2]; simp [List.append_assoc], fun x hx => ?_, fun x hx => by rw [ec, hC x hx, Bool.not_not], fun x hx => absurd hx List.not_mem_nil⟩
      rcases List.mem_append.mp hx with z | z
      · exact hF x z
      · rw [ec]
        exact hB x (List.mem_cons_of_mem _ z)
    | nil =>
      rw [List.nil_append, List.nil_append] at e
      have ec : b y = c := hC y (by rw [← e]; exact List.mem_cons_self ..)
      refine ⟨F ++ T, [], [], by simp, fun x hx => ?_, fun x hx => absurd hx List.not_mem_nil, fun x hx => absurd hx List.not_mem_nil⟩
      rcases List.mem_append.mp hx with z | z
      · exact hF x z
      · rw [ec]
        exact hC x (by rw [← e]; exact List.mem_cons_of_mem _ z)
theorem three_last {x : Nat} {F T : List Nat} (h : Three b c (F ++ [x])) (hT : ∀ y ∈ T, b y = b x) : Three b (b x) (F ++ T) := by
  have z := three_rev h
  rw [List.reverse_append] at z
  have y := three_rev (three_head (y := x) (T := F.reverse) (F := T.reverse) z fun q hq => hT q (List.mem_reverse.mp hq))
  rw [List.reverse_append, List.reverse_reverse, List.reverse_reverse] at y
  exact y
/-- where one is on the one side, where on the other -/
structure StepInv (b : Nat → Bool) (dn : List (List Nat)) (S : Join × List Nat) : Prop where
  two : 2 ≤ S.2.length
  way : (∃ c, (∀ x ∈ dn.flatten, b x = c) ∧ (∀ x ∈ S.2, b x = c) ∧ crp b S.1 = [] ∧ dn.filter (nonc b) = []) ∨ ((∃ x ∈ S.2, b x = true) ∧ (∃ x ∈ S.2, b x = false) ∧ (∃ c, Three b c S.2) ∧ (dn.filter (nonc b)).length + (crp b S.1).length = 1)
theorem step_pre (S : Join × List Nat) (wt : List Nat) : ∃ I, (stepC S wt).1 = S.1 ++ I := by
  unfold stepC
  split
  · exact ⟨[], by rw [List.append_nil]⟩
  · exact ⟨_, rfl⟩
theorem fold_pre : ∀ (ws : List (List Nat)) (S : Join × List Nat), ∃ I, (ws.foldl stepC S).1 = S.1 ++ I
  | [], S => ⟨[], by rw [List.append_nil]; rfl⟩
  | wt :: ws, S => by
    obtain ⟨I, hI⟩ := step_pre S wt
    obtain ⟨J, hJ⟩ := fold_pre ws (stepC S wt)
    exact ⟨I ++ J, by rw [List.foldl_cons, hJ, hI, List.append_assoc]⟩
theorem step_inv {dn : List (List Nat)} {S : Join × List Nat} {wt : List Nat} (I : StepInv b dn S) (l2 : 2 ≤ wt.length) (h3 : ∃ c, Three b c wt) (ev : ((dn ++ [wt]).filter (nonc b)).length + (crp b (stepC S wt).1).length ≤ 1) : StepInv b (dn ++ [wt]) (stepC S wt) := by
  obtain ⟨two, way⟩ := I
  have ne : S.2 ≠ [] := fun z => by
    rw [z] at two
    exact absurd two (by decide)
  obtain ⟨F, x, eS⟩ : ∃ F x, S.2 = F ++ [x] := ⟨S.2.dropLast, S.2.getLast ne, (List.dropLast_concat_getLast ne).symm⟩
  obtain ⟨y, T, eW⟩ : ∃ y T, wt = y :: T := by
    cases wt with
    | nil => exact absurd l2 (by decide)
    | cons y T => exact ⟨y, T, rfl⟩
  have est : stepC S wt = (S.1 ++ [(x, y)], F ++ T) := by
    unfold stepC
    rw [if_neg ne, eS, eW]
    simp
  have lF : 1 ≤ F.length := by
    rw [eS, List.length_append] at two
    have : [x].length = 1 := rfl
    omega
  have lT : 1 ≤ T.length := by
    rw [eW] at l2
    have : (y :: T).length = T.length + 1 := rfl
    omega
  obtain ⟨f0, hf0⟩ := List.exists_mem_of_length_pos (l := F) (by omega)
  obtain ⟨t0, ht0⟩ := List.exists_mem_of_length_pos (l := T) (by omega)
  rw [est] at ev ⊢
  rw [List.filter_append, List.length_append, crp_app, List.length_append] at ev
  have new2 : 2 ≤ (F ++ T).length := by
    rw [List.length_append]
    omega
  have c1 : (crp b [(x, y)]).length = if b x = b y then 0 else 1 := by
    unfold crp
    rw [List.filter_cons]
    by_cases e : b x = b y
    · simp [e]
    · simp [e]
  have n1 : ([wt].filter (nonc b)).length = if nonc b wt = true then 1 else 0 := by
    rw [List.filter_cons]
    split <;> rfl
  rw [c1, n1] at ev
  refine ⟨new2, ?_⟩
  rcases way with ⟨c, w1, w2, w3, w4⟩ | ⟨w1, w2, ⟨c, w3⟩, w4⟩
  · have bx : b x = c := w2 x (by rw [eS]; exact List.mem_append_right _ (List.mem_cons_self ..))
    have hF : ∀ q ∈ F, b q = c := fun q hq => w2 q (by rw [eS]; exact List.mem_append_left _ hq)
    cases nn : nonc b wt with
    | false =>
      have same := nonc_false nn
      have hT : ∀ q ∈ wt, b q = b y := fun q hq => same q hq y (by rw [eW]; exact List.mem_cons_self ..)
      by_cases e : b x = b y
      · refine .inl ⟨c, fun q hq => ?_, fun q hq => ?_, ?_, ?_⟩
        · rw [List.flatten_append, List.flatten_singleton] at hq
          rcases List.mem_append.mp hq with z | z
          · exact w1 q z
          · rw [hT q z, ← e, bx]
        · rcases List.mem_append.mp hq with z | z
          · exact hF q z
          · rw [hT q (by rw [eW]; exact List.mem_cons_of_mem _ z), ← e, bx]
        · rw [crp_app, w3, List.nil_append]
          exact List.length_eq_zero_iff.mp (by rw [c1, if_pos e])
        · rw [List.filter_append, w4, List.nil_append]
          exact List.length_eq_zero_iff.mp (by rw [n1, nn]; rfl)
      · have by_ : b y = !c := bne fun z => e (by rw [bx, z])
        have g1 : ∃ q ∈ F ++ T, b q = c := ⟨f0, List.mem_append_left _ hf0, hF f0 hf0⟩
        have g2 : ∃ q ∈ F ++ T, b q = !c := ⟨t0, List.mem_append_right _ ht0, by rw [hT t0 (by rw [eW]; exact List.mem_cons_of_mem _ ht0), by_]⟩
        refine .inr ⟨?_, ?_, ⟨c, F, T, [], by rw [List.append_nil], hF, fun q hq => by rw [hT q (by rw [eW]; exact List.mem_cons_of_mem _ hq), by_], fun q hq => absurd hq List.not_mem_nil⟩, ?_⟩
        · cases c
          · exact g2
          · exact g1
        · cases c
          · exact g1
          · exact g2
        · rw [List.filter_append, List.length_append, n1, crp_app, List.length_append, c1, w3, w4, nn, if_neg e]
          rfl
    | true =>
      rw [nn, if_pos rfl] at ev
      have e : b x = b y := Classical.byContradiction fun z => by
        rw [if_neg z] at ev
        omega
      obtain ⟨q0, hq0, eq0⟩ := nonc_true nn (!c)
      have hq1 : q0 ∈ T := by
        rw [eW] at hq0
        rcases List.mem_cons.mp hq0 with z | z
        · rw [z, ← e, bx] at eq0
          cases c <;> cases eq0
        · exact z
      obtain ⟨c', h3⟩ := h3
      rw [eW] at h3
      have g1 : ∃ q ∈ F ++ T, b q = c := ⟨f0, List.mem_append_left _ hf0, hF f0 hf0⟩
      have g2 : ∃ q ∈ F ++ T, b q = !c := ⟨q0, List.mem_append_right _ hq1, eq0⟩
      refine .inr ⟨?_, ?_, ⟨b y, three_head h3 fun q hq => by rw [hF q hq, ← e, bx]⟩, ?_⟩
      · cases c
        · exact g2
        · exact g1
      · cases c
        · exact g1
        · exact g2
      · rw [List.filter_append, List.length_append, n1, crp_app, List.length_append, c1, w3, w4, nn, if_pos e]
        rfl
  · have nn : nonc b wt = false := by
      cases z : nonc b wt with
      | false => rfl
      | true =>
        rw [z, if_pos rfl] at ev
        omega
    have e : b x = b y := Classical.byContradiction fun z => by
      rw [if_neg z] at ev
      omega
    have same := nonc_false nn
    have hT : ∀ q ∈ T, b q = b x := fun q hq => by rw [e]; exact same q (by rw [eW]; exact List.mem_cons_of_mem _ hq) y (by rw [eW]; exact List.mem_cons_self ..)
    have any : ∀ v, (∃ q ∈ S.2, b q = v) → ∃ q ∈ F ++ T, b q = v := fun v h => by
      obtain ⟨q, hq, eq⟩ := h
      rw [eS] at hq
      rcases List.mem_append.mp hq with z | z
      · exact ⟨q, List.mem_append_left _ z, eq⟩
      · rw [List.mem_singleton.mp z] at eq
        exact ⟨t0, List.mem_append_right _ ht0, by rw [hT t0 ht0, eq]⟩
    rw [eS] at w3
    refine .inr ⟨any _ w1, any _ w2, ⟨b x, three_last w3 hT⟩, ?_⟩
    rw [List.filter_append, List.length_append, n1, crp_app, List.length_append, c1, nn, if_pos e]
    simpa using w4
theorem fold_inv : ∀ (ws dn : List (List Nat)) (S : Join × List Nat), StepInv b dn S → (∀ wt ∈ ws, 2 ≤ wt.length ∧ ∃ c, Three b c wt) → ((dn ++ ws).filter (nonc b)).length + (crp b (ws.foldl stepC S).1).length ≤ 1 → StepInv b (dn ++ ws) (ws.foldl stepC S)
  | [], dn, S, I, _, _ => by
    rw [List.append_nil]
    exact I
  | wt :: ws, dn, S, I, h, ev => by
    obtain ⟨l2, h3⟩ := h wt (List.mem_cons_self ..)
    have e : dn ++ wt :: ws = (dn ++ [wt]) ++ ws := by simp
    rw [e] at ev ⊢
    rw [List.foldl_cons] at ev ⊢
    obtain ⟨J, hJ⟩ := fold_pre ws (stepC S wt)
    refine fold_inv ws (dn ++ [wt]) (stepC S wt) (step_inv I l2 h3 ?_) (fun q hq => h q (List.mem_cons_of_mem _ hq)) ev
    rw [hJ, crp_app, List.length_append, List.filter_append, List.length_append] at ev
    omega
theorem chain_inv {ws : List (List Nat)} (ne : ws ≠ []) (h : ∀ wt ∈ ws, 2 ≤ wt.length ∧ ∃ c, Three b c wt) (ev : (ws.filter (nonc b)).length + (crp b (chainF ws).1).length ≤ 1) : StepInv b ws (chainF ws) := by
  cases ws with
  | nil => exact (ne rfl).elim
  | cons wt ws =>
    obtain ⟨l2, h3⟩ := h wt (List.mem_cons_self ..)
    have e0 : stepC ([], []) wt = ([], wt) := rfl
    unfold chainF at ev ⊢
    rw [List.foldl_cons, e0] at ev ⊢
    refine fold_inv ws [wt] ([], wt) ⟨l2, ?_⟩ (fun q hq => h q (List.mem_cons_of_mem _ hq)) ev
    cases nn : nonc b wt with
    | false =>
      have same := nonc_false nn
      cases wt with
      | nil => exact absurd l2 (by decide)
      | cons y T =>
        refine .inl ⟨b y, fun x hx => ?_, fun x hx => same x hx y (List.mem_cons_self ..), rfl, ?_⟩
        · rw [List.flatten_singleton] at hx
          exact same x hx y (List.mem_cons_self ..)
        · rw [List.filter_cons, if_neg (by rw [nn]; exact Bool.false_ne_true)]
          rfl
    | true =>
      refine .inr ⟨nonc_true nn true, nonc_true nn false, h3, ?_⟩
      rw [List.filter_cons, if_pos nn]
      rfl
/-! ### half a circle on -/
theorem three_at {A B C : List Nat} (hA : ∀ x ∈ A, b x = c) (hB : ∀ x ∈ B, b x = !c) (hC : ∀ x ∈ C, b x = c) {t x : Nat} (h : (A ++ B ++ C)[t]? = some x) : b x = if A.length ≤ t ∧ t < A.length + B.length then !c else c := by
  by_cases h1 : t < A.length
  · rw [List.append_assoc, List.getElem?_append_left h1] at h
    rw [hA x (List.mem_of_getElem? h), if_neg (by omega)]
  · by_cases h2 : t < A.length + B.length
    · rw [List.getElem?_append_left (by rw [List.length_append]; exact h2), List.getElem?_append_right (by omega)] at h
      rw [hB x (List.mem_of_getElem? h), if_pos ⟨by omega, h2⟩]
    · rw [List.getElem?_append_right (by rw [List.length_append]; omega)] at h
      rw [hC x (List.mem_of_getElem? h), if_neg (by omega)]
theorem half_cross {L : List Nat} (h : Three b c L) (t1 : ∃ x ∈ L, b x = true) (f1 : ∃ x ∈ L, b x = false) : 1 ≤ (crp b (halfF L)).length := by
  obtain ⟨A, B, C, e, hA, hB, hC⟩ := h
  have hb : 1 ≤ B.length := by
    obtain ⟨x, hx, ex⟩ : ∃ x ∈ L, b x = !c := by
      cases c
      · exact t1
      · exact f1
    rw [e] at hx
    rcases List.mem_append.mp hx with z | z
    · rcases List.mem_append.mp z with z | z
      · rw [hA x z] at ex
        cases c <;> cases ex
      · exact List.length_pos_of_mem z
    · rw [hC x z] at ex
      cases c <;> cases ex
  have hac : 1 ≤ A.length + C.length := by
    obtain ⟨x, hx, ex⟩ : ∃ x ∈ L, b x = c := by
      cases c
      · exact f1
      · exact t1
    rw [e] at hx
    rcases List.mem_append.mp hx with z | z
    · rcases List.mem_append.mp z with z | z
      · have := List.length_pos_of_mem z
        omega
      · rw [hB x z] at ex
        cases c <;> cases ex
    · have := List.length_pos_of_mem z
      omega
  have ln : L.length = A.length + B.length + C.length := by rw [e, List.length_append, List.length_append]
  have key : ∃ t, t + L.length / 2 < L.length ∧ ¬ ((A.length ≤ t ∧ t < A.length + B.length) ↔ (A.length ≤ t + L.length / 2 ∧ t + L.length / 2 < A.length + B.length)) := by
    by_cases c1 : B.length ≤ L.length / 2
    · by_cases c2 : A.length + L.length / 2 < L.length
      · exact ⟨A.length, c2, by omega⟩
      · exact ⟨A.length - L.length / 2, by omega, by omega⟩
    · by_cases c2 : 1 ≤ A.length
      · exact ⟨A.length - 1, by omega, by omega⟩
      · exact ⟨B.length - L.length / 2, by omega, by omega⟩
  obtain ⟨t, t2, t3⟩ := key
  have g1 : L[t]? = some L[t] := List.getElem?_eq_getElem (by omega)
  have g2 : L[t + L.length / 2]? = some L[t + L.length / 2] := List.getElem?_eq_getElem t2
  have mem : (L[t], L[t + L.length / 2]) ∈ halfF L := by
    refine List.mem_of_getElem? (i := t) (List.getElem?_zip_eq_some.mpr ⟨g1, ?_⟩)
    rw [List.getElem?_drop, Nat.add_comm]
    exact g2
  have v1 := three_at (A := A) (B := B) (C := C) hA hB hC (t := t) (x := L[t]) (by rw [← e]; exact g1)
  have v2 := three_at (A := A) (B := B) (C := C) hA hB hC (t := t + L.length / 2) (x := L[t + L.length / 2]) (by rw [← e]; exact g2)
  refine List.length_pos_of_mem (a := (L[t], L[t + L.length / 2])) (List.mem_filter.mpr ⟨mem, ?_⟩)
  show (b L[t] != b L[t + L.length / 2]) = true
  rw [v1, v2]
  by_cases p1 : A.length ≤ t ∧ t < A.length + B.length <;> by_cases p2 : A.length ≤ t + L.length / 2 ∧ t + L.length / 2 < A.length + B.length
  · exact (t3 ⟨fun _ => p2, fun _ => p1⟩).elim
  · rw [if_pos p1, if_neg p2]
    cases c <;> rfl
  · rw [if_neg p1, if_pos p2]
    cases c <;> rfl
  · exact (t3 ⟨fun z => (p1 z).elim, fun z => (p2 z).elim⟩).elim
/-- what is chained and paired crosses, but where all is on one side -/
theorem few_cross {ws : List (List Nat)} (ne : ws ≠ []) (h : ∀ wt ∈ ws, 2 ≤ wt.length ∧ ∃ c, Three b c wt) (lo : (ws.filter (nonc b)).length ≤ 1) :
    2 ≤ (ws.filter (nonc b)).length + (crp b (fewF ws)).length ∨ ∃ c, ∀ x ∈ ws.flatten, b x = c := by
  by_cases ev : (ws.filter (nonc b)).length + (crp b (chainF ws).1).length ≤ 1
  · obtain ⟨two, way⟩ := chain_inv ne h ev
    rcases way with ⟨c, w1, _⟩ | ⟨w1, w2, ⟨c, w3⟩, w4⟩
    · exact .inr ⟨c, w1⟩
    · have z := half_cross w3 w1 w2
      left
      unfold fewF
      rw [crp_app, List.length_append]
      omega
  · left
    unfold fewF
    rw [crp_app, List.length_append]
    omega
end
end Own

set_option Elab.async false
set_option linter.all false
set_option maxRecDepth 100000
set_option maxHeartbeats 4000000
/-! A kept exception that has fields of its own: asked for its kind, its fields read. -/
namespace Own
open PySem PySem.Spec PyProof.Rows L2
section
open PySem.W PySem.Calls
variable {prog : Program} {w : World} {A : Around} {E : Value → Shared → Prop} {s : Shared} {K : Frag} {x D : Addr} {ox : Obj} {od : Option Obj}
/-- x.__class__ of such an exception, whatever its dict -/
theorem ask_class {Q : Option Value → Shared → Prop} (c : ExcC K D) (X : K.In s.heap) (I : InstAt s.heap x ox D od) (done : Q (some (.ref D)) { s with toks := s.toks + 1 }) : wpAny (model prog w) A (getAttr? (.ref x) "__class__") Q E s := by
  obtain ⟨cdD, known, _⟩ := any_some c.hd
  have found : findObj K D od "__class__" = some (.bind (.builtin "getset_descriptor.__get__") (.builtin "object.__class__")) := by
    unfold findObj
    rw [known, Option.bind_some, c.ha, Option.bind_some]
    simp [c.hn, c.ht]
  obtain ⟨heap, gens, drawn, toks, os⟩ := s
  have kindOf := I.type (M := model prog w)
  have getter := looks_findIn (M := model prog w) X c.hg
  have nogetattr := looks_findIn (M := model prog w) X c.hk
  have finds := looks_find (M := model prog w) X I found
  have isExc : Looks (model prog w) heap (isInstance (.ref x) (.type "BaseException")) true := kindOf.andThen (looks_subIn X c.hs)
  have other : (Value.builtin "BaseException.__getattribute__" == Value.builtin "object.__getattribute__") = false := by decide +kernel
  unfold getAttr? getAttrBy? getAttrBy
  refine wpAny_bind (wpAny_mkText (wpAny_bind (wpAny_attempt (wpAny_holding (wpAny_bind (kindOf.at (wpAny_bind (getter.at ?_))))))))
  show wpAny _ _ (if (onTheHeap (Value.ref D) && _) = true then _ else _) _ _ _
  rw [other, Bool.and_false, if_neg Bool.false_ne_true]
  unfold getAttrByItsOwn hookBefore
  rw [show onTheHeap (Value.ref D) = true from rfl, if_pos rfl]
  refine wpAny_bind (nogetattr.at (wpAny_bind (wpAny_attempt (wpAny_holding ?_))))
  unfold callGetattribute
  rw [show (false && onTheHeap (Value.builtin "BaseException.__getattribute__")) = false from rfl]
  rw [if_neg Bool.false_ne_true]
  unfold boundAndCalled
  rw [F.excAttr_ValueError.ga.bind (.ref x)]
  refine wpAny_bind (wpAny_pure ?_)
  show wpAny _ _ (call (.builtin "BaseException.__getattribute__") _) _ _ _
  refine wpAny_call (codeAny_call_builtin F.excAttr_ValueError.ga.plain F.entry_bexc_ga (@check_slot (model prog w) _ _ ⟨heap, gens, drawn, toks + 1, os⟩ "BaseException.__getattribute__" "BaseException" "__getattribute__" (.ref x) [.str "__class__" toks] [] _ (by decide +kernel) (by decide +kernel) isExc (F.args_bexc_ga (.ref x) (.str "__class__" toks)) ?_))
  unfold Builtin.«object.__getattribute__»
  refine wpAny_bind (wpAny_of_eq (a := ((Value.ref x : Value), [Value.str "__class__" toks])) (by first | rfl | (simp only [slotArgs]; rfl)) ?_)
  refine wpAny_bind (wpAny_pure (wpAny_bind (kindOf.at (wpAny_bind (finds.at ?_)))))
  refine wpAny_bind (wpAny_holding (wpAny_call (class_get (s := ⟨heap, gens, drawn, toks + 1, os⟩) (ox := ox) (od := od) X I c.hm ?_)))
  refine wpAny_pure ?_
  show wpAny _ _ (handedOut (.ref D)) _ _ _
  rw [handedOut_of (v := .ref D) rfl]
  first
    | exact wpAny_pure (wpAny_pure done)
    | exact wpAny_pure done
    | exact wpAny_pure (wpAny_bind (wpAny_pure (wpAny_pure done)))
theorem kind_known (c : ExcC K D) : KitX K (.ref x) (.ref D) (fun h => InstAt h x ox D od) := by
  obtain ⟨cdD, known, _⟩ := any_some c.hd
  unfold clsIn at known
  split at known
  · rename_i c' d' cd' sl' there
    refine ⟨fun _ _ _ I => I.type, fun _ _ X _ => ?_, fun h tp dd its n sl X other => ?_, fun X I k => ask_class c X I k⟩
    · intro A1 Q1 E1 s1 kept q
      unfold isType loadHead
      exact wpAny_bind (wpAny_loadPart (kept _ _ (X _ _ there)) (wpAny_pure q))
    · cases z : (Value.ref D == Value.ref tp) with
      | false => rfl
      | true =>
        have e : D = tp := Value.ref.inj (beq_iff_eq.mp z)
        rw [e] at there
        have two := (X _ _ there).symm.trans other
        cases two
  · cases known
end
section
variable {X : Cx} {pins : List (Addr × Obj)} {σ : L2.St} {H : Hp} {s : Shared}
/-- a kept exception with its dict, as an instance -/
theorem exK_inst {D a dd : Addr} {fs : List (Str × V)} (I : Inv X pins σ H s) (ea : H a = some (ExK (.ref D) (some dd) a)) (ed : H dd = some (.xd fs)) : ∃ (ob od : Obj), PySem.W.InstAt s.heap a ob D (some od) ∧ ∃ mA, s.heap.Ns1 dd mA ∧ (∀ f, RelO (fs.lookup f) (mA f)) ∧ ∀ f, PySem.W.lookIn f od = some (mA f) := by
  obtain ⟨⟨_, _, _, _⟩, _, there, ⟨rfl, rfl⟩, rfl⟩ := exK_there I.hok ea
  obtain ⟨mA, ns, rel⟩ := (show ObjOk X.prog X.w H s.heap dd (.xd fs) from I.hok dd _ ed)
  obtain ⟨od, dict, look⟩ := lookIn_ns ns
  exact ⟨_, od, ⟨there, rfl, rfl, dict⟩, mA, ns, rel, look⟩
/-- isinstance(e, C), e kept, with fields -/
def rIsF (K : PySem.W.Frag) : List V → Hp → VK → Prop := fun xs H Q => ∃ (a D dd : Addr) (fs : List (Str × V)) (c : V) (cv : Value) (b : Bool), xs = [.ref a, c] ∧ H a = some (ExK (.ref D) (some dd) a) ∧ H dd = some (.xd fs) ∧ ExcC K D ∧ (∀ u, RelV c u → u = cv) ∧ PySem.W.kitOne K (.ref D) cv = some b ∧ Q (.bl b) H
theorem call_isF : CallR X (.builtin "isinstance") (rIsF X.K) := by
  rintro pins s σ H _ us Q I r ⟨a, D, dd, fs, c, cv, b, rfl, ea, ed, C, one, told, q⟩
  obtain ⟨u, rfl, ru⟩ := ref_and r
  obtain rfl := one u ru
  obtain ⟨_, _, inst, _⟩ := exK_inst I ea ed
  exact PySem.W.kia_one (kind_known C) I.kIn inst told (fun z => nomatch z) fun tk => fin_bl (I.tok tk) q rfl
/-- isinstance(x, C), x any of these -/
def rIsA (K : PySem.W.Frag) : List V → Hp → VK → Prop := fun xs H Q => rIsi K xs H Q ∨ rIsK K xs H Q ∨ rIsF K xs H Q
theorem call_isAll : CallR X (.builtin "isinstance") (rIsA X.K) := fun pins s σ H xs us Q I r h =>
  h.elim (call_isi pins s σ H xs us Q I r) fun h => h.elim (call_isK pins s σ H xs us Q I r) (call_isF pins s σ H xs us Q I r)
/-- e.f of such a one -/
theorem pe_kxf {e : Expr} {te : TE} {n : Str} {pos : Pos} (he : PE X e te) (hb : attributeBase e n X.env (eval e X.env) = eval e X.env := by rfl) :
    PE X (.Attribute e n pos) (fun σ H Q => te σ H fun x H1 => ∃ (a C d : Addr) (fs : List (Str × V)) (v : V), x = .ref a ∧ XfC X.K C ∧ PySem.W.findIn X.K (.ref C) n = some none ∧ H1 a = some (ExK (.ref C) (some d) a) ∧ H1 d = some (.xd fs) ∧ fs.lookup n = some v ∧ Q v H1) := by
  refine ⟨fun pins s σ H Q I h => attr_of hb (thn (he.run pins s σ H _ I h) ?_)⟩
  rintro _ s1 ⟨_, H1, I1, here, a, C, d, fs, v, rfl, T, noIn, ea, ed, found, q⟩
  cases here
  obtain ⟨_, od, inst, mA, _, rel, look⟩ := exK_inst I1 ea ed
  have of := rel n
  rw [found] at of
  obtain ⟨u, there, ru⟩ := RelO.some_of of
  have own := PySem.W.findObj_own T.hdC noIn rfl ((look n).trans (congrArg some there))
  exact HandSPX.exc_get I1.kIn inst T.ga T.gg T.exC own (handed_of ru) ⟨v, H1, I1.tok _, ru, q⟩
end
end Own


set_option Elab.async false
set_option linter.all false
set_option maxRecDepth 100000
set_option maxHeartbeats 4000000
namespace K05
open PySem PySem.Spec PyProof.Rows L2 Own
def top (i : Nat) : Stmt := PySem.Challenge.pw_onewaytown_k05_whole_deeds.main.body.getD i (.Pass ⟨0, 0, 0, 0⟩)
/-! ### what the top has written -/
abbrev gA (K : PySem.W.Frag) (x : Str) : Addr := He.ga K x
/-- an error class without a body of its own -/
structure ErrT (K : PySem.W.Frag) (mg : Str → Option Value) (y : Str) : Prop where
  m : mg y = some (.ref (gA K y))
  x : PySem.W.excIn K (gA K y) He.veBase "ValueError.__new__" = true
  k : PySem.W.keepIn K (.ref (gA K y)) = true
  b : PySem.W.subIn K (.ref (gA K y)) (.type "BaseException") = some true
  t : PySem.W.typeIn K (.ref (gA K y)) = some (.type "type")
structure Txt (K : PySem.W.Frag) (mg : Str → Option Value) : Prop where
  f_type : mg "type" = none
  f_int : mg "int" = none
  f_len : mg "len" = none
  g_MOST_PLACES : ∃ u, mg "MOST_PLACES" = some u ∧ RelV (.int 16) u
  g_MOST_STREETS : ∃ u, mg "MOST_STREETS" = some u ∧ RelV (.int 60) u
  cl : Cls K (gA K "Town")
  nMany : NoAttr K (gA K "Town") "_many"
  nEnds : NoAttr K (gA K "Town") "_ends"
  nBuilt : NoAttr K (gA K "Town") "_built"
  BadCount : ErrT K mg "BadCount"
  BadPlace : ErrT K mg "BadPlace"
  BadStreet : ErrT K mg "BadStreet"
  TooMany : ErrT K mg "TooMany"
abbrev FnP (K : PySem.W.Frag) (x q : Str) (st : Stmt) (f : Addr) (fd : FuncData) : Prop := FunD K x q (defArgs st) (defBody st) (defScope st) [] [] f fd
/-! ### the program: is_whole and Town -/
def spWhole : Sp := fun vs H Q _ => ∃ (x : V) (lo hi : Int), vs = [x, .int lo, .int hi] ∧ (∃ n, tyName x H = some n) ∧ Q (.bl (isW x lo hi)) H
abbrev s_is_whole : Stmt := top 8
abbrev N_is_whole : List Str := ["thing", "least", "most"]
theorem sc_is_whole : FnScope N_is_whole ["thing", "least", "most"] (defScope s_is_whole) := ⟨rfl, rfl, rfl, by decide +kernel, rfl, by decide +kernel, by decide +kernel⟩
section
variable {P : Program} {w : World} {K : PySem.W.Frag} {mg : Str → Option Value} {base : Heap} {f : Addr} {fd : FuncData}
theorem ok_is_whole (T : Txt K mg) (D : FnP K "is_whole" "is_whole" s_is_whole f fd) : FnOk P w K mg base (L2.CX P w) 1 f fd ["thing", "least", "most"] spWhole := by
  have nd := sc_is_whole.nd
  refine D.ok sc_is_whole (fun vs H Q E h => ?_) (fun cdv A outer s H vs Q E hr h => ?_)
  · obtain ⟨x, lo, hi, rfl, _⟩ := h
    rfl
  · obtain ⟨x, lo, hi, rfl, ⟨n, hn⟩, k⟩ := h
    have hu := hu_of hr
    refine ⟨_, (pss_one (ps_ret (pe_and (pe_cmpR op_eqTy (pe_callTy call_tyOf rfl T.f_type (by decide +kernel) (pa_cons (pv 0) pa_nil)) (pe_bltn (v := .ty "int") (u := .type "int") rfl T.f_int (by decide +kernel) rfl) (nomark _)) (pe_one (pe_chain op_le op_le (pv 1) (pv 0) (pv 2)))))), ?_⟩
    refine ⟨_, rfl, x, n, rfl, hn, n, "int", rfl, rfl, tyName_meta hn, meta_all.2.2.1, _, rfl, ?_⟩
    refine if_both (fun e => ?_) (fun e => ?_)
    · have en := of_decide_eq_true e
      rw [en] at hn
      obtain ⟨i, rfl⟩ := tyName_int hn
      refine ⟨_, rfl, _, rfl, _, _, rfl, rfl, _, rfl, ?_⟩
      refine if_both (fun e1 => ?_) (fun e1 => ?_)
      · refine ⟨_, rfl, _, _, rfl, rfl, ?_⟩
        have z : isW (.int i) lo hi = decide (i ≤ hi) := by
          show (decide (lo ≤ i) && decide (i ≤ hi)) = decide (i ≤ hi)
          rw [e1]
          rfl
        rw [z] at k
        exact k
      · have z : isW (.int i) lo hi = false := by
          show (decide (lo ≤ i) && decide (i ≤ hi)) = false
          rw [e1]
          rfl
        rw [z] at k
        exact k
    · have z : isW x lo hi = false := by
        cases x with
        | int i =>
          exfalso
          cases hn
          cases e
        | _ => rfl
      rw [z] at k
      exact k
end
def spInit (K : PySem.W.Frag) (C : Addr) : Sp := fun vs H Q E => ∃ (p dx : Addr) (x : V), vs = [.ref p, x] ∧ H p = some (.ins C dx []) ∧ (∃ n, tyName x H = some n) ∧
  (isW x 1 16 = false → E (.ref (gA K "BadCount")) none H) ∧
  (∀ (m : Nat), x = .int (m : Int) → 1 ≤ m → m ≤ 16 → ∀ (d : Addr) (H' : Hp), H d = none → TownAt C H' p d m [] 0 → (∀ b o, H b = some o → b ≠ p → H' b = some o) → Q .non H')
def spPlaces (C : Addr) : Sp := fun vs H Q _ => ∃ (p d : Addr) (m : Nat) (rows : List TRow) (n : Nat), vs = [.ref p] ∧ TownAt C H p d m rows n ∧ Q (.int (m : Int)) H
/-- build: refused as it says, in its order; else a row more -/
def spBuild (K : PySem.W.Frag) (C : Addr) : Sp := fun vs H Q E => ∃ (p d : Addr) (m : Nat) (rows : List TRow) (n : Nat) (x y : V), vs = [.ref p, x, y] ∧ TownAt C H p d m rows n ∧ (∃ t, tyName x H = some t) ∧ (∃ t, tyName y H = some t) ∧
  ((isW x 0 ((m : Int) - 1) = false ∨ isW y 0 ((m : Int) - 1) = false ∨ x = y) → E (.ref (gA K "BadPlace")) none H) ∧
  (∀ a b : Nat, x = .int (a : Int) → y = .int (b : Int) → a < m → b < m → a ≠ b → 60 ≤ rows.length → E (.ref (gA K "TooMany")) none H) ∧
  (∀ a b : Nat, x = .int (a : Int) → y = .int (b : Int) → a < m → b < m → a ≠ b → rows.length < 60 → ∀ H', TownAt C H' p d m (rows ++ [(n, a, b)]) (n + 1) → Keeps H H' p d → Q (.int (n : Int)) H')
/-- dig: a street that is there goes, anything else is refused -/
def spDig (K : PySem.W.Frag) (C : Addr) : Sp := fun vs H Q E => ∃ (p d : Addr) (m : Nat) (rows : List TRow) (n : Nat) (x : V), vs = [.ref p, x] ∧ TownAt C H p d m rows n ∧ (∃ t, tyName x H = some t) ∧
  ((¬ ∃ s : Nat, x = .int (s : Int) ∧ s ∈ rows.map (·.1)) → E (.ref (gA K "BadStreet")) none H) ∧
  (∀ s : Nat, x = .int (s : Int) → s ∈ rows.map (·.1) → ∀ H', TownAt C H' p d m (rows.filter fun r => decide (r.1 ≠ s)) n → Keeps H H' p d → Q .non H')
def spStreets (C : Addr) : Sp := fun vs H Q _ => ∃ (p d : Addr) (m : Nat) (rows : List TRow) (n : Nat), vs = [.ref p] ∧ TownAt C H p d m rows n ∧
  ∀ (l : Addr) (H' : Hp), H l = none → Same H H' → TL H' l (rows.map rowV) → Q (.ref l) H'
abbrev s_Town_init : Stmt := inClass (top 16) 0
abbrev N_Town_init : List Str := ["self", "many"]
theorem sc_Town_init : FnScope N_Town_init ["self", "many"] (defScope s_Town_init) := ⟨rfl, rfl, rfl, by decide +kernel, rfl, by decide +kernel, by decide +kernel⟩
abbrev s_Town_places : Stmt := inClass (top 16) 1
abbrev N_Town_places : List Str := ["self"]
theorem sc_Town_places : FnScope N_Town_places ["self"] (defScope s_Town_places) := ⟨rfl, rfl, rfl, by decide +kernel, rfl, by decide +kernel, by decide +kernel⟩
abbrev s_Town_build : Stmt := inClass (top 16) 2
abbrev N_Town_build : List Str := ["self", "one", "other", "street"]
theorem sc_Town_build : FnScope N_Town_build ["self", "one", "other"] (defScope s_Town_build) := ⟨rfl, rfl, rfl, by decide +kernel, rfl, by decide +kernel, by decide +kernel⟩
abbrev s_Town_dig : Stmt := inClass (top 16) 3
abbrev N_Town_dig : List Str := ["self", "street"]
theorem sc_Town_dig : FnScope N_Town_dig ["self", "street"] (defScope s_Town_dig) := ⟨rfl, rfl, rfl, by decide +kernel, rfl, by decide +kernel, by decide +kernel⟩
abbrev s_Town_streets : Stmt := inClass (top 16) 4
abbrev N_Town_streets : List Str := ["self", "street", "one", "other"]
theorem sc_Town_streets : FnScope N_Town_streets ["self"] (defScope s_Town_streets) := ⟨rfl, rfl, rfl, by decide +kernel, rfl, by decide +kernel, by decide +kernel⟩
section
variable {P : Program} {w : World} {K : PySem.W.Frag} {mg : Str → Option Value} {base : Heap} {f : Addr} {fd : FuncData}
theorem ok_init (T : Txt K mg) (D : FnP K "__init__" "Town.__init__" s_Town_init f fd) (c_is_whole : CalX P w K mg base 1 "is_whole" spWhole) : FnOk P w K mg base (L2.CX P w) 2 f fd ["self", "many"] (spInit K (gA K "Town")) := by
  have nd := sc_Town_init.nd
  refine D.ok sc_Town_init (fun vs H Q E h => ?_) (fun cdv A outer s H vs Q E hr h => ?_)
  · obtain ⟨p, dx, x, rfl, _⟩ := h
    rfl
  · obtain ⟨p, dx, x, rfl, hp, ⟨n, hn⟩, no, yes⟩ := h
    have hu := hu_of hr
    obtain ⟨f_is_whole, fd_is_whole, ps_is_whole, F_is_whole, m_is_whole, k_is_whole, b_is_whole⟩ := c_is_whole.ex
    refine ⟨_, (pss_cons (ps_if (pt_not (pt_val (pe_call F_is_whole (hr.mono (by decide)) rfl m_is_whole k_is_whole b_is_whole .nil passF (pa_cons (pv 1) (pa_cons pe_int (pa_cons (C8.pe_gc rfl T.g_MOST_PLACES) pa_nil)))))) (pss_one (ps_raise rfl (takes_of rfl rfl rfl rfl) (pmk_own PySem.F.excBase_ValueError T.BadCount.x T.BadCount.m T.BadCount.k (raises_own T.BadCount.b T.BadCount.t) rfl))) pss_nil)
      (pss_cons (ps_fld (pv 0) (pv 1) rfl)
      (pss_cons (ps_fld (pv 0) pe_dnewK rfl)
      (pss_one (ps_fld (pv 0) pe_int rfl))))), ?_⟩
    refine ⟨_, rfl, x, 1, 16, rfl, ⟨n, hn⟩, _, rfl, ?_⟩
    refine if_both (fun e => ?_) (fun e => ?_)
    · exact no (by simpa using e)
    · obtain ⟨i, rfl, h1, h2⟩ := isW_int (show isW x 1 16 = true by simpa using e)
      obtain ⟨m, rfl⟩ : ∃ m : Nat, i = (m : Int) := ⟨i.toNat, (Int.toNat_of_nonneg (by omega)).symm⟩
      refine ⟨_, rfl, _, rfl, p, gA K "Town", dx, [], rfl, hp, T.cl, T.nMany, (by show 0 < 1000; decide), ?_⟩
      intro d hd
      obtain ⟨ndp, hd0⟩ := upd_none hd
      refine ⟨_, rfl, p, gA K "Town", dx, _, rfl, (by rw [upd_ne ndp.symm]; exact upd_same), T.cl, T.nEnds, (by show 1 < 1000; decide), ?_⟩
      refine ⟨_, rfl, p, gA K "Town", dx, _, rfl, upd_same, T.cl, T.nBuilt, (by show 2 < 1000; decide), ?_⟩
      refine yes m rfl (by omega) (by omega) d _ hd0 ⟨⟨dx, Eq.trans upd_same (congrArg (fun l => some (HO.ins (gA K "Town") dx l)) (tF_new m d))⟩, ⟨[], by rw [upd_ne ndp, upd_ne ndp, upd_same], .nil⟩, ⟨List.Pairwise.nil, fun r hr => (nomatch hr), fun r hr => (nomatch hr), (by show 0 ≤ 60; decide)⟩, by omega⟩ fun b o e hb => ?_
      rw [upd_ne hb, upd_ne hb, upd_ne (ne_of_none e hd0), upd_ne hb]
      exact e
theorem ok_places (T : Txt K mg) (D : FnP K "places" "Town.places" s_Town_places f fd) : FnOk P w K mg base (L2.CX P w) 1 f fd ["self"] (spPlaces (gA K "Town")) := by
  have nd := sc_Town_places.nd
  refine D.ok sc_Town_places (fun vs H Q E h => ?_) (fun cdv A outer s H vs Q E hr h => ?_)
  · obtain ⟨p, d, m, rows, n, rfl, _⟩ := h
    rfl
  · obtain ⟨p, d, m, rows, n, rfl, W, k⟩ := h
    obtain ⟨dx, h1⟩ := W.ob
    refine ⟨_, (pss_one (ps_ret (pe_fld (pv 0) rfl))), ?_⟩
    exact ⟨_, rfl, p, _, dx, _, _, rfl, h1, T.cl, T.nMany, tF_many _ _ _, k⟩
theorem ok_build (T : Txt K mg) (D : FnP K "build" "Town.build" s_Town_build f fd) (c_is_whole : CalX P w K mg base 1 "is_whole" spWhole) : FnOk P w K mg base (L2.CX P w) 2 f fd ["self", "one", "other"] (spBuild K (gA K "Town")) := by
  have nd := sc_Town_build.nd
  refine D.ok sc_Town_build (fun vs H Q E h => ?_) (fun cdv A outer s H vs Q E hr h => ?_)
  · obtain ⟨p, d, m, rows, n, x, y, rfl, _⟩ := h
    rfl
  · obtain ⟨p, d, m, rows, n, x, y, rfl, W, hx, hy, bad, many, good⟩ := h
    have hu := hu_of hr
    obtain ⟨dx, h1⟩ := W.ob
    obtain ⟨kvs, h2, ents⟩ := W.dc
    have npd := W.pd
    obtain ⟨f_is_whole, fd_is_whole, ps_is_whole, F_is_whole, m_is_whole, k_is_whole, b_is_whole⟩ := c_is_whole.ex
    refine ⟨_, (pss_cons (ps_if (pt_not (pt_val (pe_call F_is_whole (hr.mono (by decide)) rfl m_is_whole k_is_whole b_is_whole .nil passF (pa_cons (pv 1) (pa_cons pe_int (pa_cons (pe_op op_sub (pe_fld (pv 0) rfl) pe_int) pa_nil)))))) (pss_one (ps_raise rfl (takes_of rfl rfl rfl rfl) (pmk_own PySem.F.excBase_ValueError T.BadPlace.x T.BadPlace.m T.BadPlace.k (raises_own T.BadPlace.b T.BadPlace.t) rfl))) pss_nil)
      (pss_cons (ps_if (pt_not (pt_val (pe_call F_is_whole (hr.mono (by decide)) rfl m_is_whole k_is_whole b_is_whole .nil passF (pa_cons (pv 2) (pa_cons pe_int (pa_cons (pe_op op_sub (pe_fld (pv 0) rfl) pe_int) pa_nil)))))) (pss_one (ps_raise rfl (takes_of rfl rfl rfl rfl) (pmk_own PySem.F.excBase_ValueError T.BadPlace.x T.BadPlace.m T.BadPlace.k (raises_own T.BadPlace.b T.BadPlace.t) rfl))) pss_nil)
      (pss_cons (ps_if (pt_cmpR op_eq (pv 1) (pv 2) (nomark _)) (pss_one (ps_raise rfl (takes_of rfl rfl rfl rfl) (pmk_own PySem.F.excBase_ValueError T.BadPlace.x T.BadPlace.m T.BadPlace.k (raises_own T.BadPlace.b T.BadPlace.t) rfl))) pss_nil)
      (pss_cons (ps_if (pt_cmpR op_ge (pe_callB call_lenD rfl T.f_len PySem.boot_len (pa_cons (pe_fld (pv 0) rfl) pa_nil)) (C8.pe_gc rfl T.g_MOST_STREETS) (nomark _)) (pss_one (ps_raise rfl (takes_of rfl rfl rfl rfl) (pmk_own PySem.F.excBase_ValueError T.TooMany.x T.TooMany.m T.TooMany.k (raises_own T.TooMany.b T.TooMany.t) rfl))) pss_nil)
      (pss_cons (ps_set (i := 3) nd rfl (Or.inl rfl) (pe_fld (pv 0) rfl))
      (pss_cons (ps_dput hu (pe_fld (pv 0) rfl) (pv 3) (pe_tup (pa_cons (pv 1) (pa_cons (pv 2) pa_nil))) rfl)
      (pss_cons (ps_fld (pv 0) (pe_op op_add (pv 3) pe_int) rfl)
      (pss_one (ps_ret (pv 3)))))))))), ?_⟩
    refine ⟨_, rfl, _, rfl, p, _, dx, _, _, rfl, h1, T.cl, T.nMany, tF_many _ _ _, _, _, rfl, rfl, x, 0, _, rfl, hx, _, rfl, ?_⟩
    refine if_both (fun e => bad (.inl (by simpa using e))) (fun e => ?_)
    refine ⟨_, rfl, _, rfl, p, _, dx, _, _, rfl, h1, T.cl, T.nMany, tF_many _ _ _, _, _, rfl, rfl, y, 0, _, rfl, hy, _, rfl, ?_⟩
    refine if_both (fun e2 => bad (.inr (.inl (by simpa using e2)))) (fun e2 => ?_)
    obtain ⟨a, rfl, ha⟩ := isW_nat (show isW x 0 ((m : Int) - 1) = true by simpa using e)
    obtain ⟨b, rfl, hb⟩ := isW_nat (show isW y 0 ((m : Int) - 1) = true by simpa using e2)
    refine ⟨_, rfl, _, rfl, rfl, _, rfl, ?_⟩
    refine if_both (fun e3 => bad (.inr (.inr (by simpa using e3)))) (fun e3 => ?_)
    have ne : a ≠ b := by
      intro z
      rw [z] at e3
      simp at e3
    refine ⟨_, rfl, p, _, dx, _, _, rfl, h1, T.cl, T.nEnds, tF_ends _ _ _, d, kvs, rfl, h2, _, _, rfl, rfl, _, rfl, ?_⟩
    refine if_both (fun e4 => ?_) (fun e4 => ?_)
    · refine many a b rfl rfl ha hb ne ?_
      have z := of_decide_eq_true e4
      rw [ents_len ents] at z
      omega
    · have few : rows.length < 60 := by
        have z := of_decide_eq_false e4
        rw [ents_len ents] at z
        omega
      refine ⟨_, rfl, p, _, dx, _, _, rfl, h1, T.cl, T.nBuilt, tF_built _ _ _, ?_⟩
      refine ⟨_, rfl, _, rfl, (by show 2 ≤ sizeLine; decide), fun t ht => ?_⟩
      have npt : p ≠ t := ne_of_none h1 ht
      have ndt : d ≠ t := ne_of_none h2 ht
      have newKey : valV kvs (Sum.inl (n : Int) : Key) = none := by
        have z := ents_has n ents
        cases q : valV kvs (Sum.inl (n : Int) : Key) with
        | none => rfl
        | some v =>
          rw [q] at z
          have z2 := of_decide_eq_true z.symm
          obtain ⟨r, hr1, hr2⟩ := List.mem_map.mp z2
          have := W.ok.below r hr1
          omega
      refine ⟨_, rfl, p, _, dx, _, _, rfl, (by rw [upd_ne npt]; exact h1), T.cl, T.nEnds, tF_ends _ _ _, _, rfl, d, _, rfl, DPut.k (k := Sum.inl (n : Int)) (by rw [upd_ne ndt]; exact h2) (by rw [ents_len ents]; exact Nat.lt_of_lt_of_le few (by rw [sizeLine_eq]; decide)), ?_⟩
      refine ⟨_, rfl, _, _, rfl, rfl, _, rfl, p, _, dx, _, rfl, (by rw [upd_ne npd, upd_ne npt]; exact h1), T.cl, T.nBuilt, (by show 3 < 1000; decide), ?_⟩
      refine ⟨_, rfl, ?_⟩
      refine good a b rfl rfl ha hb ne few _ ⟨⟨dx, Eq.trans upd_same (congrArg (fun l => some (HO.ins (gA K "Town") dx l)) (tF_put m d n (n + 1)))⟩, ⟨_, by rw [upd_ne npd.symm]; exact upd_same, ?_⟩, W.ok.snoc few ha hb ne, W.pm⟩ fun c o hc hcp hcd => ?_
      · rw [putK_new _ newKey]
        refine ents_snoc (r := (n, a, b)) (t := t) ?_ (ents_ext (fun t2 xs e5 => ?_) ents)
        · rw [upd_ne npt.symm, upd_ne ndt.symm]
          exact upd_same
        · rw [upd_ne (ne_of e5 h1 (by intro z; cases z)), upd_ne (ne_of e5 h2 (by intro z; cases z)), upd_ne (ne_of_none e5 ht)]
          exact e5
      · rw [upd_ne hcp, upd_ne hcd, upd_ne (ne_of_none hc ht)]
        exact hc
theorem ok_dig (T : Txt K mg) (D : FnP K "dig" "Town.dig" s_Town_dig f fd) (c_is_whole : CalX P w K mg base 1 "is_whole" spWhole) : FnOk P w K mg base (L2.CX P w) 2 f fd ["self", "street"] (spDig K (gA K "Town")) := by
  have nd := sc_Town_dig.nd
  refine D.ok sc_Town_dig (fun vs H Q E h => ?_) (fun cdv A outer s H vs Q E hr h => ?_)
  · obtain ⟨p, d, m, rows, n, x, rfl, _⟩ := h
    rfl
  · obtain ⟨p, d, m, rows, n, x, rfl, W, hx, bad, good⟩ := h
    have hu := hu_of hr
    obtain ⟨dx, h1⟩ := W.ob
    obtain ⟨kvs, h2, ents⟩ := W.dc
    have npd := W.pd
    obtain ⟨f_is_whole, fd_is_whole, ps_is_whole, F_is_whole, m_is_whole, k_is_whole, b_is_whole⟩ := c_is_whole.ex
    refine ⟨_, (pss_cons (ps_if (PW.pt (pw_or (pt_not (pt_val (pe_call F_is_whole (hr.mono (by decide)) rfl m_is_whole k_is_whole b_is_whole .nil passF (pa_cons (pv 1) (pa_cons pe_int (pa_cons (pe_op op_sub (pe_fld (pv 0) rfl) pe_int) pa_nil)))))) (pw_or1 (pt_cmp (pc_dnotin hu (pv 1) (pe_fld (pv 0) rfl)))))) (pss_one (ps_raise rfl (takes_of rfl rfl rfl rfl) (pmk_own PySem.F.excBase_ValueError T.BadStreet.x T.BadStreet.m T.BadStreet.k (raises_own T.BadStreet.b T.BadStreet.t) rfl))) pss_nil)
      (pss_one (ps_ddel (pe_fld (pv 0) rfl) (pv 1)))), ?_⟩
    refine ⟨_, rfl, _, rfl, p, _, dx, _, _, rfl, h1, T.cl, T.nBuilt, tF_built _ _ _, _, _, rfl, rfl, x, 0, _, rfl, hx, _, rfl, ?_⟩
    refine if_both (fun e => ?_) (fun e => ?_)
    · refine if_yes rfl (bad fun ⟨s, e1, e2⟩ => ?_)
      obtain ⟨r, hr1, hr2⟩ := List.mem_map.mp e2
      have lt := W.ok.below r hr1
      rw [e1, isW_true (by omega) (by omega)] at e
      cases e
    · obtain ⟨s, rfl, hs⟩ := isW_nat (show isW x 0 ((n : Int) - 1) = true by simpa using e)
      refine ⟨_, rfl, _, rfl, p, _, dx, _, _, rfl, h1, T.cl, T.nEnds, tF_ends _ _ _, d, _, rfl, DGet.k (k := Sum.inl (s : Int)) h2, _, rfl, ?_⟩
      refine if_both (fun e1 => ?_) (fun e1 => ?_)
      · refine bad fun ⟨s2, e2, e3⟩ => ?_
        have es : s2 = s := (Int.ofNat.inj (V.int.inj e2)).symm
        rw [es] at e3
        have z := ents_has s ents
        rw [decide_eq_true e3] at z
        rw [z] at e1
        cases e1
      · have there : (valV kvs (Sum.inl (s : Int) : Key)).isSome = true := by
          cases q : valV kvs (Sum.inl (s : Int) : Key) with
          | none => rw [q] at e1; cases e1
          | some v => rfl
        have hin : s ∈ rows.map (·.1) := by
          rw [ents_has s ents] at there
          exact of_decide_eq_true there
        refine ⟨_, rfl, p, _, dx, _, _, rfl, h1, T.cl, T.nEnds, tF_ends _ _ _, _, rfl, d, kvs, Sum.inl (s : Int), rfl, h2, rfl, there, ?_⟩
        refine good s rfl hin _ ⟨⟨dx, by rw [upd_ne npd]; exact h1⟩, ⟨_, upd_same, ents_ext (fun t xs e5 => ?_) (ents_drop s ents)⟩, W.ok.drop _, W.pm⟩ fun c o hc hcp hcd => ?_
        · rw [upd_ne (ne_of e5 h2 (by intro z; cases z))]
          exact e5
        · rw [upd_ne hcd]
          exact hc
end
section
variable {P : Program} {w : World} {K : PySem.W.Frag} {mg : Str → Option Value} {base : Heap} {f : Addr} {fd : FuncData}
theorem ok_streets (T : Txt K mg) (D : FnP K "streets" "Town.streets" s_Town_streets f fd) : FnOk P w K mg base (L2.CX P w) 1 f fd ["self"] (spStreets (gA K "Town")) := by
  have nd := sc_Town_streets.nd
  refine D.ok sc_Town_streets (fun vs H Q E h => ?_) (fun cdv A outer s H vs Q E hr h => ?_)
  · obtain ⟨p, d, m, rows, n, rfl, _⟩ := h
    rfl
  · obtain ⟨p, d, m, rows, n, rfl, W, k⟩ := h
    obtain ⟨dx, h1⟩ := W.ob
    obtain ⟨kvs, h2, ents⟩ := W.dc
    have npd := W.pd
    refine ⟨_, (pss_one (ps_ret (pe_lock (pe_lc (own := [("street", 1), ("one", 2), ("other", 3)]) (g := (gTup K 2 (gCons (gName 1) (gCons (gTup K 2 (gCons (gName 2) (gCons (gName 3) gNil))) gNil)))) rfl nd (pi_items (pe_fld (pv 0) rfl)) (blkOk_by (own := [("street", 1), ("one", 2), ("other", 3)]) (N := N_Town_streets) (sc := defScope s_Town_streets) (by decide +kernel)) (fun _ _ _ _ _ => (pg_tup rfl (pgs_cons (pg_name (i := 1) nd rfl (Or.inl rfl)) (pgs_cons (pg_tup rfl (pgs_cons (pg_name (i := 2) nd rfl (Or.inl rfl)) (pgs_cons (pg_name (i := 3) nd rfl (Or.inl rfl)) pgs_nil))) pgs_nil)))) (fun _ _ _ _ _ => pts_nil) (fun _ _ _ _ _ => (pe_tup (pa_cons (pv 1) (pa_cons (pv 2) (pa_cons (pv 3) pa_nil))))))))), ?_⟩
    refine ⟨d, .dK kvs, h2, trivial, fun od => ?_⟩
    refine ⟨_, rfl, p, _, dx, _, _, rfl, (by rw [upd_ne npd]; exact h1), T.cl, T.nEnds, tF_ends _ _ _, d, od, kvs, rfl, upd_same, ?_⟩
    intro D hD
    obtain ⟨nDd, hD0⟩ := upd_none hD
    have len := ents_len ents
    have small : rows.length < sizeLine := Nat.lt_of_le_of_lt W.ok.few (by rw [sizeLine_eq]; decide)
    refine lc_it walk_items (fun i H' => ∃ vs, H' D = some (.lst vs) ∧ Tups H' vs ((rows.take i).map rowV) ∧ H' d = some (.frz od (.dK kvs)) ∧ ∀ b o, b ≠ d → H b = some o → H' b = some o)
      ⟨[], upd_same, .nil, (by rw [upd_ne nDd.symm]; exact upd_same), fun b o hb e => by rw [upd_ne (ne_of_none e hD0), upd_ne hb]; exact e⟩ (fun i H' _ ⟨_, _, _, z, _⟩ => z) ?_ ?_
    · rintro i x H1 H2 hi ⟨vs, e1, e2, e3, e4⟩ ⟨t, kk, v, rfl, ht, rfl, hk, hv⟩
      obtain ⟨kv, hkv⟩ : ∃ kv, kvs[i]? = some kv := ⟨_, List.getElem?_eq_getElem hi⟩
      obtain ⟨r, t2, hr1, rfl, hr2⟩ := ents_get ents hkv
      dsimp only at hk hv
      rw [hkv] at hk hv
      cases hk
      cases hv
      have ntd : t2 ≠ d := by
        intro z
        rw [z, h2] at hr2
        cases hr2
      have nDt : D ≠ t := ne_of_none e1 ht
      have hr3 := e4 _ _ ntd hr2
      refine ⟨t, _, rfl, SqT.of upd_same, rfl, _, _, rfl, _, _, rfl, t2, _, rfl, SqT.of (by rw [upd_ne (ne_of_none hr3 ht)]; exact hr3), rfl, _, _, rfl, _, _, rfl, rfl, rfl, rfl, ?_⟩
      refine ⟨_, rfl, _, rfl, _, rfl, (by show 3 ≤ sizeLine; decide), fun q hq => ?_⟩
      obtain ⟨nqt, hq0⟩ := upd_none hq
      have nDq : D ≠ q := ne_of_none e1 hq0
      have keep : ∀ b o, b ≠ D → H1 b = some o → upd (upd (upd H1 t (.tup [.int (r.1 : Int), V.ref t2])) q (.tup (rowV r))) D (.lst (vs ++ [V.ref q])) b = some o := fun b o nb e => by
        rw [upd_ne nb, upd_ne (ne_of_none e hq0), upd_ne (ne_of_none e ht)]
        exact e
      refine ⟨vs, by rw [upd_ne nDq, upd_ne nDt]; exact e1, ?_, vs ++ [V.ref q], upd_same, ?_, ?_, ?_⟩
      · rw [tups_len e2, List.length_map, List.length_take]
        omega
      · rw [take_snoc hr1, List.map_append]
        refine tups_snoc (by rw [upd_ne nDq.symm]; exact upd_same) (tups_ext (fun b xs e => keep b _ (fun z => ?_) e) e2)
        rw [z, e1] at e
        cases e
      · exact keep _ _ nDd.symm e3
      · intro b o hb e
        exact keep b o (ne_of_none e hD0) (e4 b o hb e)
    · rintro H1 ⟨vs, e1, e2, e3, e4⟩
      rw [len, List.take_length] at e2
      refine ⟨e3, k D _ hD0 (fun b o e => ?_) ⟨vs, by rw [upd_ne nDd]; exact e1, tups_ext (fun b xs e => ?_) e2⟩⟩
      · by_cases hb : b = d
        · rw [hb, h2] at e
          cases e
          rw [hb]
          exact upd_same
        · rw [upd_ne hb]
          exact e4 b o hb e
      · rw [upd_ne (fun z => by rw [z, e3] at e; cases e)]
        exact e
end
end K05

set_option Elab.async false
set_option linter.all false
set_option maxRecDepth 100000
set_option maxHeartbeats 4000000
namespace K05
open PySem PySem.Spec PyProof.Rows L2 Own
/-! ### the law's helpers: mixed, seed, ends, pairs, many -/
def spMixed : Sp := fun vs H Q _ => ∃ (c k : Int), vs = [.int c, .int k] ∧ Fit c ∧ 0 ≤ k ∧ k ≤ 1000 ∧ ∀ r : Int, 0 ≤ r → r < 2147483629 → Q (.int r) H
def spSeed (K : PySem.W.Frag) : Sp := fun vs H Q _ => ∃ (a : Addr) (ns : List Int), vs = [.ref a] ∧ SqL K H a (ns.map V.int) ∧ (∀ z ∈ ns, Fit z) ∧ ∀ (r : Int) (H' : Hp), 0 ≤ r → r < 2147483629 → Same H H' → Q (.int r) H'
def spEnds : Sp := fun vs H Q _ => ∃ (m : Nat) (way k num : Int), vs = [.int (m : Int), .int way, .int k, .int num] ∧ 2 ≤ m ∧ m ≤ 16 ∧ 0 ≤ k ∧ 0 ≤ num ∧
  ∀ (p : Addr) (H' : Hp) (q : Pair), H p = none → Same H H' → H' p = some (.tup (pairV q)) → PairOk m q → Q (.ref p) H'
def spPairs (K : PySem.W.Frag) : Sp := fun vs H Q _ => ∃ (a : Addr) (ns : List Int) (seed : Int) (m most : Nat), vs = [.ref a, .int seed, .int (m : Int), .int (most : Int)] ∧ SqL K H a (ns.map V.int) ∧ (∀ z ∈ ns, Fit z) ∧ Fit seed ∧ 1 ≤ m ∧ m ≤ 16 ∧ ns.length ≤ 63 ∧ most ≤ 60 ∧
  ∀ (l : Addr) (H' : Hp) (ps : List Pair), H l = none → Same H H' → TL H' l (ps.map pairV) → (∀ q ∈ ps, PairOk m q) → ps.length ≤ most → (m = 1 → ps = []) → Q (.ref l) H'
def spMany : Sp := fun vs H Q _ => ∃ (seed : Int) (most : Nat), vs = [.int seed, .int (most : Int)] ∧ Fit seed ∧ 1 ≤ most ∧ ∀ (m : Nat) (H' : Hp), 1 ≤ m → m ≤ most → Same H H' → Q (.int (m : Int)) H'
abbrev s_law_mixed : Stmt := top 32
abbrev N_law_mixed : List Str := ["_law_cell", "_law_k"]
theorem sc_law_mixed : FnScope N_law_mixed ["_law_cell", "_law_k"] (defScope s_law_mixed) := ⟨rfl, rfl, rfl, by decide +kernel, rfl, by decide +kernel, by decide +kernel⟩
abbrev s_law_seed : Stmt := top 33
abbrev N_law_seed : List Str := ["_law_script", "_law_found", "_law_k", "_law_cell"]
theorem sc_law_seed : FnScope N_law_seed ["_law_script"] (defScope s_law_seed) := ⟨rfl, rfl, rfl, by decide +kernel, rfl, by decide +kernel, by decide +kernel⟩
abbrev s_law_ends : Stmt := top 34
abbrev N_law_ends : List Str := ["_law_many_here", "_law_way", "_law_k", "_law_number", "_law_one", "_law_other", "_law_same", "_law_place"]
theorem sc_law_ends : FnScope N_law_ends ["_law_many_here", "_law_way", "_law_k", "_law_number"] (defScope s_law_ends) := ⟨rfl, rfl, rfl, by decide +kernel, rfl, by decide +kernel, by decide +kernel⟩
abbrev s_law_many : Stmt := top 35
abbrev N_law_many : List Str := ["_law_seed_here", "_law_most"]
theorem sc_law_many : FnScope N_law_many ["_law_seed_here", "_law_most"] (defScope s_law_many) := ⟨rfl, rfl, rfl, by decide +kernel, rfl, by decide +kernel, by decide +kernel⟩
structure TxtL (mg : Str → Option Value) : Prop where
  f_enumerate : mg "enumerate" = none
  f_min : mg "min" = none
  f_len : mg "len" = none
  f_range : mg "range" = none
theorem min_nat (x y : Nat) : (if (y : Int) < (x : Int) then (y : Int) else (x : Int)) = ((min x y : Nat) : Int) := by
  split <;> omega
theorem max_nat (x y : Nat) : (if (y : Int) > (x : Int) then (y : Int) else (x : Int)) = ((max x y : Nat) : Int) := by
  split <;> omega
structure TxtM (mg : Str → Option Value) : Prop extends TxtL mg where
  f_list : mg "list" = none
  f_max : mg "max" = none
section
variable {P : Program} {w : World} {K : PySem.W.Frag} {mg : Str → Option Value} {base : Heap} {f : Addr} {fd : FuncData}
theorem ok_mixed (D : FnP K "_law_mixed" "_law_mixed" s_law_mixed f fd) : FnOk P w K mg base (L2.CX P w) 1 f fd ["_law_cell", "_law_k"] spMixed := by
  have nd := sc_law_mixed.nd
  refine D.ok sc_law_mixed (fun vs H Q E h => ?_) (fun cdv A outer s H vs Q E hr h => ?_)
  · obtain ⟨c, j, rfl, _⟩ := h
    rfl
  · obtain ⟨c, j, rfl, fc, j0, j1, k⟩ := h
    have sq : 0 ≤ 2 * j * j ∧ 2 * j * j ≤ 2000000 := by
      have a1 : 0 ≤ j * j := Int.mul_nonneg j0 j0
      have a2 : j * j ≤ 1000 * 1000 := Int.mul_le_mul j1 j1 j0 (by omega)
      have a3 : 2 * j * j = 2 * (j * j) := Int.mul_assoc 2 j j
      omega
    refine ⟨_, (pss_one (ps_ret (pe_op op_mod (pe_op op_mulG (pe_op op_mod (pe_op op_add (pe_op op_add (pe_op op_mulG (pv 0) (pe_op op_add pe_int (pe_op op_mulG (pe_op op_mulG pe_int (pv 1)) (pv 1)))) (pe_op op_mulG pe_int (pv 1))) pe_int) pe_int) pe_int) pe_int))), ?_⟩
    refine ⟨_, rfl, _, rfl, _, _, rfl, rfl, mul_fit (fit_range (by omega) (by omega)) (fit_range (by omega) (by omega)), _, rfl, _, _, rfl, rfl, mul_fit (fit_range (by omega) (by omega)) (fit_range (by omega) (by omega)), _, _, rfl, rfl,
      _, _, rfl, rfl, mul_fit fc (fit_range (by omega) (by omega)), _, rfl, _, _, rfl, rfl, mul_fit (fit_range (by omega) (by omega)) (fit_range (by omega) (by omega)), _, _, rfl, rfl, _, _, rfl, rfl, _, _, rfl, rfl, (by show (0 : Int) < 2147483647; decide),
      _, _, rfl, rfl, ?_, _, _, rfl, rfl, (by show (0 : Int) < 2147483629; decide), ?_⟩
    · have z := emod_lt (i := c * (48271 + 2 * j * j) + 69621 * j + 11) (m := 2147483647) (by decide)
      exact mul_fit (fit_range z.1 (by omega)) (fit_range (by omega) (by omega))
    · have z := emod_lt (i := (c * (48271 + 2 * j * j) + 69621 * j + 11) % 2147483647 * 69621) (m := 2147483629) (by decide)
      exact k _ z.1 z.2
theorem ok_seed (T : TxtL mg) (D : FnP K "_law_seed" "_law_seed" s_law_seed f fd) (c_law_mixed : CalX P w K mg base 1 "_law_mixed" spMixed) : FnOk P w K mg base (L2.CX P w) 2 f fd ["_law_script"] (spSeed K) := by
  have nd := sc_law_seed.nd
  refine D.ok sc_law_seed (fun vs H Q E h => ?_) (fun cdv A outer s H vs Q E hr h => ?_)
  · obtain ⟨a, ns, rfl, _⟩ := h
    rfl
  · obtain ⟨a, ns, rfl, hS, fits, k⟩ := h
    obtain ⟨f_law_mixed, fd_law_mixed, ps_law_mixed, F_law_mixed, m_law_mixed, k_law_mixed, b_law_mixed⟩ := c_law_mixed.ex
    refine ⟨_, (pss_cons (ps_set (i := 1) nd rfl (Or.inl rfl) pe_int)
      (pss_cons (ps_for (passes_of rfl) rfl (pi_enum rfl T.f_enumerate (pa_cons (pv 0) pa_nil)) (pg_tup rfl (pgs_cons (pg_name (i := 2) nd rfl (Or.inl rfl)) (pgs_cons (pg_name (i := 3) nd rfl (Or.inl rfl)) pgs_nil))) (pss_one (ps_set (i := 1) nd rfl (Or.inl rfl) (pe_op op_mod (pe_op op_add (pe_op op_mulG (pv 1) pe_int) (pe_call F_law_mixed (hr.mono (by decide)) rfl m_law_mixed k_law_mixed b_law_mixed .nil passF (pa_cons (pv 3) (pa_cons (pe_op op_mod (pv 2) pe_int) pa_nil)))) pe_int))))
      (pss_one (ps_ret (pv 1))))), ?_⟩
    refine ⟨_, rfl, a, _, rfl, hS, for_it walk_enum (fun i σ H' => ∃ (g : Int) (u v : Option V), σ = [some (.ref a), some (.int g), u, v] ∧ 0 ≤ g ∧ g < 2147483629 ∧ Same H H') ⟨7, none, none, rfl, by decide, by decide, Same.refl H⟩ (fun i σ H' _ ⟨_, _, _, _, _, _, sm⟩ => sm.seq hS) ?_ ?_⟩
    · rintro i x σ H1 H2 hi ⟨g, u, v, rfl, g0, g1, sm⟩ ⟨t, y, z, rfl, ht, rfl, hy, hz⟩
      cases hy
      obtain ⟨c, hc, rfl⟩ := int_item hz
      have sm2 : Same H (upd H1 t (.tup [.int (i : Int), .int c])) := sm.trans (same_new ht)
      have r60 := emod_lt (i := (i : Int)) (m := 60) (by decide)
      refine ⟨t, _, rfl, SqT.of upd_same, rfl, _, _, rfl, _, _, rfl, rfl, ?_⟩
      refine ⟨_, rfl, _, _, rfl, rfl, mul_fit (fit_range g0 (by omega)) (fit_range (by omega) (by omega)), _, rfl, _, rfl, _, _, rfl, rfl, (by show (0 : Int) < 60; decide), c, _, rfl, fits c (List.mem_of_getElem? hc), r60.1, by omega, fun r r0 r1 => ?_⟩
      refine ⟨_, _, rfl, rfl, _, _, rfl, rfl, (by show (0 : Int) < 2147483629; decide), ?_⟩
      have z := emod_lt (i := g * 999983 + r) (m := 2147483629) (by decide)
      exact ⟨_, some (.int (i : Int)), some (.int c), rfl, z.1, z.2, sm2⟩
    · rintro σ H1 ⟨g, u, v, rfl, g0, g1, sm⟩
      exact ⟨_, rfl, k g H1 g0 g1 sm⟩
theorem ok_many (T : TxtL mg) (D : FnP K "_law_many" "_law_many" s_law_many f fd) (c_law_mixed : CalX P w K mg base 1 "_law_mixed" spMixed) : FnOk P w K mg base (L2.CX P w) 2 f fd ["_law_seed_here", "_law_most"] spMany := by
  have nd := sc_law_many.nd
  refine D.ok sc_law_many (fun vs H Q E h => ?_) (fun cdv A outer s H vs Q E hr h => ?_)
  · obtain ⟨a, m, rfl, _⟩ := h
    rfl
  · obtain ⟨seed, most, rfl, fs, hm, k⟩ := h
    obtain ⟨f_law_mixed, fd_law_mixed, ps_law_mixed, F_law_mixed, m_law_mixed, k_law_mixed, b_law_mixed⟩ := c_law_mixed.ex
    refine ⟨_, (pss_one (ps_ret (pe_callB (call_min2 rfl) rfl T.f_min (by decide +kernel) (pa_cons (pv 1) (pa_cons (pe_ix ix_list (pe_lst (pa_cons pe_int (pa_cons pe_int (pa_cons pe_int (pa_cons pe_int (pa_cons pe_int (pa_cons pe_int (pa_cons pe_int (pa_cons pe_int (pa_cons pe_int (pa_cons pe_int pa_nil))))))))))) (pe_op op_mod (pe_call F_law_mixed (hr.mono (by decide)) rfl m_law_mixed k_law_mixed b_law_mixed .nil passF (pa_cons (pv 0) (pa_cons pe_int pa_nil))) pe_int) (fun _ _ => rfl)) pa_nil))))), ?_⟩
    refine ⟨_, rfl, (by show 10 ≤ sizeLine; decide), fun l hl => ?_⟩
    refine ⟨_, rfl, seed, 60, rfl, fs, by decide, by decide, fun r r0 r1 => ?_⟩
    refine ⟨_, _, rfl, rfl, (by show (0 : Int) < 10; decide), ?_⟩
    have z := emod_lt (i := r) (m := 10) (by decide)
    obtain ⟨v, hv, hin⟩ := at_lt (xs := [V.int 1, V.int 2, V.int 3, V.int 4, V.int 5, V.int 6, V.int 7, V.int 9, V.int 12, V.int 16]) z.1 z.2
    obtain ⟨j, rfl, j0⟩ : ∃ j : Nat, v = V.int (j : Int) ∧ 1 ≤ j := by
      simp only [List.mem_cons, List.not_mem_nil, or_false] at hin
      rcases hin with h | h | h | h | h | h | h | h | h | h <;> rw [h]
      · exact ⟨1, rfl, by decide⟩
      · exact ⟨2, rfl, by decide⟩
      · exact ⟨3, rfl, by decide⟩
      · exact ⟨4, rfl, by decide⟩
      · exact ⟨5, rfl, by decide⟩
      · exact ⟨6, rfl, by decide⟩
      · exact ⟨7, rfl, by decide⟩
      · exact ⟨9, rfl, by decide⟩
      · exact ⟨12, rfl, by decide⟩
      · exact ⟨16, rfl, by decide⟩
    refine ⟨l, _, _, _, rfl, rfl, SqL.of upd_same, hv, _, _, rfl, ?_⟩
    by_cases lt : (j : Int) < (most : Int)
    · rw [if_pos lt]
      exact k j _ j0 (by omega) (same_new hl)
    · rw [if_neg lt]
      exact k most _ hm (Nat.le_refl _) (same_new hl)
end
end K05

set_option Elab.async false
set_option linter.all false
set_option maxRecDepth 100000
set_option maxHeartbeats 4000000
namespace K05
open PySem PySem.Spec PyProof.Rows L2 Own
section
variable {P : Program} {w : World} {K : PySem.W.Frag} {mg : Str → Option Value} {base : Heap} {f : Addr} {fd : FuncData}
theorem ok_ends (T : TxtL mg) (D : FnP K "_law_ends" "_law_ends" s_law_ends f fd) : FnOk P w K mg base (L2.CX P w) 1 f fd ["_law_many_here", "_law_way", "_law_k", "_law_number"] spEnds := by
  have nd := sc_law_ends.nd
  refine D.ok sc_law_ends (fun vs H Q E h => ?_) (fun cdv A outer s H vs Q E hr h => ?_)
  · obtain ⟨m, way, j, num, rfl, _⟩ := h
    rfl
  · obtain ⟨m, way, j, num, rfl, hm, hm2, j0, n0, k⟩ := h
    refine ⟨_, (pss_cons (ps_set (i := 4) nd rfl (Or.inr rfl) (pe_op op_mod (pv 3) (pv 0)))
      (pss_cons (ps_set (i := 5) nd rfl (Or.inl rfl) (pe_op op_mod (pe_op op_add (pe_op op_add (pv 4) pe_int) (pe_op op_mod (pe_op op_fdiv (pv 3) pe_int) (pe_op op_sub (pv 0) pe_int))) (pv 0)))
      (pss_cons (ps_if (PW.pt (pw_and (pt_cmpR op_eq (pv 1) pe_int (nomark _)) (pw_and1 (pt_cmpR op_lt (pe_op op_add (pv 2) pe_int) (pv 0) (nomark _))))) (pss_one (ps_ret (pe_tup (pa_cons (pe_op op_add (pv 2) pe_int) (pa_cons (pe_op op_mod (pv 3) (pe_op op_add (pv 2) pe_int)) pa_nil))))) pss_nil)
      (pss_cons (ps_if (pt_cmpR op_eq (pv 1) pe_int (nomark _)) (pss_cons (ps_setLc (own := [("_law_place", 7)]) (g := (gName 7)) (i := 6) rfl nd rfl rfl (sw_true rfl rfl rfl (by decide +kernel)) (pi_range1 rfl T.f_range (pa_cons (pv 0) pa_nil)) (blkOk_by (own := [("_law_place", 7)]) (N := N_law_ends) (sc := defScope s_law_ends) (by decide +kernel)) (fun _ _ _ _ _ => (pg_name (i := 7) nd rfl (Or.inl rfl))) (fun _ _ _ _ _ => (pts_one (PW.pt (pw_and (pt_cmpR op_eq (pe_op op_mod (pv 7) pe_int) (pe_op op_mod (pv 4) pe_int) (nomark _)) (pw_and1 (pt_cmpR op_ne (pv 7) (pv 4) (nomark _))))))) (fun _ _ _ _ _ => (pv 7)))
      (pss_one (ps_ret (pe_ifExp (pt_cmpR (op_neD hr.units) (pv 6) (pe_lst pa_nil) (nomark _)) (pe_tup (pa_cons (pv 4) (pa_cons (pe_ix ix_list (pv 6) (pe_op op_mod (pe_op op_fdiv (pv 3) pe_int) (pe_callB call_len_seq rfl T.f_len PySem.boot_len (pa_cons (pv 6) pa_nil))) (fun _ _ => rfl)) pa_nil))) (pe_tup (pa_cons (pv 4) (pa_cons (pv 5) pa_nil))))))) pss_nil)
      (pss_cons (ps_if (pt_cmpR op_eq (pv 1) pe_int (nomark _)) (pss_one (ps_ret (pe_tup (pa_cons (pv 4) (pa_cons (pe_op op_mod (pe_op op_add (pe_op op_add (pv 4) pe_int) (pe_op op_mulG (pe_op op_mod (pe_op op_fdiv (pv 3) pe_int) pe_int) (pe_op op_sub (pv 0) pe_int))) (pv 0)) pa_nil))))) pss_nil)
      (pss_one (ps_ret (pe_tup (pa_cons (pv 4) (pa_cons (pv 5) pa_nil)))))))))), ?_⟩
    obtain ⟨o0, o1⟩ := emod_lt (i := num) (m := (m : Int)) (by omega)
    obtain ⟨s0, s1, s2⟩ := step_ends (m := m) (one := num % (m : Int)) (num := num / 20) hm o0 o1
    have plain : ∀ {p : Addr} {H1 H2 : Hp} {u v : Int}, Same H H1 → H1 p = none → Same H1 H2 → H2 p = some (.tup [.int u, .int v]) → 0 ≤ u → u < m → 0 ≤ v → v < m → u ≠ v → Q (.ref p) H2 := by
      intro p H1 H2 u v sm hp sm2 e u0 u1 v0 v1 ne
      exact k p H2 _ (sm.free hp) (sm.trans sm2) (by rw [pair_nat u0 v0]; exact e) (pair_ok u0 u1 v0 v1 ne)
    refine ⟨_, rfl, _, rfl, _, _, rfl, rfl, (by show (0 : Int) < (m : Int); omega), ?_⟩
    refine ⟨_, rfl, _, _, rfl, rfl, _, rfl, _, _, rfl, rfl, ⟨by decide, by decide⟩, _, rfl, _, _, rfl, rfl, _, _, rfl, rfl, (by show (0 : Int) < (m : Int) - 1; omega), _, _, rfl, rfl, _, rfl, _, _, rfl, rfl, (by show (0 : Int) < (m : Int); omega), ?_⟩
    refine (fun rest => ⟨_, rfl, rfl, _, rfl, if_both (fun e1 => ⟨_, rfl, _, _, rfl, rfl, _, rfl, _, _, rfl, rfl, _, rfl, if_both (fun e2 => ?new) (fun _ => rest)⟩) (fun _ => rest)⟩) ?rest
    case new =>
      -- a new place
      have lt := of_decide_eq_true e2
      obtain ⟨z0, z1⟩ := emod_lt (i := num) (m := j + 1) (by omega)
      exact ⟨_, rfl, _, _, rfl, rfl, _, rfl, _, rfl, _, _, rfl, rfl, _, _, rfl, rfl, (by show (0 : Int) < j + 1; omega), (by show 2 ≤ sizeLine; decide), fun p hp => plain (Same.refl H) hp (same_new hp) upd_same (by omega) lt z0 (by omega) (by omega)⟩
    case rest =>
      refine ⟨_, rfl, rfl, _, rfl, if_both (fun e1 => ?_) (fun _ => ?_)⟩
      · -- every second place
        refine ⟨_, rfl, (m : Int), rfl, by omega, by omega, fun L hL => ?_⟩
        refine lc_it walk_range (fun i H' => ∃ js : List Int, H' L = some (.lst (js.map V.int)) ∧ (∀ z ∈ js, 0 ≤ z ∧ z < m ∧ z ≠ num % (m : Int)) ∧ js.length ≤ i ∧ Same H H') ⟨[], upd_same, fun z hz => (nomatch hz), Nat.le_refl _, same_new hL⟩ (fun _ _ _ _ => trivial) ?_ ?_
        · rintro i x H1 H2 hi ⟨js, e2, e3, e4, sm⟩ ⟨rfl, rfl⟩
          have skip : ∃ js : List Int, H2 L = some (.lst (js.map V.int)) ∧ (∀ z ∈ js, 0 ≤ z ∧ z < m ∧ z ≠ num % (m : Int)) ∧ js.length ≤ i + 1 ∧ Same H H2 := ⟨js, e2, e3, Nat.le_succ_of_le e4, sm⟩
          refine ⟨rfl, _, rfl, _, _, rfl, rfl, (by show (0 : Int) < 2; decide), _, rfl, _, _, rfl, rfl, (by show (0 : Int) < 2; decide), rfl, _, rfl, if_both (fun _ => ⟨_, rfl, _, rfl, rfl, _, rfl, if_both (fun c2 => ?_) (fun _ => skip)⟩) (fun _ => skip)⟩
          refine ⟨_, rfl, _, e2, ?_, js ++ [0 + (i : Int)], by rw [List.map_append]; exact upd_same, fun z hz => ?_, by rw [List.length_append]; show js.length + 1 ≤ i + 1; omega, fun b o e => ?_⟩
          · rw [List.length_map, sizeLine_eq]
            omega
          · rcases List.mem_append.mp hz with h | h
            · exact e3 z h
            · rw [List.mem_singleton] at h
              have ne : ¬ (0 + (i : Int) = num % (m : Int)) := by
                intro y
                have c3 : (!decide (V.int (0 + (i : Int)) = V.int (num % (m : Int)))) = true := c2
                rw [y] at c3
                simp at c3
              have : (i : Int) < (m : Int) := by omega
              rw [h]
              omega
          · rw [upd_ne (ne_of_none e hL)]
            exact sm b o e
        · rintro H1 ⟨js, e2, e3, e4, sm⟩
          refine ⟨_, rfl, (by show 0 ≤ sizeLine; decide), fun L2 hL2 => ?_⟩
          have nLL : L ≠ L2 := ne_of_none e2 hL2
          have at2 : upd H1 L2 (.lst []) L = some (.lst (js.map V.int)) := by
            rw [upd_ne nLL]
            exact e2
          refine ⟨_, _, .lst (SqL.of at2) (dp_ints js), .lst (SqL.of upd_same) .nil, (lay_ints js).shaped (by decide), (lay_ints []).shaped (by decide), _, rfl, ?_⟩
          have sm2 : Same H (upd H1 L2 (.lst [])) := sm.trans (same_new hL2)
          cases js with
          | nil =>
            rw [show PyData.eqv (.list (([] : List Int).map PyData.int)) (.list []) = true from eqv_nil_nil]
            refine ⟨_, rfl, _, rfl, (by show 2 ≤ sizeLine; decide), fun p hp => plain sm2 hp (same_new hp) upd_same o0 o1 s0 s1 (Ne.symm s2)⟩
          | cons j1 js =>
            rw [show PyData.eqv (.list ((j1 :: js).map PyData.int)) (.list []) = false from eqv_cons_nil _ _]
            have pos : (0 : Int) < (((j1 :: js).map V.int).length : Int) := by
              rw [List.length_map, List.length_cons]
              omega
            obtain ⟨v, hv, hin⟩ := at_mod (xs := (j1 :: js).map V.int) (i := num / 20) (by simp)
            obtain ⟨z, hz, rfl⟩ := List.mem_map.mp hin
            obtain ⟨b0, b1, b2⟩ := e3 z hz
            exact ⟨_, rfl, _, rfl, _, rfl, _, _, rfl, rfl, ⟨by decide, by decide⟩, _, rfl, L, _, rfl, .inl (SqL.of at2), _, _, rfl, rfl, pos, L, _, _, _, rfl, rfl, SqL.of at2, hv, (by show 2 ≤ sizeLine; decide), fun p hp => plain sm2 hp (same_new hp) upd_same o0 o1 b0 b1 (Ne.symm b2)⟩
      · refine ⟨_, rfl, rfl, _, rfl, if_both (fun e1 => ?_) (fun _ => ?_)⟩
        · -- neighbours
          obtain ⟨t0, t1, t2⟩ : 0 ≤ (num % (m : Int) + 1 + num / 20 % 2 * ((m : Int) - 2)) % m ∧ (num % (m : Int) + 1 + num / 20 % 2 * ((m : Int) - 2)) % m < m ∧ (num % (m : Int) + 1 + num / 20 % 2 * ((m : Int) - 2)) % m ≠ num % (m : Int) := by
            have half : num / 20 % 2 = 0 ∨ num / 20 % 2 = 1 := by omega
            rcases half with z | z <;> rw [z]
            · rw [Int.zero_mul, Int.add_zero]
              have q := step_ends (m := m) (one := num % (m : Int)) (num := 0) hm o0 o1
              rw [Int.zero_emod, Int.add_zero] at q
              exact q
            · rw [Int.one_mul]
              have q := step_ends (m := m) (one := num % (m : Int)) (num := (m : Int) - 2) hm o0 o1
              have same : ((m : Int) - 2) % ((m : Int) - 1) = (m : Int) - 2 := Int.emod_eq_of_lt (by omega) (by omega)
              rw [same] at q
              exact q
          exact ⟨_, rfl, _, rfl, _, _, rfl, rfl, _, rfl, _, _, rfl, rfl, ⟨by decide, by decide⟩, _, _, rfl, rfl, (by show (0 : Int) < 2; decide), _, rfl, _, _, rfl, rfl, _, _, rfl, rfl, mul_fit (fit_range (by omega) (by omega)) (fit_range (by omega) (by omega)), _, _, rfl, rfl, _, rfl, _, _, rfl, rfl, (by show (0 : Int) < (m : Int); omega), (by show 2 ≤ sizeLine; decide), fun p hp => plain (Same.refl H) hp (same_new hp) upd_same o0 o1 t0 t1 (Ne.symm t2)⟩
        · exact ⟨_, rfl, _, rfl, (by show 2 ≤ sizeLine; decide), fun p hp => plain (Same.refl H) hp (same_new hp) upd_same o0 o1 s0 s1 (Ne.symm s2)⟩
end
end K05

set_option Elab.async false
set_option linter.all false
set_option maxRecDepth 100000
set_option maxHeartbeats 4000000
namespace K05
open PySem PySem.Spec PyProof.Rows L2 Own
/-! ### walks: both_ways, walks_from, come_to -/
structure TxtG (mg : Str → Option Value) : Prop where
  f_sorted : mg "sorted" = none
  f_any : mg "any" = none
  f_range : mg "range" = none
def spBoth : Sp := fun vs H Q _ => ∃ (l : Addr) (rows : List TRow), vs = [.ref l] ∧ TL H l (rows.map rowV) ∧ rows.length ≤ 60 ∧
  ∀ (r : Addr) (H' : Hp), H r = none → Same H H' → TL H' r ((bothWays rows).map rowV) → Q (.ref r) H'
/-- a dict's entries: places, the walk to each -/
abbrev WEnts (H : Hp) : List (Key × V) → Walks → Prop := Paired fun kv e => kv.1 = (Sum.inl (e.1 : Int) : Key) ∧ ∃ t, kv.2 = V.ref t ∧ TL H t (e.2.map rowV)
def spWalks : Sp := fun vs H Q _ => ∃ (l : Addr) (p m : Nat) (steps : List TRow), vs = [.ref l, .int (p : Int)] ∧ TL H l (steps.map rowV) ∧ (∀ q ∈ ends steps, q.1 < m ∧ q.2 < m) ∧ p < m ∧ m ≤ 16 ∧
  ∀ (d : Addr) (kvs : List (Key × V)) (H' : Hp), H d = none → Same H H' → H' d = some (.dK kvs) → WEnts H' kvs (walksF steps p) → Q (.ref d) H'
def spCome : Sp := fun vs H Q _ => ∃ (l : Addr) (p m : Nat) (rows : List TRow), vs = [.ref l, .int (p : Int)] ∧ TL H l (rows.map rowV) ∧ (∀ q ∈ ends rows, q.1 < m ∧ q.2 < m) ∧ p < m ∧ m ≤ 16 ∧ rows.length ≤ 60 ∧
  ∀ (r : Addr) (H' : Hp), H r = none → Same H H' → H' r = some (.lst ((cls m (ends rows) p).map natV)) → Q (.ref r) H'
theorem keys_has : ∀ {kvs : List (Key × V)} {S : List Nat} (q : Nat), kvs.map (·.1) = S.map (fun (q : Nat) => (Sum.inl (q : Int) : Key)) → (valV kvs (Sum.inl (q : Int) : Key)).isSome = decide (q ∈ S)
  | [], [], q, _ => by simp [valV_nil]
  | [], _ :: _, _, h => by cases h
  | _ :: _, [], _, h => by cases h
  | kv :: kvs, s :: S, q, h => by
    have h1 : kv.1 = (Sum.inl (s : Int) : Key) := (List.cons.inj h).1
    have h2 := (List.cons.inj h).2
    by_cases e : q = s
    · rw [valV_pos (by rw [h1, e])]
      simp [e]
    · rw [valV_neg (by rw [h1]; exact fun z => e (Int.ofNat.inj (Sum.inl.inj z)).symm), keys_has q h2]
      simp [e]
theorem wents_keys {H : Hp} : ∀ {kvs : List (Key × V)} {W : Walks}, WEnts H kvs W → kvs.map (·.1) = (wk W).map fun (q : Nat) => (Sum.inl (q : Int) : Key)
  | _, _, .nil => rfl
  | kv :: kvs, e :: W, .cons ⟨h, _⟩ q => by
    show kv.1 :: kvs.map (·.1) = _
    rw [h, wents_keys q]
    rfl
theorem wents_len {H : Hp} {kvs : List (Key × V)} {W : Walks} (h : WEnts H kvs W) : kvs.length = W.length := Paired.length h
theorem wents_ext {H H' : Hp} : ∀ {kvs : List (Key × V)} {W : Walks}, WEnts H kvs W → (∀ t, (∃ kv ∈ kvs, kv.2 = V.ref t) → ∀ xss, TL H t xss → TL H' t xss) → WEnts H' kvs W
  | _, _, .nil, _ => .nil
  | kv :: kvs, e :: W, .cons ⟨h, t, h1, h2⟩ q, k => .cons ⟨h, t, h1, k t ⟨kv, List.mem_cons_self .., h1⟩ _ h2⟩ (wents_ext q fun t ⟨x, hx, e⟩ => k t ⟨x, List.mem_cons_of_mem _ hx, e⟩)
theorem wents_same {H H' : Hp} {kvs : List (Key × V)} {W : Walks} (h : WEnts H kvs W) (s : Same H H') : WEnts H' kvs W := wents_ext h fun _ _ _ z => tl_same z s
theorem wents_app {H : Hp} {k : Nat} {t : Addr} {w : List TRow} (ht : TL H t (w.map rowV)) : ∀ {kvs : List (Key × V)} {W : Walks}, WEnts H kvs W → WEnts H (kvs ++ [((Sum.inl (k : Int) : Key), V.ref t)]) (W ++ [(k, w)])
  | _, _, .nil => .cons ⟨rfl, t, rfl, ht⟩ .nil
  | _, _, .cons z q => .cons z (wents_app ht q)
theorem wents_put {H : Hp} {kvs : List (Key × V)} {W : Walks} {k : Nat} (v : V) (h : WEnts H kvs W) (n : k ∉ wk W) : putK kvs (Sum.inl (k : Int) : Key) v = kvs ++ [((Sum.inl (k : Int) : Key), v)] := by
  have has := keys_has k (wents_keys h)
  rw [← valV_any] at has
  unfold putK
  rw [if_neg (by rw [has, decide_eq_false n]; exact Bool.false_ne_true)]
theorem wents_get {H : Hp} : ∀ {kvs : List (Key × V)} {W : Walks} {k : Nat}, WEnts H kvs W → k ∈ wk W → ∃ t, valV kvs (Sum.inl (k : Int) : Key) = some (V.ref t) ∧ TL H t ((walkTo W k).map rowV)
  | _, _, _, .nil, h => absurd h List.not_mem_nil
  | kv :: kvs, e :: W, k, .cons ⟨h, t, h1, h2⟩ q, hk => by
    by_cases c : e.1 = k
    · refine ⟨t, by rw [valV_pos (by rw [h, c]), h1], ?_⟩
      have z : walkTo (e :: W) k = e.2 := by
        unfold walkTo
        rw [List.find?_cons_of_pos (by exact decide_eq_true c)]
        rfl
      rw [z]
      exact h2
    · have hk' : k ∈ wk W := by
        rcases List.mem_cons.mp hk with z | z
        · exact (c z.symm).elim
        · exact z
      obtain ⟨t', g1, g2⟩ := wents_get q hk'
      refine ⟨t', by rw [valV_neg (by rw [h]; exact fun z => c (Int.ofNat.inj (Sum.inl.inj z)))]; exact g1, ?_⟩
      have z : walkTo (e :: W) k = walkTo W k := by
        unfold walkTo
        rw [List.find?_cons_of_neg (by rw [decide_eq_false c]; exact Bool.false_ne_true)]
      rw [z]
      exact g2
theorem tl_over {H : Hp} {l q : Addr} {xss : List (List V)} {xs : List V} {o : HO} (t : TL H l xss) (h : H q = some (.lst xs)) (n : l ≠ q) : TL (upd H q o) l xss := by
  obtain ⟨vs, e, tv⟩ := t
  exact ⟨vs, by rw [upd_ne n]; exact e, tups_over h tv⟩
abbrev s_both_ways : Stmt := top 9
abbrev N_both_ways : List Str := ["streets", "told", "street", "one", "other"]
theorem sc_both_ways : FnScope N_both_ways ["streets"] (defScope s_both_ways) := ⟨rfl, rfl, rfl, by decide +kernel, rfl, by decide +kernel, by decide +kernel⟩
abbrev s_walks_from : Stmt := top 10
abbrev N_walks_from : List Str := ["steps", "place", "walks", "waiting", "at", "step"]
theorem sc_walks_from : FnScope N_walks_from ["steps", "place"] (defScope s_walks_from) := ⟨rfl, rfl, rfl, by decide +kernel, rfl, by decide +kernel, by decide +kernel⟩
abbrev s_come_to : Stmt := top 11
abbrev N_come_to : List Str := ["streets", "place"]
theorem sc_come_to : FnScope N_come_to ["streets", "place"] (defScope s_come_to) := ⟨rfl, rfl, rfl, by decide +kernel, rfl, by decide +kernel, by decide +kernel⟩
section
variable {P : Program} {w : World} {K : PySem.W.Frag} {mg : Str → Option Value} {base : Heap} {f : Addr} {fd : FuncData}
theorem ok_both_ways (D : FnP K "both_ways" "both_ways" s_both_ways f fd) : FnOk P w K mg base (L2.CX P w) 1 f fd ["streets"] spBoth := by
  have nd := sc_both_ways.nd
  refine D.ok sc_both_ways (fun vs H Q E h => ?_) (fun cdv A outer s H vs Q E hr h => ?_)
  · obtain ⟨l, rows, rfl, _⟩ := h
    rfl
  · obtain ⟨l, rows, rfl, ⟨vs, el, tv⟩, few, k⟩ := h
    refine ⟨_, (pss_cons (ps_set (i := 1) nd rfl (Or.inl rfl) (pe_lst pa_nil))
      (pss_cons (ps_for (passes_of rfl) rfl (pi_list (pv 0)) (pg_tup rfl (pgs_cons (pg_name (i := 2) nd rfl (Or.inl rfl)) (pgs_cons (pg_name (i := 3) nd rfl (Or.inl rfl)) (pgs_cons (pg_name (i := 4) nd rfl (Or.inl rfl)) pgs_nil)))) (pss_cons (ps_expr (pe_bm PySem.F.plainAttrs_list PySem.F.slot_list_append PySem.F.type_list_append mt_append (pv 1) (pa_cons (pe_tup (pa_cons (pv 2) (pa_cons (pv 3) (pa_cons (pv 4) pa_nil)))) pa_nil)))
      (pss_one (ps_expr (pe_bm PySem.F.plainAttrs_list PySem.F.slot_list_append PySem.F.type_list_append mt_append (pv 1) (pa_cons (pe_tup (pa_cons (pv 2) (pa_cons (pv 4) (pa_cons (pv 3) pa_nil)))) pa_nil))))))
      (pss_one (ps_ret (pv 1))))), ?_⟩
    have lvs : vs.length = rows.length := by rw [tups_len tv, List.length_map]
    refine ⟨(by show 0 ≤ sizeLine; decide), fun D0 hD0 => ?_⟩
    refine ⟨_, rfl, l, rfl, ⟨vs, SqL.of (same_new hD0 _ _ el)⟩, for_it walk_list (fun i σ H' => ∃ (zs : List V) (u2 u3 u4 : Option V), σ = [some (.ref l), some (.ref D0), u2, u3, u4] ∧ H' D0 = some (.lst zs) ∧ Tups H' zs ((bothWays (rows.take i)).map rowV) ∧ Same H H')
      ⟨[], none, none, none, rfl, upd_same, .nil, same_new hD0⟩ (fun i σ H' _ ⟨_, _, _, _, _, _, _, z⟩ => SqL.of (z _ _ el)) ?_ ?_⟩
    · rintro i x σ H2 H3 hi ⟨zs, u2, u3, u4, rfl, e1, e2, sm⟩ ⟨rfl, hx⟩
      obtain ⟨t, xs, rfl, hxs, ht⟩ := tups_get tv hx
      obtain ⟨r, hr0⟩ : ∃ r, rows[i]? = some r := ⟨_, List.getElem?_eq_getElem (by omega)⟩
      rw [List.getElem?_map, hr0] at hxs
      cases hxs
      have lz : zs.length = 2 * i := by
        rw [tups_len e2, List.length_map, both_len, List.length_take]
        omega
      refine ⟨t, _, rfl, SqT.of (sm _ _ ht), rfl, _, _, rfl, _, _, rfl, _, _, rfl, rfl, ?_⟩
      refine ⟨_, rfl, .inl ⟨rfl, _, SqL.of e1⟩, _, rfl, _, rfl, _, rfl, (by show 3 ≤ sizeLine; decide), fun q hq => ?_⟩
      have ct := same_new (o := .tup (rowV r)) hq
      have e1' := ct _ _ e1
      have e2' : Tups (upd H3 q (.tup (rowV r))) zs _ := tups_ext (fun t xs e => ct _ _ e) e2
      have eq' := upd_same (H := H3) (a := q) (o := .tup (rowV r))
      refine ⟨D0, _, _, rfl, rfl, e1', by rw [sizeLine_eq]; omega, ?_⟩
      have e3 := upd_same (H := upd H3 q (.tup (rowV r))) (a := D0) (o := .lst (zs ++ [V.ref q]))
      have t3 : Tups (upd (upd H3 q (.tup (rowV r))) D0 (.lst (zs ++ [V.ref q]))) (zs ++ [V.ref q]) ((bothWays (rows.take i)).map rowV ++ [rowV r]) := tups_snoc (by rw [upd_ne (ne_of eq' e1' (by intro z; cases z))]; exact eq') (tups_over e1' e2')
      have sm3 : Same H (upd (upd H3 q (.tup (rowV r))) D0 (.lst (zs ++ [V.ref q]))) := same_over hD0 (sm.trans ct)
      refine ⟨_, rfl, .inl ⟨rfl, _, SqL.of e3⟩, _, rfl, _, rfl, _, rfl, (by show 3 ≤ sizeLine; decide), fun q2 hq2 => ?_⟩
      have ct2 := same_new (o := .tup (rowV (flipR r))) hq2
      have e4 := ct2 _ _ e3
      have t4 := tups_ext (fun t xs e => ct2 _ _ e) t3
      have eq2 := upd_same (H := upd (upd H3 q (.tup (rowV r))) D0 (.lst (zs ++ [V.ref q]))) (a := q2) (o := .tup (rowV (flipR r)))
      refine ⟨D0, _, _, rfl, rfl, e4, by rw [List.length_append, sizeLine_eq]; show zs.length + 1 < _; omega, (zs ++ [V.ref q]) ++ [V.ref q2], _, _, _, rfl, upd_same, ?_, same_over hD0 (sm3.trans ct2)⟩
      rw [take_snoc hr0, both_snoc, List.map_append]
      show Tups _ _ (_ ++ ([rowV r] ++ [rowV (flipR r)]))
      rw [← List.append_assoc]
      exact tups_snoc (by rw [upd_ne (ne_of eq2 e4 (by intro z; cases z))]; exact eq2) (tups_over e4 t4)
    · rintro σ H2 ⟨zs, u2, u3, u4, rfl, e1, e2, sm⟩
      rw [List.take_of_length_le (by omega)] at e2
      exact ⟨_, rfl, k D0 H2 hD0 sm ⟨zs, e1, e2⟩⟩
theorem ok_walks_from (D : FnP K "walks_from" "walks_from" s_walks_from f fd) : FnOk P w K mg base (L2.CX P w) 1 f fd ["steps", "place"] spWalks := by
  have nd := sc_walks_from.nd
  refine D.ok sc_walks_from (fun vs H Q E h => ?_) (fun cdv A outer s H vs Q E hr h => ?_)
  · obtain ⟨l, p, m, rows, rfl, _⟩ := h
    rfl
  · obtain ⟨l, p, m, rows, rfl, ⟨vs, el, tv⟩, inm, hp, m16, k⟩ := h
    have hu := hu_of hr
    refine ⟨_, (pss_cons (ps_set (i := 2) nd rfl (Or.inl rfl) (pe_disp (pps_cons (pv 1) (pe_lst pa_nil) pps_nil) rfl rfl (by intro z; cases z) (by decide)))
      (pss_cons (ps_set (i := 3) nd rfl (Or.inl rfl) (pe_lst (pa_cons (pv 1) pa_nil)))
      (pss_cons (ps_while (passes_of rfl) (pt_truth (pv 3) (by intro _; rfl)) (pss_cons (ps_set (i := 4) nd rfl (Or.inl rfl) (pe_bm PySem.F.plainAttrs_list PySem.F.slot_list_pop PySem.F.type_list_pop mt_popAt (pv 3) (pa_cons pe_int pa_nil)))
      (pss_one (ps_for (passes_of rfl) rfl (pi_list (pv 0)) (pg_name (i := 5) nd rfl (Or.inl rfl)) (pss_one (ps_if (PW.pt (pw_and (pt_cmpR op_eq (pe_ix ix_tup (pv 5) pe_int (fun _ _ => rfl)) (pv 4) (nomark _)) (pw_and1 (pt_cmp (pc_dnotin hu (pe_ix ix_tup (pv 5) pe_int (fun _ _ => rfl)) (pv 2)))))) (pss_cons (ps_dput hu (pv 2) (pe_ix ix_tup (pv 5) pe_int (fun _ _ => rfl)) (pe_op op_cat (pe_dget hu (pv 2) (pv 4) (fun _ _ => rfl)) (pe_lst (pa_cons (pv 5) pa_nil))) rfl)
      (pss_one (ps_expr (pe_bm PySem.F.plainAttrs_list PySem.F.slot_list_append PySem.F.type_list_append mt_append (pv 3) (pa_cons (pe_ix ix_tup (pv 5) pe_int (fun _ _ => rfl)) pa_nil))))) pss_nil))))))
      (pss_one (ps_ret (pv 2)))))), ?_⟩
    have lvs : vs.length = rows.length := by rw [tups_len tv, List.length_map]
    refine fun da hda => ⟨_, rfl, (by show 0 ≤ sizeLine; decide), fun ea hea => ⟨by rw [upd_ne (fun z => by rw [← z, upd_same] at hea; cases hea)]; exact upd_same, [((Sum.inl (p : Int) : Key), V.ref ea)], rfl, (by show 1 ≤ 15; decide), ?_⟩⟩
    have nda : da ≠ ea := fun z => by
      rw [← z, upd_same] at hea
      cases hea
    have hea0 : H ea = none := by
      rw [upd_ne nda.symm] at hea
      exact hea
    have e1 : upd (upd (upd H da (.dK [])) ea (.lst [])) da (.dK (mergeK [] [((Sum.inl (p : Int) : Key), V.ref ea)])) da = some (.dK [((Sum.inl (p : Int) : Key), V.ref ea)]) := upd_same
    have e2 : upd (upd (upd H da (.dK [])) ea (.lst [])) da (.dK (mergeK [] [((Sum.inl (p : Int) : Key), V.ref ea)])) ea = some (.lst []) := by rw [upd_ne nda.symm, upd_same]
    have sm0 : Same H (upd (upd (upd H da (.dK [])) ea (.lst [])) da (.dK (mergeK [] [((Sum.inl (p : Int) : Key), V.ref ea)]))) := same_over hda (same_over hea0 (same_new hda))
    refine (fun (rest : ∀ H0, H0 da = some (.dK [((Sum.inl (p : Int) : Key), V.ref ea)]) → H0 ea = some (.lst []) → Same H H0 → (_ : Hp → Prop) H0) => rest _ e1 e2 sm0) ?rest
    clear e1 e2 sm0 hea
    intro H0 e1 e2 sm0
    refine ⟨_, rfl, (by show 1 ≤ sizeLine; decide), fun wa hwa => ?_⟩
    have cw := same_new (o := .lst [V.int (p : Int)]) hwa
    have hwa0 : H wa = none := sm0.free hwa
    have d0 := cw _ _ e1
    have t0 := cw _ _ e2
    have w0 := upd_same (H := H0) (a := wa) (o := .lst [V.int (p : Int)])
    have sm1 := sm0.trans cw
    have nwe : ea ≠ wa := fun z => by
      rw [z, hwa] at e2
      cases e2
    generalize upd H0 wa (.lst [V.int (p : Int)]) = H1 at *
    clear e1 e2 sm0 cw hwa H0
    refine ⟨fun mu σ H' => ∃ (W : Walks) (q : List Nat) (kvs : List (Key × V)) (u4 u5 : Option V), σ = [some (.ref l), some (.int (p : Int)), some (.ref da), some (.ref wa), u4, u5] ∧ H' da = some (.dK kvs) ∧ H' wa = some (.lst (q.map natV)) ∧ WEnts H' kvs W ∧ (∀ kv ∈ kvs, kv.2 ≠ V.ref wa) ∧ BfsI rows p m (W, q) ∧ walksF rows p = bfs rows mu (W, q) ∧ q.length + (m - W.length) ≤ mu ∧ mu ≤ 16 ∧ Same H H',
      ⟨16, [(p, [])], [p], _, none, none, rfl, d0, w0, .cons ⟨rfl, ea, rfl, [], t0, .nil⟩ .nil, fun kv hkv z => ?_, bfs_start hp, rfl, (by show 1 + (m - 1) ≤ 16; omega), Nat.le_refl _, sm1⟩, ?_⟩
    · rw [List.mem_singleton.mp hkv] at z
      exact nwe (V.ref.inj z)
    clear d0 w0 t0 sm1 nwe hea0 nda
    rintro mu σ H1 ⟨W, q, kvs, u4, u5, rfl, ed, ew, we, clean, I, eqF, meas, m17, sm⟩
    refine ⟨_, rfl, !(q.map natV).isEmpty, .inl ⟨_, SqL.of ew, rfl⟩, ?_⟩
    cases q with
    | nil =>
      rw [bfs_nil] at eqF
      rw [← eqF] at we
      exact ⟨_, rfl, k da kvs H1 hda sm ed we⟩
    | cons a q =>
      obtain ⟨n, rfl⟩ : ∃ n, mu = n + 1 := ⟨mu - 1, by have : (q.length + 1) + _ ≤ mu := meas; omega⟩
      have meas : (q.length + 1) + (m - W.length) ≤ n + 1 := meas
      have eqF : walksF rows p = bfs rows n (rows.foldl (stepW a) (W, q)) := eqF
      have ha : a ∈ wk W := I.sub a (List.mem_cons_self ..)
      have I0 : BfsI rows p m (W, q) := ⟨I.tree, I.lt, fun x hx => I.sub x (List.mem_cons_of_mem _ hx)⟩
      have ew : H1 wa = some (.lst (natV a :: q.map natV)) := ew
      refine ⟨fun σ H' => ∃ (W : Walks) (q : List Nat) (kvs : List (Key × V)) (u4 u5 : Option V), σ = [some (.ref l), some (.int (p : Int)), some (.ref da), some (.ref wa), u4, u5] ∧ H' da = some (.dK kvs) ∧ H' wa = some (.lst (q.map natV)) ∧ WEnts H' kvs W ∧ (∀ kv ∈ kvs, kv.2 ≠ V.ref wa) ∧ BfsI rows p m (W, q) ∧ walksF rows p = bfs rows n (W, q) ∧ q.length + (m - W.length) ≤ n ∧ n ≤ 16 ∧ Same H H',
        fun σ' H' z => ⟨n, by omega, z⟩, ?_⟩
      have lq : q.length ≤ 16 := by omega
      refine ⟨_, rfl, .inl ⟨rfl, _, SqL.of ew⟩, wa, _, 0, 0, natV a, rfl, rfl, ew, by decide, by decide, ?_, rfl, ?_⟩
      · simp [seqIndex?]
      rw [show (natV a :: q.map natV).eraseIdx 0 = q.map natV from rfl]
      have ew2 := upd_same (H := H1) (a := wa) (o := .lst (q.map natV))
      have ed2 : upd H1 wa (.lst (q.map natV)) da = some (.dK kvs) := by rw [upd_ne (ne_of ed ew (by intro z; cases z))]; exact ed
      have we2 : WEnts (upd H1 wa (.lst (q.map natV))) kvs W := wents_ext we fun t ⟨kv, h1, h2⟩ xss z => tl_over z ew fun y => clean kv h1 (by rw [h2, y])
      have sm2 : Same H (upd H1 wa (.lst (q.map natV))) := same_over hwa0 sm
      generalize upd H1 wa (.lst (q.map natV)) = H2 at *
      clear ed we sm
      refine ⟨_, rfl, l, rfl, ⟨vs, SqL.of (sm2 _ _ el)⟩, for_it walk_list (fun i σ' H' => ∃ (kvs : List (Key × V)) (u5 : Option V), σ' = [some (.ref l), some (.int (p : Int)), some (.ref da), some (.ref wa), some (natV a), u5] ∧ H' da = some (.dK kvs) ∧ H' wa = some (.lst (((rows.take i).foldl (stepW a) (W, q)).2.map natV)) ∧ WEnts H' kvs ((rows.take i).foldl (stepW a) (W, q)).1 ∧ (∀ kv ∈ kvs, kv.2 ≠ V.ref wa) ∧ Same H H')
        ⟨kvs, u5, rfl, ed2, ew2, we2, clean, sm2⟩ (fun i σ' H' _ ⟨_, _, _, _, _, _, _, z⟩ => SqL.of (z _ _ el)) ?_ ?_⟩
      · rintro i x σ H3 H4 hi ⟨kvs', u5', rfl, ed', ew', we', clean', sm'⟩ ⟨rfl, hx⟩
        obtain ⟨t, xs, rfl, hxs, ht⟩ := tups_get tv hx
        obtain ⟨r, hr0⟩ : ∃ r, rows[i]? = some r := ⟨_, List.getElem?_eq_getElem (by omega)⟩
        rw [List.getElem?_map, hr0] at hxs
        cases hxs
        have ht3 := sm' _ _ ht
        have rin := List.mem_of_getElem? hr0
        have bnd := inm _ (List.mem_map.mpr ⟨r, rin, rfl⟩)
        have F := fold_W (a := a) (xs := rows.take i) I0 ha fun st hst => ⟨List.mem_of_mem_take hst, (inm _ (List.mem_map.mpr ⟨st, List.mem_of_mem_take hst, rfl⟩)).2⟩
        rw [take_snoc hr0, List.foldl_append]
        generalize (rows.take i).foldl (stepW a) (W, q) = S at *
        have sz : S.2.length + W.length = q.length + S.1.length := F.size
        have ls := bfsI_len F.I
        have lS : S.1.length ≤ m := ls
        have lk := wents_len we'
        have dq : decide (V.int (r.2.1 : Int) = natV a) = decide (r.2.1 = a) := decide_eq_decide.mpr ⟨fun z => Int.ofNat.inj (V.int.inj z), fun z => by rw [z]; rfl⟩
        refine ⟨_, rfl, t, _, _, _, rfl, rfl, SqT.of ht3, atI_nat (j := 1) rfl, _, rfl, rfl, ?_⟩
        rw [dq]
        refine ⟨_, rfl, ?_⟩
        by_cases eh : r.2.1 = a
        · rw [decide_eq_true eh]
          refine ⟨_, rfl, t, _, _, _, rfl, rfl, SqT.of ht3, atI_nat (j := 2) rfl, _, rfl, da, _, rfl, DGet.k (k := Sum.inl (r.2.2 : Int)) ed', _, rfl, ?_⟩
          rw [keys_has r.2.2 (wents_keys we')]
          by_cases hb : r.2.2 ∈ wk S.1
          · rw [decide_eq_true hb]
            refine ⟨kvs', _, rfl, ed', ?_, ?_, clean', sm'⟩
            · show H4 wa = some (.lst ((stepW a S r).2.map natV))
              rw [stepW_no (fun z => z.2 hb)]
              exact ew'
            · show WEnts H4 kvs' (stepW a S r).1
              rw [stepW_no (fun z => z.2 hb)]
              exact we'
          · rw [decide_eq_false hb]
            obtain ⟨tw, g1, g2, g3, g4⟩ := wents_get we' (F.keep a ha)
            have gd : DGet H4 da (natV a) (some (V.ref tw)) := by
              rw [← g1]
              exact DGet.k (k := Sum.inl (a : Int)) ed'
            refine ⟨_, rfl, _, rfl, da, V.ref tw, rfl, gd, ?_⟩
            refine ⟨_, rfl, (by show 1 ≤ sizeLine; decide), fun q1 hq1 => ?_⟩
            have c1 := same_new (o := .lst [V.ref t]) hq1
            have wl : (walkTo S.1 a).length < S.1.length := (tree_run F.I.tree _ (walkTo_mem (F.keep a ha))).2.2
            have lg : g2.length < 16 := by
              rw [tups_len g4, List.length_map]
              omega
            refine ⟨tw, q1, _, _, rfl, rfl, c1 _ _ g3, upd_same, by rw [sizeLine_eq]; show g2.length + 1 ≤ _; omega, fun q2 hq2 => ?_⟩
            have c2 := c1.trans (same_new (o := .lst (g2 ++ [V.ref t])) hq2)
            have e2 := upd_same (H := upd H4 q1 (.lst [V.ref t])) (a := q2) (o := .lst (g2 ++ [V.ref t]))
            have fq2 : H4 q2 = none := c1.free hq2
            generalize upd (upd H4 q1 (.lst [V.ref t])) q2 (.lst (g2 ++ [V.ref t])) = H6 at *
            have nqw : q2 ≠ wa := fun z => by
              rw [z, ew'] at fq2
              cases fq2
            have sm6 := sm'.trans c2
            have tn : TL H6 q2 ((walkTo S.1 a ++ [r]).map rowV) := ⟨_, e2, by rw [List.map_append]; exact tups_snoc (c2 _ _ ht3) (tups_ext (fun t xs e => c2 _ _ e) g4)⟩
            have we5 := wents_same we' c2
            have we6 := wents_app (k := r.2.2) tn we5
            have ed6 := c2 _ _ ed'
            have ew6 := c2 _ _ ew'
            have ht6 := c2 _ _ ht3
            clear hq1 hq2 c1 c2 ed' ew' we' sm' g1 g3 g4 gd
            refine ⟨_, rfl, _, rfl, t, _, _, _, rfl, rfl, SqT.of ht6, atI_nat (j := 2) rfl, da, _, rfl, .inl ⟨kvs', Sum.inl (r.2.2 : Int), ed6, rfl, by rw [lk, sizeLine_eq]; omega, rfl⟩, ?_⟩
            rw [wents_put (V.ref q2) we5 hb]
            have ntd : ∀ t' xss, TL H6 t' xss → t' ≠ da := fun t' xss ⟨_, e, _⟩ z => by
              rw [z, ed6] at e
              cases e
            have we7 : WEnts (upd H6 da (.dK (kvs' ++ [((Sum.inl (r.2.2 : Int) : Key), V.ref q2)]))) (kvs' ++ [((Sum.inl (r.2.2 : Int) : Key), V.ref q2)]) (S.1 ++ [(r.2.2, walkTo S.1 a ++ [r])]) := wents_ext we6 fun t' _ xss z => by
              obtain ⟨vs', z1, z2⟩ := id z
              exact ⟨vs', by rw [upd_ne (ntd t' xss z)]; exact z1, tups_ext (fun t xs e => by rw [upd_ne (ne_of e ed6 (by intro z; cases z))]; exact e) z2⟩
            have ed7 := upd_same (H := H6) (a := da) (o := .dK (kvs' ++ [((Sum.inl (r.2.2 : Int) : Key), V.ref q2)]))
            have ew7 : upd H6 da (.dK (kvs' ++ [((Sum.inl (r.2.2 : Int) : Key), V.ref q2)])) wa = some (.lst (S.2.map natV)) := by rw [upd_ne (ne_of ew6 ed6 (by intro z; cases z))]; exact ew6
            have ht7 : upd H6 da (.dK (kvs' ++ [((Sum.inl (r.2.2 : Int) : Key), V.ref q2)])) t = some (.tup (rowV r)) := by rw [upd_ne (ne_of ht6 ed6 (by intro z; cases z))]; exact ht6
            have sm7 : Same H (upd H6 da (.dK (kvs' ++ [((Sum.inl (r.2.2 : Int) : Key), V.ref q2)]))) := same_over hda sm6
            generalize upd H6 da (.dK (kvs' ++ [((Sum.inl (r.2.2 : Int) : Key), V.ref q2)])) = H7 at *
            refine ⟨_, rfl, .inl ⟨rfl, _, SqL.of ew7⟩, _, rfl, t, _, _, _, rfl, rfl, SqT.of ht7, atI_nat (j := 2) rfl, wa, _, _, rfl, rfl, ew7, by rw [List.length_map, sizeLine_eq]; omega, kvs' ++ [((Sum.inl (r.2.2 : Int) : Key), V.ref q2)], some (.ref t), rfl, ?_, ?_, ?_, fun kv hkv => ?_, same_over hwa0 sm7⟩
            · rw [upd_ne (ne_of ed7 ew7 (by intro z; cases z))]
              exact ed7
            · show _ = some (HO.lst ((stepW a S r).2.map natV))
              rw [stepW_yes eh hb, upd_same, List.map_append]
              rfl
            · show WEnts _ _ (stepW a S r).1
              rw [stepW_yes eh hb]
              exact wents_ext we7 fun t' ⟨kv, h1, h2⟩ xss z => tl_over z ew7 fun y => by
                rcases List.mem_append.mp h1 with h1 | h1
                · exact clean' kv h1 (by rw [h2, y])
                · rw [List.mem_singleton.mp h1] at h2
                  exact nqw ((V.ref.inj h2).trans y)
            · rcases List.mem_append.mp hkv with h1 | h1
              · exact clean' kv h1
              · rw [List.mem_singleton.mp h1]
                exact fun y => nqw (V.ref.inj y)
        · rw [decide_eq_false eh]
          refine ⟨kvs', _, rfl, ed', ?_, ?_, clean', sm'⟩
          · show H4 wa = some (.lst ((stepW a S r).2.map natV))
            rw [stepW_no (fun z => eh z.1)]
            exact ew'
          · show WEnts H4 kvs' (stepW a S r).1
            rw [stepW_no (fun z => eh z.1)]
            exact we'
      · rintro σ' H3 ⟨kvs', u5', rfl, ed', ew', we', clean', sm'⟩
        have F := fold_W (a := a) (xs := rows) I0 ha fun st hst => ⟨hst, (inm _ (List.mem_map.mpr ⟨st, hst, rfl⟩)).2⟩
        rw [List.take_of_length_le (by omega)] at ew' we'
        have sz : (rows.foldl (stepW a) (W, q)).2.length + W.length = q.length + (rows.foldl (stepW a) (W, q)).1.length := F.size
        have l1 : (rows.foldl (stepW a) (W, q)).1.length ≤ m := bfsI_len F.I
        have l0 : W.length ≤ m := bfsI_len I0
        exact ⟨_, _, kvs', _, _, rfl, ed', ew', we', clean', F.I, eqF, by omega, by omega, sm'⟩
theorem ok_come (T : TxtG mg) (D : FnP K "come_to" "come_to" s_come_to f fd) (c_both_ways : CalX P w K mg base 1 "both_ways" spBoth) (c_walks_from : CalX P w K mg base 1 "walks_from" spWalks) : FnOk P w K mg base (L2.CX P w) 2 f fd ["streets", "place"] spCome := by
  have nd := sc_come_to.nd
  refine D.ok sc_come_to (fun vs H Q E h => ?_) (fun cdv A outer s H vs Q E hr h => ?_)
  · obtain ⟨l, p, m, rows, rfl, _⟩ := h
    rfl
  · obtain ⟨l, p, m, rows, rfl, tl, inm, hp, m16, few, k⟩ := h
    obtain ⟨f_both_ways, fd_both_ways, ps_both_ways, F_both_ways, m_both_ways, k_both_ways, b_both_ways⟩ := c_both_ways.ex
    obtain ⟨f_walks_from, fd_walks_from, ps_walks_from, F_walks_from, m_walks_from, k_walks_from, b_walks_from⟩ := c_walks_from.ex
    refine ⟨_, (pss_one (ps_ret (pe_callB (call_sortedDI rfl) rfl T.f_sorted (by decide +kernel) (pa_cons (pe_call F_walks_from (hr.mono (by decide)) rfl m_walks_from k_walks_from b_walks_from .nil passF (pa_cons (pe_call F_both_ways (hr.mono (by decide)) rfl m_both_ways k_both_ways b_both_ways .nil passF (pa_cons (pv 0) pa_nil)) (pa_cons (pv 1) pa_nil))) pa_nil)))), ?_⟩
    refine ⟨_, rfl, l, rows, rfl, tl, few, fun b H1 hb sm1 tb => ?_⟩
    refine ⟨_, rfl, b, p, m, bothWays rows, rfl, tb, both_in inm, hp, m16, fun d kvs H2 hd sm2 ed we => ?_⟩
    have spec := walks_spec (both_in inm) hp m16
    have len := walks_len (both_in inm) hp m16
    have keys := wents_keys we
    refine ⟨d, kvs, (wk (walksF (bothWays rows) p)).map (fun (q : Nat) => (q : Int)), rfl, .of ed, ?_, ?_, fun ys r perm up hr => ?_⟩
    · rw [keys, List.map_map]
      rfl
    · rw [List.length_map]
      unfold wk
      rw [List.length_map]
      omega
    · have e := sorted_cls perm up (tree_nd spec.1) (cls_up (m := m) (ps := ends rows) (p := p)) fun x => ?_
      · refine k r _ ((sm1.trans sm2).free hr) ((sm1.trans sm2).trans (same_new hr)) ?_
        rw [upd_same, e, List.map_map]
        rfl
      · rw [mem_cls, spec.2, led_both]
end
end K05

set_option Elab.async false
set_option linter.all false
set_option maxRecDepth 100000
set_option maxHeartbeats 4000000
namespace K05
open PySem PySem.Spec PyProof.Rows L2 Own
/-! ### parts_along -/
def natL (yss : List (List Nat)) : List (List V) := yss.map fun ys => ys.map natV
def spPartsAlong : Sp := fun vs H Q _ => ∃ (l : Addr) (m : Nat) (rows : List TRow), vs = [.int (m : Int), .ref l] ∧ TL H l (rows.map rowV) ∧ (∀ q ∈ ends rows, q.1 < m ∧ q.2 < m) ∧ m ≤ 16 ∧ rows.length ≤ 60 ∧
  ∀ (r : Addr) (zs : List V) (H' : Hp), H r = none → Same H H' → H' r = some (.lst zs) → NewL H H' r zs (natL (partsOf m (ends rows))) → Q (.ref r) H'
theorem inV_nat (q : Nat) (ys : List Nat) : inV (.int (q : Int)) (ys.map natV) = decide (q ∈ ys) := by
  induction ys with
  | nil => rfl
  | cons y ys ih =>
    show (eqV (natV y) (.int (q : Int)) || inV (.int (q : Int)) (ys.map natV)) = _
    rw [ih]
    show (((y : Int) == (q : Int)) || decide (q ∈ ys)) = _
    by_cases h : q = y
    · subst h
      simp
    · have n : ((y : Int) == (q : Int)) = false := by
        rw [beq_eq_false_iff_ne]
        exact fun z => h (Int.ofNat.inj z).symm
      rw [n]
      simp [h]
theorem flat_nat (ys : List Nat) : (ys.map natV).all flatV = true := by
  rw [List.all_map]
  exact List.all_eq_true.mpr fun _ _ => rfl
theorem heads_succ (ps : Join) (i : Nat) (hl : Least ps i) : heads (i + 1) ps = heads i ps ++ [i] := by
  unfold heads
  rw [List.range_succ, List.filter_append, List.filter_cons, if_pos ((@decide_eq_true_iff _ (Classical.propDecidable _)).mpr hl)]
  rfl
theorem heads_skip (ps : Join) (i : Nat) (hl : ¬ Least ps i) : heads (i + 1) ps = heads i ps := by
  unfold heads
  rw [List.range_succ, List.filter_append, List.filter_cons, if_neg (fun z => hl ((@decide_eq_true_iff _ (Classical.propDecidable _)).mp z))]
  exact List.append_nil _
/-- whether a part told so far holds the place -/
theorem any_heads {ps : Join} {m i : Nat} (hi : i < m) : (heads i ps).any (fun h => decide (i ∈ cls m ps h)) = true ↔ ¬ Least ps i := by
  rw [List.any_eq_true]
  constructor
  · rintro ⟨h, h1, h2⟩ l
    exact l h (mem_heads.mp h1).1 (mem_cls.mp (of_decide_eq_true h2)).2
  · intro n
    obtain ⟨h, h1, h2, h3⟩ := least_of ps i
    have lt : h < i := by
      rcases Nat.lt_or_eq_of_le h1 with z | z
      · exact z
      · exact (n (z ▸ h3)).elim
    exact ⟨h, mem_heads.mpr ⟨lt, h3⟩, decide_eq_true (mem_cls.mpr ⟨hi, h2⟩)⟩
abbrev s_parts_along : Stmt := top 12
abbrev N_parts_along : List Str := ["many", "streets", "told", "place", "part"]
theorem sc_parts_along : FnScope N_parts_along ["many", "streets"] (defScope s_parts_along) := ⟨rfl, rfl, rfl, by decide +kernel, rfl, by decide +kernel, by decide +kernel⟩
section
variable {P : Program} {w : World} {K : PySem.W.Frag} {mg : Str → Option Value} {base : Heap} {f : Addr} {fd : FuncData}
theorem ok_parts_along (T : TxtG mg) (D : FnP K "parts_along" "parts_along" s_parts_along f fd) (c_come_to : CalX P w K mg base 2 "come_to" spCome) : FnOk P w K mg base (L2.CX P w) 3 f fd ["many", "streets"] spPartsAlong := by
  have nd := sc_parts_along.nd
  refine D.ok sc_parts_along (fun vs H Q E h => ?_) (fun cdv A outer s H vs Q E hr h => ?_)
  · obtain ⟨l, m, rows, rfl, _⟩ := h
    rfl
  · obtain ⟨l, m, rows, rfl, tl, inm, m16, few, k⟩ := h
    obtain ⟨f_come_to, fd_come_to, ps_come_to, F_come_to, m_come_to, k_come_to, b_come_to⟩ := c_come_to.ex
    refine ⟨_, (pss_cons (ps_set (i := 2) nd rfl (Or.inl rfl) (pe_lst pa_nil))
      (pss_cons (ps_for (passes_of rfl) rfl (pi_range1 rfl T.f_range (pa_cons (pv 0) pa_nil)) (pg_name (i := 3) nd rfl (Or.inr rfl)) (pss_one (ps_if (pt_not (pt_val (pe_callB (cr_any rfl) rfl T.f_any (by decide +kernel) (pa_cons (pe_lc (own := [("part", 4)]) (g := (gName 4)) (te := tOp (rIn K false) (tVar 3) (tVar 4)) rfl nd (pi_list (pv 2)) (blkOk_by (own := [("part", 4)]) (N := N_parts_along) (sc := defScope s_parts_along) (by decide +kernel)) (fun _ _ _ _ _ => (pg_name (i := 4) nd rfl (Or.inl rfl))) (fun _ _ _ _ _ => pts_nil) (fun _ _ _ _ _ => (pe_cmpR op_in_seq (pv 3) (pv 4) (by with_unfolding_all rfl)))) pa_nil)))) (pss_one (ps_expr (pe_bm PySem.F.plainAttrs_list PySem.F.slot_list_append PySem.F.type_list_append mt_append (pv 2) (pa_cons (pe_call F_come_to (hr.mono (by decide)) rfl m_come_to k_come_to b_come_to .nil passF (pa_cons (pv 1) (pa_cons (pv 3) pa_nil))) pa_nil)))) pss_nil)))
      (pss_one (ps_ret (pv 2))))), ?_⟩
    refine ⟨(by show 0 ≤ sizeLine; decide), fun D0 hD0 => ?_⟩
    have sm0 := same_new (o := .lst []) hD0
    refine ⟨_, rfl, (m : Int), rfl, by omega, by omega, for_it walk_range (fun i σ H' => ∃ (zs : List V) (u1 : Option V), σ = [some (.int (m : Int)), some (.ref l), some (.ref D0), u1, none] ∧ H' D0 = some (.lst zs) ∧ NewL H H' D0 zs (natL ((heads i (ends rows)).map (cls m (ends rows)))) ∧ Same H H') ⟨[], none, rfl, upd_same, .nil, sm0⟩ (fun _ _ _ _ _ => trivial) ?_ ?_⟩
    · rintro i x σ H1 H2 hi ⟨zs, u1, rfl, ez, nz, sm⟩ ⟨rfl, ex⟩
      dsimp only at ex
      rw [Int.zero_add] at ex
      subst ex
      have im : i < m := by omega
      have hl0 : (heads i (ends rows)).length ≤ i := heads_len
      have lz : zs.length = (heads i (ends rows)).length := by
        rw [Paired.length nz]
        unfold natL
        rw [List.length_map, List.length_map]
      refine ⟨_, rfl, D0, rfl, ⟨zs, SqL.of ez⟩, fun D2 hD2 => ?_⟩
      have c2 := same_new (o := .lst []) hD2
      refine lc_it (walk_list (K := K) (xs := zs)) (fun j H' => H' D2 = some (.lst (((heads i (ends rows)).take j).map fun h => V.bl (decide (i ∈ cls m (ends rows) h)))) ∧ Same H2 H') ⟨upd_same, c2⟩ (fun _ _ _ z => SqL.of (z.2 _ _ ez)) ?_ ?_
      · rintro j x H3 H4 hj ⟨e3, sm3⟩ ⟨rfl, hx⟩
        obtain ⟨t, ys, hx1, hy, nt, z1, z2⟩ := newL_get nz hj
        rw [hx] at hx1
        cases hx1
        obtain ⟨h, hh⟩ : ∃ h, (heads i (ends rows))[j]? = some h := ⟨_, List.getElem?_eq_getElem (by omega)⟩
        have ey : ys = (cls m (ends rows) h).map natV := by
          unfold natL at hy
          rw [List.getElem?_map, List.getElem?_map, hh] at hy
          exact (Option.some.inj hy).symm
        subst ey
        refine ⟨rfl, _, rfl, _, rfl, t, _, rfl, .inl (SqL.of (sm3 _ _ z2)), rfl, flat_nat _, ?_⟩
        rw [inV_nat]
        refine ⟨_, e3, by rw [List.length_map, List.length_take, sizeLine_eq]; omega, ?_, fun b o e => ?_⟩
        · rw [upd_same, take_snoc hh, List.map_append]
          rfl
        · rw [upd_ne (ne_of_none e hD2)]
          exact sm3 _ _ e
      · rintro H3 ⟨e3, sm3⟩
        rw [List.take_of_length_le (by omega)] at e3
        refine ⟨D2, (heads i (ends rows)).map (fun h => decide (i ∈ cls m (ends rows) h)), rfl, SqL.of (by rw [e3, List.map_map]; rfl), _, rfl, ?_⟩
        have ez3 := sm3 _ _ ez
        have nz3 : NewL H H3 D0 zs (natL ((heads i (ends rows)).map (cls m (ends rows)))) := newL_ext (fun t ys _ _ e => sm3 _ _ e) nz
        have smC := sm.trans sm3
        have key := any_heads (ps := ends rows) im
        have ea : ((heads i (ends rows)).map (fun h => decide (i ∈ cls m (ends rows) h))).any id = (heads i (ends rows)).any fun h => decide (i ∈ cls m (ends rows) h) := by
          rw [List.any_map]
          rfl
        rw [ea]
        by_cases hL : Least (ends rows) i
        · have an : ((heads i (ends rows)).any fun h => decide (i ∈ cls m (ends rows) h)) = false := by
            cases z : (heads i (ends rows)).any fun h => decide (i ∈ cls m (ends rows) h) with
            | false => rfl
            | true => exact (key.mp z hL).elim
          rw [an]
          refine ⟨_, rfl, .inl ⟨rfl, _, SqL.of ez3⟩, _, rfl, _, rfl, l, i, m, rows, rfl, tl_same tl smC, inm, im, m16, few, fun r H4 hr4 sm4 er => ?_⟩
          have nrD : r ≠ D0 := fun z => by
            rw [z, ez3] at hr4
            cases hr4
          refine ⟨D0, zs, _, rfl, rfl, sm4 _ _ ez3, by rw [sizeLine_eq]; omega, zs ++ [V.ref r], _, rfl, upd_same, ?_, same_over hD0 (smC.trans sm4)⟩
          rw [heads_succ _ _ hL, List.map_append]
          unfold natL
          rw [List.map_append]
          exact newL_snoc nrD (smC.free hr4) (by rw [upd_ne nrD]; exact er) (newL_ext (fun t ys n _ e => by rw [upd_ne n]; exact sm4 _ _ e) nz3)
        · have an : ((heads i (ends rows)).any fun h => decide (i ∈ cls m (ends rows) h)) = true := key.mpr hL
          rw [an]
          refine ⟨zs, _, rfl, ez3, ?_, smC⟩
          rw [heads_skip _ _ hL]
          exact nz3
    · rintro σ H1 ⟨zs, u1, rfl, ez, nz, sm⟩
      exact ⟨_, rfl, k D0 zs H1 hD0 sm ez nz⟩
end
end K05

set_option Elab.async false
set_option linter.all false
set_option maxRecDepth 100000
set_option maxHeartbeats 4000000
namespace K05
open PySem PySem.Spec PyProof.Rows L2 Own
/-! ### walks and parting -/
theorem town_inm {C : Addr} {H : Hp} {p d : Addr} {m : Nat} {rows : List TRow} {n : Nat} (T : TownAt C H p d m rows n) : ∀ q ∈ ends rows, q.1 < m ∧ q.2 < m := fun q hq => by
  obtain ⟨r, hr, rfl⟩ := List.mem_map.mp hq
  obtain ⟨a, b, _⟩ := T.ok.ends r hr
  exact ⟨a, b⟩
theorem newL_free {H H1 H2 : Hp} {r : Addr} (sm : Same H H1) : ∀ {vs : List V} {yss : List (List V)}, NewL H1 H2 r vs yss → NewL H H2 r vs yss
  | _, _, .nil => .nil
  | _, _, .cons ⟨t, e, n, z, h⟩ q => .cons ⟨t, e, n, sm.free z, h⟩ (newL_free sm q)
def spReached (K : PySem.W.Frag) (C : Addr) : Sp := fun vs H Q E => ∃ (p d : Addr) (m : Nat) (rows : List TRow) (n : Nat) (x : V), vs = [.ref p, x] ∧ TownAt C H p d m rows n ∧ (∃ t, tyName x H = some t) ∧
  (isW x 0 ((m : Int) - 1) = false → ∀ H', Same H H' → E (.ref (gA K "BadPlace")) none H') ∧
  (∀ q : Nat, x = .int (q : Int) → q < m → ∀ (r : Addr) (H' : Hp), H r = none → Same H H' → H' r = some (.lst ((cls m (ends rows) q).map natV)) → Q (.ref r) H')
def spPartsT (C : Addr) : Sp := fun vs H Q _ => ∃ (p d : Addr) (m : Nat) (rows : List TRow) (n : Nat), vs = [.ref p] ∧ TownAt C H p d m rows n ∧
  ∀ (r : Addr) (zs : List V) (H' : Hp), H r = none → Same H H' → H' r = some (.lst zs) → NewL H H' r zs (natL (partsOf m (ends rows))) → Q (.ref r) H'
def spApart : Sp := fun vs H Q _ => ∃ (l t m : Nat) (rows : List TRow) (r : TRow), vs = [.ref l, .ref t] ∧ TL H l (rows.map rowV) ∧ (∀ q ∈ ends rows, q.1 < m ∧ q.2 < m) ∧ m ≤ 16 ∧ rows.length ≤ 60 ∧ r ∈ rows ∧ H t = some (.tup (rowV r)) ∧
  ∀ H', Same H H' → Q (.bl (bridge rows r)) H'
abbrev s_parts : Stmt := top 28
abbrev N_parts : List Str := ["town"]
theorem sc_parts : FnScope N_parts ["town"] (defScope s_parts) := ⟨rfl, rfl, rfl, by decide +kernel, rfl, by decide +kernel, by decide +kernel⟩
abbrev s_parts_its_ends : Stmt := top 18
abbrev N_parts_its_ends : List Str := ["streets", "row", "street", "one", "other", "left", "kept"]
theorem sc_parts_its_ends : FnScope N_parts_its_ends ["streets", "row"] (defScope s_parts_its_ends) := ⟨rfl, rfl, rfl, by decide +kernel, rfl, by decide +kernel, by decide +kernel⟩
section
variable {P : Program} {w : World} {K : PySem.W.Frag} {mg : Str → Option Value} {base : Heap} {f : Addr} {fd : FuncData}
theorem ok_parts (D : FnP K "parts" "parts" s_parts f fd) (c_parts_along : CalX P w K mg base 3 "parts_along" spPartsAlong)
    (c_Town_places : MetX P w K mg base 1 (gA K "Town") "places" (spPlaces (gA K "Town"))) (c_Town_streets : MetX P w K mg base 1 (gA K "Town") "streets" (spStreets (gA K "Town"))) : FnOk P w K mg base (L2.CX P w) 4 f fd ["town"] (spPartsT (gA K "Town")) := by
  have nd := sc_parts.nd
  refine D.ok sc_parts (fun vs H Q E h => ?_) (fun cdv A outer s H vs Q E hr h => ?_)
  · obtain ⟨p, d, m, rows, n, rfl, _⟩ := h
    rfl
  · obtain ⟨p, d, m, rows, n, rfl, W, k⟩ := h
    obtain ⟨f_parts_along, fd_parts_along, ps_parts_along, F_parts_along, m_parts_along, k_parts_along, b_parts_along⟩ := c_parts_along.ex
    obtain ⟨f_Town_places, fd_Town_places, ps_Town_places, c_Town_places, M_Town_places, F_Town_places, b_Town_places⟩ := c_Town_places.ex
    obtain ⟨f_Town_streets, fd_Town_streets, ps_Town_streets, c_Town_streets, M_Town_streets, F_Town_streets, b_Town_streets⟩ := c_Town_streets.ex
    refine ⟨_, (pss_one (ps_ret (pe_call F_parts_along (hr.mono (by decide)) rfl m_parts_along k_parts_along b_parts_along .nil passF (pa_cons (pe_meth0 (pv 0) c_Town_places M_Town_places F_Town_places (hr.mono (by decide)) b_Town_places .nil passF) (pa_cons (pe_meth0 (pv 0) c_Town_streets M_Town_streets F_Town_streets (hr.mono (by decide)) b_Town_streets .nil passF) pa_nil))))), ?_⟩
    obtain ⟨dx, hp⟩ := W.ob
    refine ⟨_, rfl, p, dx, _, rfl, hp, tF_no _ _ _ (by decide +kernel) (by decide +kernel) (by decide +kernel), p, d, m, rows, n, rfl, W, ?_⟩
    refine ⟨_, rfl, p, dx, _, rfl, hp, tF_no _ _ _ (by decide +kernel) (by decide +kernel) (by decide +kernel), p, d, m, rows, n, rfl, W, fun l H1 hl sm tl => ?_⟩
    exact ⟨l, m, rows, rfl, tl, (town_inm W), W.pm.2, W.ok.few, fun r zs H2 hr2 sm2 er nz => k r zs H2 (sm.free hr2) (sm.trans sm2) er (newL_free sm nz)⟩
theorem ok_apart (D : FnP K "_parts_its_ends" "_parts_its_ends" s_parts_its_ends f fd) (c_come_to : CalX P w K mg base 2 "come_to" spCome) : FnOk P w K mg base (L2.CX P w) 3 f fd ["streets", "row"] spApart := by
  have nd := sc_parts_its_ends.nd
  refine D.ok sc_parts_its_ends (fun vs H Q E h => ?_) (fun cdv A outer s H vs Q E hr h => ?_)
  · obtain ⟨l, t, m, rows, r, rfl, _⟩ := h
    rfl
  · obtain ⟨l, t, m, rows, r, rfl, tl, inm, m16, few, hr0, ht, k⟩ := h
    obtain ⟨f_come_to, fd_come_to, ps_come_to, F_come_to, m_come_to, k_come_to, b_come_to⟩ := c_come_to.ex
    refine ⟨_, (pss_cons (ps_asg (pv 1) (pg_tup rfl (pgs_cons (pg_name (i := 2) nd rfl (Or.inr rfl)) (pgs_cons (pg_name (i := 3) nd rfl (Or.inl rfl)) (pgs_cons (pg_name (i := 4) nd rfl (Or.inl rfl)) pgs_nil)))))
      (pss_cons (ps_setLc (own := [("kept", 6)]) (g := (gName 6)) (tt := tTest (tOp rNe (tOp (rIxT K) (tVar 6) (tC (.int 0))) (tVar 2))) (i := 5) rfl nd rfl rfl (sw_true rfl rfl rfl (by decide +kernel)) (pi_list (pv 0)) (blkOk_by (own := [("kept", 6)]) (N := N_parts_its_ends) (sc := defScope s_parts_its_ends) (by decide +kernel)) (fun _ _ _ _ _ => (pg_name (i := 6) nd rfl (Or.inl rfl))) (fun _ _ _ _ _ => (pts_one (pt_cmpR op_ne (pe_ix ix_tup (pv 6) pe_int (fun _ _ => rfl)) (pv 2) (nomark _)))) (fun _ _ _ _ _ => (pv 6)))
      (pss_one (ps_ret (pe_cmpR op_notIn_seq (pv 4) (pe_call F_come_to (hr.mono (by decide)) rfl m_come_to k_come_to b_come_to .nil passF (pa_cons (pv 5) (pa_cons (pv 3) pa_nil))) (by with_unfolding_all rfl)))))), ?_⟩
    obtain ⟨vs, el, tv⟩ := tl
    have lvs : vs.length = rows.length := by rw [tups_len tv, List.length_map]
    refine ⟨_, rfl, t, _, rfl, SqT.of ht, rfl, _, _, rfl, _, _, rfl, _, _, rfl, rfl, ?_⟩
    refine ⟨_, rfl, l, rfl, ⟨vs, SqL.of el⟩, fun D0 hD0 => ?_⟩
    have c0 := same_new (o := .lst []) hD0
    refine lc_it (walk_list (K := K) (xs := vs)) (fun i H' => ∃ zs, H' D0 = some (.lst zs) ∧ Tups H' zs (((rows.take i).filter fun q => decide (q.1 ≠ r.1)).map rowV) ∧ Same H H') ⟨[], upd_same, .nil, c0⟩ (fun _ _ _ ⟨_, _, _, z⟩ => SqL.of (z _ _ el)) ?_ ?_
    · rintro i x H1 H2 hi ⟨zs, e1, e2, sm⟩ ⟨rfl, hx⟩
      obtain ⟨u, xs, rfl, hxs, hu⟩ := tups_get tv hx
      obtain ⟨q, hq⟩ : ∃ q, rows[i]? = some q := ⟨_, List.getElem?_eq_getElem (by omega)⟩
      rw [List.getElem?_map, hq] at hxs
      cases hxs
      have hu2 := sm _ _ hu
      refine ⟨rfl, _, rfl, u, _, _, _, rfl, rfl, SqT.of hu2, atI_nat (j := 0) rfl, _, rfl, rfl, _, rfl, ?_⟩
      rw [take_snoc hq, List.filter_append, List.map_append]
      have dq : decide (V.int (q.1 : Int) = V.int (r.1 : Int)) = decide (q.1 = r.1) := decide_eq_decide.mpr ⟨fun z => Int.ofNat.inj (V.int.inj z), fun z => by rw [z]⟩
      rw [dq]
      have lz : zs.length ≤ i := by
        rw [tups_len e2, List.length_map]
        exact Nat.le_trans (List.length_filter_le _ _) (by rw [List.length_take]; omega)
      by_cases eq : q.1 = r.1
      · rw [decide_eq_true eq]
        refine ⟨zs, e1, ?_, sm⟩
        rw [List.filter_cons, if_neg (by simp [eq])]
        simpa using e2
      · rw [decide_eq_false eq]
        refine ⟨_, rfl, zs, e1, by rw [sizeLine_eq]; omega, zs ++ [V.ref u], upd_same, ?_, same_over hD0 sm⟩
        rw [List.filter_cons, if_pos (by simpa using eq)]
        refine tups_snoc ?_ (tups_over e1 e2)
        rw [upd_ne (ne_of hu2 e1 (by intro z; cases z))]
        exact hu2
    · rintro H1 ⟨zs, e1, e2, sm⟩
      rw [List.take_of_length_le (by omega)] at e2
      have inr := inm (r.2.1, r.2.2) (List.mem_map.mpr ⟨r, hr0, rfl⟩)
      refine ⟨_, rfl, _, rfl, _, rfl, D0, r.2.1, m, rows.filter (fun q => decide (q.1 ≠ r.1)), rfl, ⟨zs, e1, e2⟩, fun q hq => ?_, inr.1, m16, Nat.le_trans (List.length_filter_le _ _) few, fun r2 H3 hr3 sm3 er => ?_⟩
      · obtain ⟨y, hy, rfl⟩ := List.mem_map.mp hq
        exact inm _ (List.mem_map.mpr ⟨y, (List.mem_filter.mp hy).1, rfl⟩)
      · refine ⟨r2, _, rfl, .inl (SqL.of er), rfl, flat_nat _, ?_⟩
        rw [inV_nat]
        have e : (!decide (r.2.2 ∈ cls m (ends (rows.filter fun q => decide (q.1 ≠ r.1))) r.2.1)) = bridge rows r := by
          unfold bridge
          rw [← decide_not]
          refine decide_eq_decide.mpr ?_
          rw [mem_cls]
          exact ⟨fun z y => z ⟨inr.2, y⟩, fun z y => z y.2⟩
        rw [if_pos rfl, e]
        exact k H3 (sm.trans sm3)
end
end K05

set_option Elab.async false
set_option linter.all false
set_option maxRecDepth 100000
set_option maxHeartbeats 4000000
namespace K05
open PySem PySem.Spec PyProof.Rows L2 Own
/-! ### the streets that part, the pieces -/
def spPartingRows (C : Addr) : Sp := fun vs H Q _ => ∃ (p d : Addr) (m : Nat) (rows : List TRow) (n : Nat), vs = [.ref p] ∧ TownAt C H p d m rows n ∧
  ∀ (r : Addr) (H' : Hp), H r = none → Same H H' → TL H' r ((rows.filter (bridge rows)).map rowV) → Q (.ref r) H'
def spWithout (C : Addr) : Sp := fun vs H Q _ => ∃ (p d b : Addr) (m : Nat) (rows bs : List TRow) (n : Nat), vs = [.ref p, .ref b] ∧ TownAt C H p d m rows n ∧ TL H b (bs.map rowV) ∧ bs.length ≤ 60 ∧
  ∀ (r : Addr) (zs : List V) (H' : Hp), H r = none → Same H H' → H' r = some (.lst zs) → NewL H H' r zs (natL (partsOf m (ends (rows.filter fun q => decide (q ∉ bs))))) → Q (.ref r) H'
def spParting (C : Addr) : Sp := fun vs H Q _ => ∃ (p d : Addr) (m : Nat) (rows : List TRow) (n : Nat), vs = [.ref p] ∧ TownAt C H p d m rows n ∧
  ∀ (r : Addr) (H' : Hp), H r = none → Same H H' → H' r = some (.lst (((rows.filter (bridge rows)).map (·.1)).map natV)) → Q (.ref r) H'
def spPieces (C : Addr) : Sp := fun vs H Q _ => ∃ (p d : Addr) (m : Nat) (rows : List TRow) (n : Nat), vs = [.ref p] ∧ TownAt C H p d m rows n ∧
  ∀ (r : Addr) (zs : List V) (H' : Hp), H r = none → Same H H' → H' r = some (.lst zs) → NewL H H' r zs (natL (piecesOf m rows)) → Q (.ref r) H'
theorem eqv_row (a b : TRow) : PyData.eqv (rowD a) (rowD b) = decide (a = b) := by
  obtain ⟨a1, a2, a3⟩ := a
  obtain ⟨b1, b2, b3⟩ := b
  have i : ∀ x y : Nat, ((x : Int) == (y : Int)) = decide (x = y) := fun x y => by
    by_cases e : x = y
    · subst e
      simp
    · rw [decide_eq_false e, beq_eq_false_iff_ne]
      exact fun z => e (Int.ofNat.inj z)
  simp [rowD, PyData.eqv, PyData.eqvAll]
  rw [i, i, i]
theorem any_row (r : TRow) (bs : List TRow) : (bs.map rowD).any (fun z => PyData.eqv z (rowD r)) = decide (r ∈ bs) := by
  induction bs with
  | nil => rfl
  | cons b bs ih =>
    rw [List.map_cons, List.any_cons, ih, eqv_row]
    by_cases h : r = b
    · subst h
      simp
    · rw [decide_eq_false (fun z => h z.symm)]
      simp [h]
theorem lay_row (r : TRow) : Lay 1 (rowD r) := lay_tup fun e he => by
  simp only [List.mem_cons, List.not_mem_nil, or_false] at he
  rcases he with h | h | h <;> rw [h] <;> exact lay_int _
theorem room65 {k : Nat} {A : Around} (r : Room k A) : A.units + 65 < cLine := by
  have := r.un
  omega
abbrev s_parting_rows : Stmt := top 19
abbrev N_parting_rows : List Str := ["town", "streets", "row"]
theorem sc_parting_rows : FnScope N_parting_rows ["town"] (defScope s_parting_rows) := ⟨rfl, rfl, rfl, by decide +kernel, rfl, by decide +kernel, by decide +kernel⟩
abbrev s_pieces_without : Stmt := top 20
abbrev N_pieces_without : List Str := ["town", "between", "left", "row"]
theorem sc_pieces_without : FnScope N_pieces_without ["town", "between"] (defScope s_pieces_without) := ⟨rfl, rfl, rfl, by decide +kernel, rfl, by decide +kernel, by decide +kernel⟩
abbrev s_parting : Stmt := top 21
abbrev N_parting : List Str := ["town", "row"]
theorem sc_parting : FnScope N_parting ["town"] (defScope s_parting) := ⟨rfl, rfl, rfl, by decide +kernel, rfl, by decide +kernel, by decide +kernel⟩
abbrev s_pieces : Stmt := top 22
abbrev N_pieces : List Str := ["town"]
theorem sc_pieces : FnScope N_pieces ["town"] (defScope s_pieces) := ⟨rfl, rfl, rfl, by decide +kernel, rfl, by decide +kernel, by decide +kernel⟩
section
variable {P : Program} {w : World} {K : PySem.W.Frag} {mg : Str → Option Value} {base : Heap} {f : Addr} {fd : FuncData}
theorem ok_parting_rows (D : FnP K "_parting_rows" "_parting_rows" s_parting_rows f fd) (c_parts_its_ends : CalX P w K mg base 3 "_parts_its_ends" spApart) (c_Town_streets : MetX P w K mg base 1 (gA K "Town") "streets" (spStreets (gA K "Town"))) :
    FnOk P w K mg base (L2.CX P w) 4 f fd ["town"] (spPartingRows (gA K "Town")) := by
  have nd := sc_parting_rows.nd
  refine D.ok sc_parting_rows (fun vs H Q E h => ?_) (fun cdv A outer s H vs Q E hr h => ?_)
  · obtain ⟨p, d, m, rows, n, rfl, _⟩ := h
    rfl
  · obtain ⟨p, d, m, rows, n, rfl, W, k⟩ := h
    obtain ⟨f_parts_its_ends, fd_parts_its_ends, ps_parts_its_ends, F_parts_its_ends, m_parts_its_ends, k_parts_its_ends, b_parts_its_ends⟩ := c_parts_its_ends.ex
    obtain ⟨f_Town_streets, fd_Town_streets, ps_Town_streets, c_Town_streets, M_Town_streets, F_Town_streets, b_Town_streets⟩ := c_Town_streets.ex
    refine ⟨_, (pss_cons (ps_set (i := 1) nd rfl (Or.inr rfl) (pe_meth0 (pv 0) c_Town_streets M_Town_streets F_Town_streets (hr.mono (by decide)) b_Town_streets .nil passF))
      (pss_one (ps_ret (pe_lc (own := [("row", 2)]) (g := (gName 2)) rfl nd (pi_list (pv 1)) (blkOk_by (own := [("row", 2)]) (N := N_parting_rows) (sc := defScope s_parting_rows) (by decide +kernel)) (fun _ _ _ _ _ => (pg_name (i := 2) nd rfl (Or.inl rfl))) (fun _ _ _ _ _ => (pts_one (pt_val (pe_call F_parts_its_ends (hr.mono (by decide)) rfl m_parts_its_ends k_parts_its_ends b_parts_its_ends .nil passF (pa_cons (pv 1) (pa_cons (pv 2) pa_nil)))))) (fun _ _ _ _ _ => (pv 2)))))), ?_⟩
    obtain ⟨dx, hp⟩ := W.ob
    refine ⟨_, rfl, p, dx, _, rfl, hp, tF_no _ _ _ (by decide +kernel) (by decide +kernel) (by decide +kernel), p, d, m, rows, n, rfl, W, fun l H1 hl sm1 tl => ?_⟩
    obtain ⟨vs, el, tv⟩ := tl
    have lvs : vs.length = rows.length := by rw [tups_len tv, List.length_map]
    have few := W.ok.few
    refine ⟨_, rfl, l, rfl, ⟨vs, SqL.of el⟩, fun D0 hD0 => ?_⟩
    have c0 := same_new (o := .lst []) hD0
    refine lc_it (walk_list (K := K) (xs := vs)) (fun i H' => ∃ zs, H' D0 = some (.lst zs) ∧ Tups H' zs (((rows.take i).filter (bridge rows)).map rowV) ∧ Same H1 H') ⟨[], upd_same, .nil, c0⟩ (fun _ _ _ ⟨_, _, _, z⟩ => SqL.of (z _ _ el)) ?_ ?_
    · rintro i x H2 H3 hi ⟨zs, e1, e2, sm⟩ ⟨rfl, hx⟩
      obtain ⟨u, xs, rfl, hxs, hu⟩ := tups_get tv hx
      obtain ⟨q, hq⟩ : ∃ q, rows[i]? = some q := ⟨_, List.getElem?_eq_getElem (by omega)⟩
      rw [List.getElem?_map, hq] at hxs
      cases hxs
      have hu2 := sm _ _ hu
      have lz : zs.length ≤ i := by
        rw [tups_len e2, List.length_map]
        exact Nat.le_trans (List.length_filter_le _ _) (by rw [List.length_take]; omega)
      refine ⟨rfl, _, rfl, _, rfl, l, u, m, rows, q, rfl, tl_same ⟨vs, el, tv⟩ sm, town_inm W, W.pm.2, few, List.mem_of_getElem? hq, hu2, fun H4 sm4 => ?_⟩
      rw [take_snoc hq, List.filter_append, List.map_append]
      refine ⟨_, rfl, ?_⟩
      cases hb : bridge rows q with
      | false =>
        refine ⟨zs, sm4 _ _ e1, ?_, sm.trans sm4⟩
        rw [List.filter_cons, if_neg (by rw [hb]; exact Bool.false_ne_true)]
        simpa using tups_ext (fun t xs e => sm4 _ _ e) e2
      | true =>
        refine ⟨_, rfl, zs, sm4 _ _ e1, by rw [sizeLine_eq]; omega, zs ++ [V.ref u], upd_same, ?_, same_over hD0 (sm.trans sm4)⟩
        rw [List.filter_cons, if_pos hb]
        refine tups_snoc ?_ (tups_over (sm4 _ _ e1) (tups_ext (fun t xs e => sm4 _ _ e) e2))
        rw [upd_ne (ne_of hu2 e1 (by intro z; cases z))]
        exact sm4 _ _ hu2
    · rintro H2 ⟨zs, e1, e2, sm⟩
      rw [List.take_of_length_le (by omega)] at e2
      exact k D0 H2 (sm1.free hD0) (sm1.trans sm) ⟨zs, e1, e2⟩
theorem ok_without (D : FnP K "_pieces_without" "_pieces_without" s_pieces_without f fd) (c_parts_along : CalX P w K mg base 3 "parts_along" spPartsAlong) (c_Town_places : MetX P w K mg base 1 (gA K "Town") "places" (spPlaces (gA K "Town"))) (c_Town_streets : MetX P w K mg base 1 (gA K "Town") "streets" (spStreets (gA K "Town"))) :
    FnOk P w K mg base (L2.CX P w) 4 f fd ["town", "between"] (spWithout (gA K "Town")) := by
  have nd := sc_pieces_without.nd
  refine D.ok sc_pieces_without (fun vs H Q E h => ?_) (fun cdv A outer s H vs Q E hr h => ?_)
  · obtain ⟨p, d, b, m, rows, bs, n, rfl, _⟩ := h
    rfl
  · obtain ⟨p, d, b, m, rows, bs, n, rfl, W, tb, fb, k⟩ := h
    obtain ⟨f_parts_along, fd_parts_along, ps_parts_along, F_parts_along, m_parts_along, k_parts_along, b_parts_along⟩ := c_parts_along.ex
    obtain ⟨f_Town_places, fd_Town_places, ps_Town_places, c_Town_places, M_Town_places, F_Town_places, b_Town_places⟩ := c_Town_places.ex
    obtain ⟨f_Town_streets, fd_Town_streets, ps_Town_streets, c_Town_streets, M_Town_streets, F_Town_streets, b_Town_streets⟩ := c_Town_streets.ex
    have hu65 := room65 hr
    refine ⟨_, (pss_cons (ps_setLc (own := [("row", 3)]) (g := (gName 3)) (tt := tTest (tOp (rNotInD K) (tVar 3) (tVar 1))) (i := 2) rfl nd rfl rfl (sw_true rfl rfl rfl (by decide +kernel)) (pi_list (pe_meth0 (pv 0) c_Town_streets M_Town_streets F_Town_streets (hr.mono (by decide)) b_Town_streets .nil passF)) (blkOk_by (own := [("row", 3)]) (N := N_pieces_without) (sc := defScope s_pieces_without) (by decide +kernel)) (fun _ _ _ _ _ => (pg_name (i := 3) nd rfl (Or.inl rfl))) (fun _ _ _ _ _ => (pts_one (pt_cmpR (op_notInD hu65) (pv 3) (pv 1) (by with_unfolding_all rfl)))) (fun _ _ _ _ _ => (pv 3)))
      (pss_one (ps_ret (pe_call F_parts_along (hr.mono (by decide)) rfl m_parts_along k_parts_along b_parts_along .nil passF (pa_cons (pe_meth0 (pv 0) c_Town_places M_Town_places F_Town_places (hr.mono (by decide)) b_Town_places .nil passF) (pa_cons (pv 2) pa_nil)))))), ?_⟩
    obtain ⟨dx, hp⟩ := W.ob
    have few := W.ok.few
    refine ⟨_, rfl, p, dx, _, rfl, hp, tF_no _ _ _ (by decide +kernel) (by decide +kernel) (by decide +kernel), p, d, m, rows, n, rfl, W, fun l H1 hl sm1 tl => ?_⟩
    obtain ⟨vs, el, tv⟩ := tl
    have lvs : vs.length = rows.length := by rw [tups_len tv, List.length_map]
    refine ⟨l, rfl, ⟨vs, SqL.of el⟩, fun D0 hD0 => ?_⟩
    have c0 := same_new (o := .lst []) hD0
    refine lc_it (walk_list (K := K) (xs := vs)) (fun i H' => ∃ zs, H' D0 = some (.lst zs) ∧ Tups H' zs (((rows.take i).filter fun q => decide (q ∉ bs)).map rowV) ∧ Same H1 H') ⟨[], upd_same, .nil, c0⟩ (fun _ _ _ ⟨_, _, _, z⟩ => SqL.of (z _ _ el)) ?_ ?_
    · rintro i x H2 H3 hi ⟨zs, e1, e2, sm⟩ ⟨rfl, hx⟩
      obtain ⟨u, xs, rfl, hxs, hu⟩ := tups_get tv hx
      obtain ⟨q, hq⟩ : ∃ q, rows[i]? = some q := ⟨_, List.getElem?_eq_getElem (by omega)⟩
      rw [List.getElem?_map, hq] at hxs
      cases hxs
      have hu2 := sm _ _ hu
      have lz : zs.length ≤ i := by
        rw [tups_len e2, List.length_map]
        exact Nat.le_trans (List.length_filter_le _ _) (by rw [List.length_take]; omega)
      refine ⟨rfl, _, rfl, _, rfl, rowD q, bs.map rowD, .tup (SqT.of hu2) (.cons (.int _) (.cons (.int _) (.cons (.int _) .nil))), dp_town (tl_same tb (sm1.trans sm)), (lay_row q).shaped (by decide), (lay_rows bs).shaped (by decide), ?_⟩
      rw [any_row, take_snoc hq, List.filter_append, List.map_append]
      refine ⟨_, rfl, ?_⟩
      by_cases hb : q ∈ bs
      · rw [decide_eq_true hb]
        refine ⟨zs, e1, ?_, sm⟩
        rw [List.filter_cons, if_neg (by simpa using hb)]
        simpa using e2
      · rw [decide_eq_false hb]
        refine ⟨_, rfl, zs, e1, by rw [sizeLine_eq]; omega, zs ++ [V.ref u], upd_same, ?_, same_over hD0 sm⟩
        rw [List.filter_cons, if_pos (by simpa using hb)]
        refine tups_snoc ?_ (tups_over e1 e2)
        rw [upd_ne (ne_of hu2 e1 (by intro z; cases z))]
        exact hu2
    · rintro H2 ⟨zs, e1, e2, sm⟩
      rw [List.take_of_length_le (by omega)] at e2
      have W2 := (W.same sm1).same sm
      obtain ⟨dx2, hp2⟩ := W2.ob
      refine ⟨_, rfl, p, dx2, _, rfl, hp2, tF_no _ _ _ (by decide +kernel) (by decide +kernel) (by decide +kernel), p, d, m, rows, n, rfl, W2, _, rfl, D0, m, rows.filter (fun q => decide (q ∉ bs)), rfl, ⟨zs, e1, e2⟩, fun q hq => ?_, W.pm.2, Nat.le_trans (List.length_filter_le _ _) W.ok.few, fun r zs2 H3 hr3 sm3 er nz => ?_⟩
      · obtain ⟨y, hy, rfl⟩ := List.mem_map.mp hq
        exact town_inm W _ (List.mem_map.mpr ⟨y, (List.mem_filter.mp hy).1, rfl⟩)
      · exact k r zs2 H3 ((sm1.trans sm).free hr3) ((sm1.trans sm).trans sm3) er (newL_free (sm1.trans sm) nz)
theorem ok_parting (D : FnP K "parting" "parting" s_parting f fd) (c_parting_rows : CalX P w K mg base 4 "_parting_rows" (spPartingRows (gA K "Town"))) : FnOk P w K mg base (L2.CX P w) 5 f fd ["town"] (spParting (gA K "Town")) := by
  have nd := sc_parting.nd
  refine D.ok sc_parting (fun vs H Q E h => ?_) (fun cdv A outer s H vs Q E hr h => ?_)
  · obtain ⟨p, d, m, rows, n, rfl, _⟩ := h
    rfl
  · obtain ⟨p, d, m, rows, n, rfl, W, k⟩ := h
    obtain ⟨f_parting_rows, fd_parting_rows, ps_parting_rows, F_parting_rows, m_parting_rows, k_parting_rows, b_parting_rows⟩ := c_parting_rows.ex
    refine ⟨_, (pss_one (ps_ret (pe_lc (own := [("row", 1)]) (g := (gName 1)) (te := tOp (rIxT K) (tVar 1) (tC (.int 0))) rfl nd (pi_list (pe_call F_parting_rows (hr.mono (by decide)) rfl m_parting_rows k_parting_rows b_parting_rows .nil passF (pa_cons (pv 0) pa_nil))) (blkOk_by (own := [("row", 1)]) (N := N_parting) (sc := defScope s_parting) (by decide +kernel)) (fun _ _ _ _ _ => (pg_name (i := 1) nd rfl (Or.inl rfl))) (fun _ _ _ _ _ => pts_nil) (fun _ _ _ _ _ => (pe_ix ix_tup (pv 1) pe_int (fun _ _ => rfl)))))), ?_⟩
    refine ⟨_, rfl, p, d, m, rows, n, rfl, W, fun l H1 hl sm1 tl => ?_⟩
    obtain ⟨vs, el, tv⟩ := tl
    have lvs : vs.length = (rows.filter (bridge rows)).length := by rw [tups_len tv, List.length_map]
    have few : (rows.filter (bridge rows)).length ≤ 60 := Nat.le_trans (List.length_filter_le _ _) W.ok.few
    refine ⟨l, rfl, ⟨vs, SqL.of el⟩, fun D0 hD0 => ?_⟩
    have c0 := same_new (o := .lst []) hD0
    refine lc_it (walk_list (K := K) (xs := vs)) (fun i H' => H' D0 = some (.lst ((((rows.filter (bridge rows)).take i).map (·.1)).map natV)) ∧ Same H1 H') ⟨upd_same, c0⟩ (fun _ _ _ z => SqL.of (z.2 _ _ el)) ?_ ?_
    · rintro i x H2 H3 hi ⟨e1, sm⟩ ⟨rfl, hx⟩
      obtain ⟨u, xs, rfl, hxs, hu⟩ := tups_get tv hx
      obtain ⟨q, hq⟩ : ∃ q, (rows.filter (bridge rows))[i]? = some q := ⟨_, List.getElem?_eq_getElem (by omega)⟩
      rw [List.getElem?_map, hq] at hxs
      cases hxs
      refine ⟨rfl, _, rfl, u, _, _, _, rfl, rfl, SqT.of (sm _ _ hu), atI_nat (j := 0) rfl, _, e1, by rw [List.length_map, List.length_map, List.length_take, sizeLine_eq]; omega, ?_, same_over hD0 sm⟩
      rw [upd_same, take_snoc hq, List.map_append, List.map_append]
      rfl
    · rintro H2 ⟨e1, sm⟩
      rw [List.take_of_length_le (by omega)] at e1
      exact k D0 H2 (sm1.free hD0) (sm1.trans sm) e1
theorem ok_pieces (D : FnP K "pieces" "pieces" s_pieces f fd) (c_parting_rows : CalX P w K mg base 4 "_parting_rows" (spPartingRows (gA K "Town"))) (c_pieces_without : CalX P w K mg base 4 "_pieces_without" (spWithout (gA K "Town"))) : FnOk P w K mg base (L2.CX P w) 5 f fd ["town"] (spPieces (gA K "Town")) := by
  have nd := sc_pieces.nd
  refine D.ok sc_pieces (fun vs H Q E h => ?_) (fun cdv A outer s H vs Q E hr h => ?_)
  · obtain ⟨p, d, m, rows, n, rfl, _⟩ := h
    rfl
  · obtain ⟨p, d, m, rows, n, rfl, W, k⟩ := h
    obtain ⟨f_parting_rows, fd_parting_rows, ps_parting_rows, F_parting_rows, m_parting_rows, k_parting_rows, b_parting_rows⟩ := c_parting_rows.ex
    obtain ⟨f_pieces_without, fd_pieces_without, ps_pieces_without, F_pieces_without, m_pieces_without, k_pieces_without, b_pieces_without⟩ := c_pieces_without.ex
    refine ⟨_, (pss_one (ps_ret (pe_call F_pieces_without (hr.mono (by decide)) rfl m_pieces_without k_pieces_without b_pieces_without .nil passF (pa_cons (pv 0) (pa_cons (pe_call F_parting_rows (hr.mono (by decide)) rfl m_parting_rows k_parting_rows b_parting_rows .nil passF (pa_cons (pv 0) pa_nil)) pa_nil))))), ?_⟩
    refine ⟨_, rfl, _, rfl, p, d, m, rows, n, rfl, W, fun l H1 hl sm1 tl => ?_⟩
    exact ⟨p, d, l, m, rows, rows.filter (bridge rows), n, rfl, W.same sm1, tl, Nat.le_trans (List.length_filter_le _ _) W.ok.few, fun r zs H2 hr2 sm2 er nz => k r zs H2 (sm1.free hr2) (sm1.trans sm2) er (newL_free sm1 nz)⟩
end
end K05

set_option Elab.async false
set_option linter.all false
set_option maxRecDepth 100000
set_option maxHeartbeats 4000000
namespace K05
open PySem PySem.Spec PyProof.Rows L2 Own
/-! ### comprehensions over rows -/
/-- the slots written out -/
theorem nice {T : TS} {D : Ends} {σ σ' : L2.St} {H : Hp} (e : σ = σ') (h : T D σ' H) : T D σ H := e ▸ h
theorem at_seq {A B : TS} {D : Ends} {σ : L2.St} {H : Hp} (h : A { D with nx := B D } σ H) : tSeq A B D σ H := h
theorem at_asg {te : TE} {g : TG} {D : Ends} {σ : L2.St} {H : Hp} (h : te σ H fun x H1 => g x σ H1 D.nx) : tAsg te g D σ H := h
theorem at_op {r : R2} {ta tb : TE} {σ : L2.St} {H : Hp} {Q : VK} (h : ta σ H fun x H1 => tb σ H1 fun y H2 => r x y H2 Q) : tOp r ta tb σ H Q := h
theorem at_ret {te : TE} {D : Ends} {σ : L2.St} {H : Hp} (h : te σ H D.rt) : tRet te D σ H := h
theorem at_next {D : Ends} {σ : L2.St} {H : Hp} (h : D.nx σ H) : tNext D σ H := h
theorem at_cb {r : List V → Hp → VK → Prop} {t : TA} {σ : L2.St} {H : Hp} {Q : VK} (h : t σ H fun vs H1 => r vs H1 Q) : tCB r t σ H Q := h
theorem at_test {t : TE} {σ : L2.St} {H : Hp} {Q : Bool → Hp → Prop} (h : t σ H fun x H' => ∃ k, x = .bl k ∧ Q k H') : tTest t σ H Q := h
theorem at_call {sp : Sp} {dvs : List V} {E : XK} {t : TA} {σ : L2.St} {H : Hp} {Q : VK} (h : t σ H fun vs H1 => sp (vs ++ dvs) H1 Q E) : tCall sp dvs E t σ H Q := h
theorem at_cons {ta : TE} {tr : TA} {σ : L2.St} {H : Hp} {Q : List V → Hp → Prop} (h : ta σ H fun x H1 => tr σ H1 fun xs H2 => Q (x :: xs) H2) : tCons ta tr σ H Q := h
theorem town_over {C : Addr} {H : Hp} {p d l : Addr} {m : Nat} {rows : List TRow} {n : Nat} {xs : List V} {o : HO} (T : TownAt C H p d m rows n) (h : H l = some (.lst xs)) : TownAt C (upd H l o) p d m rows n := by
  obtain ⟨dx, h1⟩ := T.ob
  obtain ⟨kvs, h2, h3⟩ := T.dc
  refine ⟨⟨dx, by rw [upd_ne (ne_of h1 h (by intro z; cases z))]; exact h1⟩, ⟨kvs, by rw [upd_ne (ne_of h2 h (by intro z; cases z))]; exact h2, ents_ext (fun t ys e => ?_) h3⟩, T.ok, T.pm⟩
  rw [upd_ne (ne_of e h (by intro z; cases z))]
  exact e
theorem sub_len {xs : List Nat} : ∀ {ys : List Nat}, xs.Nodup → (∀ x ∈ xs, x ∈ ys) → xs.length ≤ ys.length := by
  induction xs with
  | nil => exact fun _ _ => Nat.zero_le _
  | cons x xs ih =>
    intro ys nd h
    obtain ⟨n1, n2⟩ := List.nodup_cons.mp nd
    have hx := h x (List.mem_cons_self ..)
    have z := ih (ys := ys.erase x) n2 fun y hy => (List.mem_erase_of_ne (fun e => n1 (by rw [← e]; exact hy))).mpr (h y (List.mem_cons_of_mem _ hy))
    rw [List.length_erase_of_mem hx] at z
    have : 0 < ys.length := List.length_pos_of_mem hx
    show xs.length + 1 ≤ ys.length
    omega
theorem cut_drop (xs : List V) (c : Nat) : cutV xs (some (c : Int)) none = xs.drop c := by
  unfold cutV
  rw [HT.sIx_none, HT.sIx_nat]
  by_cases h : c ≤ xs.length
  · rw [Nat.min_eq_left h, List.take_of_length_le (by rw [List.length_drop]; exact Nat.le_refl _)]
  · rw [Nat.min_eq_right (by omega), List.drop_of_length_le (Nat.le_refl _), List.drop_of_length_le (by omega)]
    simp
/-- one after the other, by what holds between -/
theorem at_seqP {A B : TS} {D : Ends} {σ : L2.St} {H : Hp} (Pv : L2.St → Hp → Prop) (rest : ∀ σ' H', Pv σ' H' → B D σ' H') (h : ∀ N : L2.St → Hp → Prop, (∀ σ' H', Pv σ' H' → N σ' H') → A { D with nx := N } σ H) : tSeq A B D σ H := h (B D) rest
/-- two ways, by what the test tells -/
theorem at_ifP {t : TT} {A B : TS} {D : Ends} {σ : L2.St} {H : Hp} (Pt : Bool → Hp → Prop) (yes : ∀ H', Pt true H' → A D σ H') (no : ∀ H', Pt false H' → B D σ H') (test : ∀ N : Bool → Hp → Prop, (∀ b H', Pt b H' → N b H') → t σ H N) : tIfS t A B D σ H :=
  test _ fun b H' h => by
    cases b with
    | true => exact yes H' h
    | false => exact no H' h
/-- those kept by a test -/
theorem lc_rows {K : PySem.W.Frag} {i : Nat} {wi : TI} {tt : TT} {σ : L2.St} {H0 : Hp} {Q : VK} {rows : List TRow} (p : TRow → Bool)
    (src : ∀ R, (∀ l H1, Same H0 H1 → TL H1 l (rows.map rowV) → R (Itl K l) H1) → wi σ H0 R) (few : rows.length ≤ 1000)
    (hw : ∀ t, wipe ((wipe σ [i]).set i (some (V.ref t))) [i] = wipe σ [i]) (hi : ∀ t, ((wipe σ [i]).set i (some (V.ref t)))[i]? = some (some (V.ref t)))
    (test : ∀ (r : TRow), r ∈ rows → ∀ (t : Addr) (H2 : Hp) (Qt : Bool → Hp → Prop), Same H0 H2 → H2 t = some (.tup (rowV r)) → Qt (p r) H2 → tt ((wipe σ [i]).set i (some (V.ref t))) H2 Qt)
    (done : ∀ D H2, H0 D = none → Same H0 H2 → TL H2 D ((rows.filter p).map rowV) → Q (.ref D) H2) : tLc wi (gName i) tt (tVar i) [i] σ H0 Q := by
  refine src _ fun l H1 smA tl => ?_
  obtain ⟨vs, el, tv⟩ := tl
  have lvs : vs.length = rows.length := by rw [tups_len tv, List.length_map]
  intro D0 hD0
  refine lc_it (walk_list (K := K) (xs := vs)) (fun i H' => ∃ zs, H' D0 = some (.lst zs) ∧ Tups H' zs (((rows.take i).filter p).map rowV) ∧ Same H1 H') ⟨[], upd_same, .nil, same_new hD0⟩ (fun _ _ _ ⟨_, _, _, z⟩ => SqL.of (z _ _ el)) ?_ ?_
  · rintro j x H2 H3 hj ⟨zs, e1, e2, sm⟩ ⟨rfl, hx⟩
    obtain ⟨t, xs, rfl, hxs, ht⟩ := tups_get tv hx
    obtain ⟨r, hr0⟩ : ∃ r, rows[j]? = some r := ⟨_, List.getElem?_eq_getElem (by omega)⟩
    rw [List.getElem?_map, hr0] at hxs
    cases hxs
    have ht2 := sm _ _ ht
    have lz : zs.length ≤ j := by
      rw [tups_len e2, List.length_map]
      exact Nat.le_trans (List.length_filter_le _ _) (by rw [List.length_take]; omega)
    refine ⟨hw t, test r (List.mem_of_getElem? hr0) t H3 _ (smA.trans sm) ht2 ?_⟩
    rw [take_snoc hr0, List.filter_append, List.map_append]
    cases hp : p r with
    | true =>
      refine ⟨_, hi t, zs, e1, by rw [sizeLine_eq]; omega, zs ++ [V.ref t], upd_same, ?_, same_over hD0 sm⟩
      rw [List.filter_cons, if_pos hp]
      refine tups_snoc ?_ (tups_over e1 e2)
      rw [upd_ne (ne_of ht2 e1 (by intro z; cases z))]
      exact ht2
    | false =>
      refine ⟨zs, e1, ?_, sm⟩
      rw [List.filter_cons, if_neg (by rw [hp]; exact Bool.false_ne_true)]
      simpa using e2
  · rintro H2 ⟨zs, e1, e2, sm⟩
    rw [List.take_of_length_le (by omega)] at e2
    exact done D0 H2 (smA.free hD0) (smA.trans sm) ⟨zs, e1, e2⟩
/-- a number of each -/
theorem lc_nums {K : PySem.W.Frag} {i : Nat} {wi : TI} {te : TE} {σ : L2.St} {H0 : Hp} {Q : VK} {rows : List TRow} (g : TRow → Nat)
    (src : ∀ R, (∀ l H1, Same H0 H1 → TL H1 l (rows.map rowV) → R (Itl K l) H1) → wi σ H0 R) (few : rows.length ≤ 1000)
    (hw : ∀ t, wipe ((wipe σ [i]).set i (some (V.ref t))) [i] = wipe σ [i])
    (elem : ∀ (r : TRow), r ∈ rows → ∀ (t : Addr) (H2 : Hp) (Qt : VK), Same H0 H2 → H2 t = some (.tup (rowV r)) → Qt (natV (g r)) H2 → te ((wipe σ [i]).set i (some (V.ref t))) H2 Qt)
    (done : ∀ D H2, H0 D = none → Same H0 H2 → H2 D = some (.lst ((rows.map g).map natV)) → Q (.ref D) H2) : tLc wi (gName i) tYes te [i] σ H0 Q := by
  refine src _ fun l H1 smA tl => ?_
  obtain ⟨vs, el, tv⟩ := tl
  have lvs : vs.length = rows.length := by rw [tups_len tv, List.length_map]
  intro D0 hD0
  refine lc_it (walk_list (K := K) (xs := vs)) (fun i H' => H' D0 = some (.lst (((rows.take i).map g).map natV)) ∧ Same H1 H') ⟨upd_same, same_new hD0⟩ (fun _ _ _ ⟨_, z⟩ => SqL.of (z _ _ el)) ?_ ?_
  · rintro j x H2 H3 hj ⟨e1, sm⟩ ⟨rfl, hx⟩
    obtain ⟨t, xs, rfl, hxs, ht⟩ := tups_get tv hx
    obtain ⟨r, hr0⟩ : ∃ r, rows[j]? = some r := ⟨_, List.getElem?_eq_getElem (by omega)⟩
    rw [List.getElem?_map, hr0] at hxs
    cases hxs
    refine ⟨hw t, elem r (List.mem_of_getElem? hr0) t H3 _ (smA.trans sm) (sm _ _ ht) ?_⟩
    refine ⟨_, e1, by rw [List.length_map, List.length_map, List.length_take, sizeLine_eq]; omega, ?_, same_over hD0 sm⟩
    rw [upd_same, take_snoc hr0, List.map_append, List.map_append]
    rfl
  · rintro H2 ⟨e1, sm⟩
    rw [List.take_of_length_le (by omega)] at e1
    exact done D0 H2 (smA.free hD0) (smA.trans sm) e1
theorem src_name {K : PySem.W.Frag} {a : Nat} {σ : L2.St} {H0 : Hp} {l : Addr} {rows : List TRow} (hl : σ[a]? = some (some (V.ref l))) (tl : TL H0 l (rows.map rowV)) : ∀ R, (∀ l H1, Same H0 H1 → TL H1 l (rows.map rowV) → R (Itl K l) H1) → iList K (tVar a) σ H0 R := fun R h => by
  obtain ⟨vs, el, tv⟩ := id tl
  exact ⟨_, hl, l, rfl, ⟨vs, SqL.of el⟩, h l H0 (Same.refl H0) tl⟩
/-- lists of rows -/
abbrev TLs (H : Hp) : List V → List (List TRow) → Prop := Paired fun v rs => ∃ t, v = V.ref t ∧ TL H t (rs.map rowV)
theorem tls_get {H : Hp} : ∀ {vs : List V} {RR : List (List TRow)} {i : Nat} {v : V}, TLs H vs RR → vs[i]? = some v → ∃ t rs, v = V.ref t ∧ RR[i]? = some rs ∧ TL H t (rs.map rowV)
  | _, _, _, _, .nil, e => by simp at e
  | _, _, 0, _, .cons ⟨t, e, h⟩ _, q => by
    simp at q
    exact ⟨t, _, by rw [← q, e], rfl, h⟩
  | _, _, i + 1, v, .cons _ r, q => by
    obtain ⟨t, rs, h1, h2, h3⟩ := tls_get (i := i) (v := v) r (by simpa using q)
    exact ⟨t, rs, h1, by simpa using h2, h3⟩
/-- all the steps of all rows -/
theorem lc2_rows {K : PySem.W.Frag} {i j : Nat} {wi : TI} {σ : L2.St} {H0 : Hp} {Q : VK} {RR : List (List TRow)}
    (src : ∀ R, (∀ l zs H1, Same H0 H1 → H1 l = some (.lst zs) → TLs H1 zs RR → R (Itl K l) H1) → wi σ H0 R) (few : RR.flatten.length ≤ 1000)
    (hw : ∀ t, wipe ((wipe σ [i, j]).set i (some (V.ref t))) [i, j] = wipe σ [i, j]) (hi : ∀ t, ((wipe σ [i, j]).set i (some (V.ref t)))[i]? = some (some (V.ref t)))
    (hw2 : ∀ t x, wipe ((wipe ((wipe σ [i, j]).set i (some (V.ref t))) [j]).set j (some x)) [j] = wipe ((wipe σ [i, j]).set i (some (V.ref t))) [j]) (hj : ∀ t x, ((wipe ((wipe σ [i, j]).set i (some (V.ref t))) [j]).set j (some x))[j]? = some (some x))
    (done : ∀ D H2, H0 D = none → Same H0 H2 → TL H2 D (RR.flatten.map rowV) → Q (.ref D) H2) : tLc2 wi (gName i) tYes (iList K (tVar i)) (gName j) tYes (tVar j) [i, j] [j] σ H0 Q := by
  refine src _ fun l zs H1 smA el tl => ?_
  have lzs : zs.length = RR.length := Paired.length tl
  intro D0 hD0
  have w := walk_list (K := K) (a := l) (xs := zs)
  refine ⟨fun i m H' => m = zs.length - i ∧ i ≤ zs.length ∧ TL H' D0 (((RR.take i).flatten).map rowV) ∧ Same H1 H', ⟨_, rfl, Nat.zero_le _, ⟨[], upd_same, .nil⟩, same_new hD0⟩, ?_⟩
  rintro a mu H2 ⟨rfl, ha, td, sm⟩
  have q : SqL K H2 l zs := SqL.of (sm _ _ el)
  by_cases hlt : a < zs.length
  · refine .inr ⟨w.goes a H2 hlt q, fun H' => a + 1 ≤ zs.length ∧ TL H' D0 (((RR.take (a + 1)).flatten).map rowV) ∧ Same H1 H', fun H' h => ⟨zs.length - (a + 1), by omega, rfl, h.1, h.2.1, h.2.2⟩, fun x H' y => ?_⟩
    obtain ⟨rfl, hx⟩ := w.yields a H2 x H' hlt q y
    obtain ⟨t, rs, rfl, hrs, ht⟩ := tls_get tl hx
    refine ⟨hw t, ?_⟩
    obtain ⟨vs, ev, tv⟩ := tl_same ht sm
    have lvs : vs.length = rs.length := by rw [tups_len tv, List.length_map]
    have etk : (RR.take (a + 1)).flatten = (RR.take a).flatten ++ rs := by
      rw [take_snoc hrs, List.flatten_append]
      simp
    have lall : ((RR.take (a + 1)).flatten).length ≤ 1000 := by
      have e : RR.flatten = (RR.take (a + 1)).flatten ++ (RR.drop (a + 1)).flatten := by rw [← List.flatten_append, List.take_append_drop]
      rw [e, List.length_append] at few
      omega
    rw [etk, List.length_append] at lall
    refine ⟨_, hi t, t, rfl, ⟨vs, SqL.of ev⟩, ?_⟩
    have w1 := walk_list (K := K) (a := t) (xs := vs)
    refine ⟨fun b k H3 => k = vs.length - b ∧ b ≤ vs.length ∧ TL H3 D0 (((RR.take a).flatten ++ rs.take b).map rowV) ∧ Same H1 H3, ⟨_, rfl, Nat.zero_le _, by rw [List.take_zero, List.append_nil]; exact td, sm⟩, ?_⟩
    rintro b k H3 ⟨rfl, hb, td3, sm3⟩
    have ht3 := tl_same ht sm3
    obtain ⟨vs3, ev3, tv3⟩ := ht3
    have evs : vs3 = vs := by
      have e1 := sm3
      obtain ⟨v0, e0, _⟩ := id ht
      have z1 := sm _ _ e0
      have z2 := sm3 _ _ e0
      rw [ev] at z1
      rw [ev3] at z2
      cases z1
      cases z2
      rfl
    subst evs
    have q3 : SqL K H3 t vs3 := SqL.of ev3
    by_cases hlt3 : b < vs3.length
    · refine .inr ⟨w1.goes b H3 hlt3 q3, fun H' => b + 1 ≤ vs3.length ∧ TL H' D0 (((RR.take a).flatten ++ rs.take (b + 1)).map rowV) ∧ Same H1 H', fun H' h => ⟨vs3.length - (b + 1), by omega, rfl, h.1, h.2.1, h.2.2⟩, fun x H' y => ?_⟩
      obtain ⟨rfl, hx⟩ := w1.yields b H3 x H' hlt3 q3 y
      obtain ⟨u, xs, rfl, hxs, hu⟩ := tups_get tv3 hx
      obtain ⟨r, hr0⟩ : ∃ r, rs[b]? = some r := ⟨_, List.getElem?_eq_getElem (by omega)⟩
      rw [List.getElem?_map, hr0] at hxs
      cases hxs
      refine ⟨hw2 t _, ?_⟩
      obtain ⟨acc, ea, ta⟩ := td3
      have la : acc.length = ((RR.take a).flatten ++ rs.take b).length := by rw [tups_len ta, List.length_map]
      refine ⟨_, hj t _, acc, ea, ?_, by omega, ⟨acc ++ [V.ref u], upd_same, ?_⟩, same_over hD0 sm3⟩
      · rw [la, List.length_append, List.length_take, sizeLine_eq]
        omega
      · rw [take_snoc hr0, ← List.append_assoc, List.map_append]
        refine tups_snoc ?_ (tups_over ea ta)
        rw [upd_ne (ne_of hu ea (by intro z; cases z))]
        exact hu
    · have e : b = vs3.length := by omega
      subst e
      rw [show rs.take vs3.length = rs from List.take_of_length_le (by omega)] at td3
      exact .inl ⟨w1.stops H3 q3, by omega, by rw [etk]; exact td3, sm3⟩
  · have e : a = zs.length := by omega
    subst e
    rw [List.take_of_length_le (by omega)] at td
    exact .inl ⟨w.stops H2 q, done D0 H2 (smA.free hD0) (smA.trans sm) td⟩
/-! ### _row_from, _rows_of, handles -/
def spRowFrom : Sp := fun vs H Q _ => ∃ (ls lh : Addr) (m : Nat) (steps : List TRow) (had : List Nat) (f : TRow) (fs : List TRow) (k : Nat) (ks : List Nat), vs = [.ref ls, .ref lh] ∧ TL H ls (steps.map rowV) ∧ H lh = some (.lst (had.map natV)) ∧ (∀ q ∈ ends steps, q.1 < m ∧ q.2 < m) ∧ m ≤ 16 ∧ steps.length ≤ 120 ∧ RowAt steps had f fs k ks ∧
  ∀ (r : Addr) (H' : Hp), H r = none → Same H H' → TL H' r ((rowF steps had).map rowV) → Q (.ref r) H'
theorem keys_at {kvs : List (Key × V)} {S : List Nat} (h : kvs.map (·.1) = S.map fun (q : Nat) => (Sum.inl (q : Int) : Key)) {j : Nat} {kv : Key} {v : V} (e : kvs[j]? = some (kv, v)) : ∃ q, S[j]? = some q ∧ kv = Sum.inl (q : Int) := by
  have z : (kvs.map (·.1))[j]? = (S.map fun (q : Nat) => (Sum.inl (q : Int) : Key))[j]? := by rw [h]
  rw [List.getElem?_map, e, List.getElem?_map] at z
  cases hq : S[j]? with
  | none =>
    rw [hq] at z
    cases z
  | some q =>
    rw [hq] at z
    exact ⟨q, rfl, Option.some.inj z⟩
abbrev s_row_from : Stmt := top 24
abbrev N_row_from : List Str := ["steps", "had", "first", "others", "walks", "last", "step", "place"]
theorem sc_row_from : FnScope N_row_from ["steps", "had"] (defScope s_row_from) := ⟨rfl, rfl, rfl, by decide +kernel, rfl, by decide +kernel, by decide +kernel⟩
section
variable {P : Program} {w : World} {K : PySem.W.Frag} {mg : Str → Option Value} {base : Heap} {f : Addr} {fd : FuncData}
theorem ok_row_from (D : FnP K "_row_from" "_row_from" s_row_from f fd) (c_walks_from : CalX P w K mg base 1 "walks_from" spWalks) : FnOk P w K mg base (L2.CX P w) 2 f fd ["steps", "had"] spRowFrom := by
  have nd := sc_row_from.nd
  refine D.ok sc_row_from (fun vs H Q E h => ?_) (fun cdv A outer s H vs Q E hr h => ?_)
  · obtain ⟨ls, lh, m, steps, had, f, fs, k, ks, rfl, _⟩ := h
    rfl
  · obtain ⟨ls, lh, m, steps, had, f, fs, k, ks, rfl, tl, eh, inm, m16, few, A, kk⟩ := h
    have hu := hu_of hr
    obtain ⟨f_walks_from, fd_walks_from, ps_walks_from, F_walks_from, m_walks_from, k_walks_from, b_walks_from⟩ := c_walks_from.ex
    refine ⟨_, (pss_cons (ps_set (i := 2) nd rfl (Or.inr rfl) (pe_ix ix_list (pe_lc (own := [("step", 6)]) (g := (gName 6)) (tt := tTest (tOp (rIn K false) (tOp (rIxT K) (tVar 6) (tC (.int 1))) (tVar 1))) rfl nd (pi_list (pv 0)) (blkOk_by (own := [("step", 6)]) (N := N_row_from) (sc := defScope s_row_from) (by decide +kernel)) (fun _ _ _ _ _ => (pg_name (i := 6) nd rfl (Or.inl rfl))) (fun _ _ _ _ _ => (pts_one (pt_cmpR op_in_seq (pe_ix ix_tup (pv 6) pe_int (fun _ _ => rfl)) (pv 1) (by with_unfolding_all rfl)))) (fun _ _ _ _ _ => (pv 6))) pe_int (fun _ _ => rfl)))
      (pss_cons (ps_setLc (own := [("step", 6)]) (g := (gName 6)) (tt := tTest (tOp rNe (tOp (rIxT K) (tVar 6) (tC (.int 0))) (tOp (rIxT K) (tVar 2) (tC (.int 0))))) (i := 3) rfl nd rfl rfl (sw_true rfl rfl rfl (by decide +kernel)) (pi_list (pv 0)) (blkOk_by (own := [("step", 6)]) (N := N_row_from) (sc := defScope s_row_from) (by decide +kernel)) (fun _ _ _ _ _ => (pg_name (i := 6) nd rfl (Or.inl rfl))) (fun _ _ _ _ _ => (pts_one (pt_cmpR op_ne (pe_ix ix_tup (pv 6) pe_int (fun _ _ => rfl)) (pe_ix ix_tup (pv 2) pe_int (fun _ _ => rfl)) (nomark _)))) (fun _ _ _ _ _ => (pv 6)))
      (pss_cons (ps_set (i := 4) nd rfl (Or.inl rfl) (pe_call F_walks_from (hr.mono (by decide)) rfl m_walks_from k_walks_from b_walks_from .nil passF (pa_cons (pv 3) (pa_cons (pe_ix ix_tup (pv 2) pe_int (fun _ _ => rfl)) pa_nil))))
      (pss_cons (ps_set (i := 5) nd rfl (Or.inl rfl) (pe_ix ix_list (pe_lock (pe_lc (own := [("place", 7)]) (g := (gName 7)) (tt := tTest (tOp (rIn K false) (tVar 7) (tVar 1))) rfl nd (pi_keys (pv 4)) (blkOk_by (own := [("place", 7)]) (N := N_row_from) (sc := defScope s_row_from) (by decide +kernel)) (fun _ _ _ _ _ => (pg_name (i := 7) nd rfl (Or.inl rfl))) (fun _ _ _ _ _ => (pts_one (pt_cmpR op_in_seq (pv 7) (pv 1) (by with_unfolding_all rfl)))) (fun _ _ _ _ _ => (pv 7)))) pe_int (fun _ _ => rfl)))
      (pss_one (ps_ret (pe_op op_cat (pe_lst (pa_cons (pv 2) pa_nil)) (pe_dget hu (pv 4) (pv 5) (fun _ _ => rfl))))))))), ?_⟩
    refine at_seq (at_asg (at_op (lc_rows (fun st => decide (st.2.1 ∈ had)) (src_name rfl tl) (by omega) (fun _ => rfl) (fun _ => rfl) (fun r hr0 t H2 Qt sm ht q => ?_) (fun D0 H2 hD0 sm tf => ?_))))
    · refine ⟨_, rfl, t, _, _, _, rfl, rfl, SqT.of ht, atI_nat (j := 1) rfl, _, rfl, lh, _, rfl, .inl (SqL.of (sm _ _ eh)), rfl, flat_nat _, _, rfl, ?_⟩
      rw [inV_nat]
      exact q
    obtain ⟨vf, ef, tvf⟩ := tf
    rw [A.first] at tvf
    obtain ⟨tf, vf', rfl, ht⟩ : ∃ (tf : Addr) (vf' : List V), vf = V.ref tf :: vf' ∧ H2 tf = some (.tup (rowV f)) := by
      cases tvf with
      | cons h _ =>
        obtain ⟨t, rfl, ht⟩ := h
        exact ⟨t, _, rfl, ht⟩
    have fmem := (filter_head A.first).1
    have fb := inm _ (List.mem_map.mpr ⟨f, fmem, rfl⟩)
    refine ⟨D0, _, _, _, rfl, rfl, SqL.of ef, atI_nat (j := 0) rfl, ?_⟩
    dsimp only [gName]
    refine nice (σ' := [some (.ref ls), some (.ref lh), some (.ref tf), none, none, none, none, none]) rfl ?_
    clear ef tvf hD0
    have eh2 := sm _ _ eh
    have tl2 := tl_same tl sm
    refine at_seq (at_asg (lc_rows (fun st => decide (st.1 ≠ f.1)) (src_name rfl tl2) (by omega) (fun _ => rfl) (fun _ => rfl) (fun r hr0 t H3 Qt sm3 ht3 q => ?_) (fun D3 H3 hD3 sm3 to => ?_)))
    · refine ⟨_, rfl, t, _, _, _, rfl, rfl, SqT.of ht3, atI_nat (j := 0) rfl, _, rfl, tf, _, _, _, rfl, rfl, SqT.of (sm3 _ _ ht), atI_nat (j := 0) rfl, rfl, _, rfl, ?_⟩
      have dq : (!decide (V.int (r.1 : Int) = V.int (f.1 : Int))) = decide (r.1 ≠ f.1) := by
        rw [← decide_not]
        exact decide_eq_decide.mpr ⟨fun z y => z (by rw [y]), fun z y => z (Int.ofNat.inj (V.int.inj y))⟩
      rw [dq]
      exact q
    dsimp only [gName]
    refine nice (σ' := [some (.ref ls), some (.ref lh), some (.ref tf), some (.ref D3), none, none, none, none]) rfl ?_
    have inO : ∀ q ∈ ends (steps.filter fun st => decide (st.1 ≠ f.1)), q.1 < m ∧ q.2 < m := fun q hq => by
      obtain ⟨x, hx, rfl⟩ := List.mem_map.mp hq
      exact inm _ (List.mem_map.mpr ⟨x, (List.mem_filter.mp hx).1, rfl⟩)
    refine ⟨_, rfl, _, rfl, tf, _, _, _, rfl, rfl, SqT.of (sm3 _ _ ht), atI_nat (j := 2) rfl, D3, f.2.2, m, _, rfl, to, inO, fb.2, m16, fun dw kvs H4 hdw sm4 ed we => ?_⟩
    dsimp only [gName]
    refine nice (σ' := [some (.ref ls), some (.ref lh), some (.ref tf), some (.ref D3), some (.ref dw), none, none, none]) rfl ?_
    have smA := sm3.trans sm4
    have eh4 := smA _ _ eh2
    have ht4 := smA _ _ ht
    have smT := sm.trans smA
    have keys := wents_keys we
    have len := walks_len inO fb.2 m16
    have lk := wents_len we
    have tree := (walks_spec inO fb.2 m16).1
    have last := A.last
    have eqR := rowF_eq A
    generalize hW : walksF (steps.filter fun st => decide (st.1 ≠ f.1)) f.2.2 = W at *
    have kin := (filter_head last).1
    clear sm sm3 sm4 smA to inO eh2 ht tl2 hD3 hdw eh
    -- the first place that is had
    refine ⟨dw, .dK kvs, ed, trivial, fun od => ?_⟩
    refine ⟨_, rfl, dw, od, rfl, .inl ⟨kvs, upd_same, fun D5 hD5 => ?_⟩⟩
    obtain ⟨nDd, hD50⟩ := upd_none hD5
    refine lc_it walk_keys (fun j H' => H' D5 = some (.lst ((((wk W).take j).filter fun k => decide (k ∈ had)).map natV)) ∧ H' dw = some (.frz od (.dK kvs)) ∧ ∀ b o, b ≠ dw → H4 b = some o → H' b = some o)
      ⟨upd_same, (by rw [upd_ne nDd.symm]; exact upd_same), fun b o hb e => by rw [upd_ne (ne_of_none e hD50), upd_ne hb]; exact e⟩ (fun i H' _ ⟨_, z, _⟩ => z) ?_ ?_
    · rintro j x H5 H6 hj ⟨e1, e2, e3⟩ ⟨rfl, kk', v, hkv, rfl⟩
      obtain ⟨q, hq, rfl⟩ := keys_at keys hkv
      have nlh : lh ≠ dw := fun z => by
        rw [z, ed] at eh4
        cases eh4
      refine ⟨rfl, _, rfl, _, rfl, lh, _, rfl, .inl (SqL.of (e3 _ _ nlh eh4)), rfl, flat_nat _, _, rfl, ?_⟩
      have iv : inV (kV (Sum.inl (q : Int))) (had.map natV) = decide (q ∈ had) := inV_nat q had
      rw [iv, take_snoc hq, List.filter_append, List.map_append]
      have lj : ((((wk W).take j).filter fun k => decide (k ∈ had)).map natV).length ≤ j := by
        rw [List.length_map]
        exact Nat.le_trans (List.length_filter_le _ _) (by rw [List.length_take]; omega)
      have keep : ∀ v b o, b ≠ dw → H4 b = some o → upd H6 D5 v b = some o := fun v b o nb e => by
        rw [upd_ne (ne_of_none e hD50)]
        exact e3 b o nb e
      by_cases hin : q ∈ had
      · rw [decide_eq_true hin]
        refine ⟨_, rfl, _, e1, by rw [sizeLine_eq]; omega, ?_, by rw [upd_ne nDd.symm]; exact e2, keep _⟩
        rw [upd_same, List.filter_cons, if_pos (decide_eq_true hin)]
        rfl
      · rw [decide_eq_false hin]
        refine ⟨?_, e2, e3⟩
        rw [List.filter_cons, if_neg (by rw [decide_eq_false hin]; exact Bool.false_ne_true), e1]
        simp
    · rintro H5 ⟨e1, e2, e3⟩
      have lw : kvs.length = (wk W).length := by
        unfold wk
        rw [List.length_map]
        exact lk
      rw [lw, List.take_length, last] at e1
      have e1' : upd H5 dw (.dK kvs) D5 = some (.lst ((k :: ks).map natV)) := by rw [upd_ne nDd]; exact e1
      have smB : Same H4 (upd H5 dw (.dK kvs)) := fun b o e => by
        by_cases hb : b = dw
        · rw [hb, ed] at e
          cases e
          rw [hb]
          exact upd_same
        · rw [upd_ne hb]
          exact e3 b o hb e
      refine ⟨e2, D5, _, _, _, rfl, rfl, SqL.of e1', atI_nat (j := 0) rfl, ?_⟩
      have ed6 : upd H5 dw (.dK kvs) dw = some (.dK kvs) := upd_same
      have ht6 := smB _ _ ht4
      have we6 := wents_same we smB
      have smC := smT.trans smB
      generalize upd H5 dw (.dK kvs) = H6 at *
      obtain ⟨tw, g1, g2, g3, g4⟩ := wents_get we6 kin
      have gd : DGet H6 dw (natV k) (some (V.ref tw)) := by
        rw [← g1]
        exact DGet.k (k := Sum.inl (k : Int)) ed6
      have wl : (walkTo W k).length < W.length := (tree_run tree _ (walkTo_mem kin)).2.2
      have lg : g2.length < 16 := by
        rw [tups_len g4, List.length_map]
        omega
      refine ⟨_, rfl, (by show 1 ≤ sizeLine; decide), fun q1 hq1 => ?_⟩
      have c1 := same_new (o := .lst [V.ref tf]) hq1
      have gd1 : DGet (upd H6 q1 (.lst [V.ref tf])) dw (natV k) (some (V.ref tw)) := by
        rw [← g1]
        exact DGet.k (k := Sum.inl (k : Int)) (c1 _ _ ed6)
      refine ⟨_, rfl, _, rfl, dw, V.ref tw, rfl, gd1, q1, tw, _, _, rfl, rfl, upd_same, c1 _ _ g3, by rw [sizeLine_eq]; show 1 + g2.length ≤ _; omega, fun q2 hq2 => ?_⟩
      have c2 := c1.trans (same_new (o := .lst ([V.ref tf] ++ g2)) hq2)
      refine kk q2 _ ((smC.trans c1).free hq2) (smC.trans c2) ⟨_, upd_same, ?_⟩
      rw [eqR]
      exact .cons ⟨tf, rfl, c2 _ _ ht6⟩ (tups_ext (fun t xs e => c2 _ _ e) g4)
end
end K05

set_option Elab.async false
set_option linter.all false
set_option maxRecDepth 100000
set_option maxHeartbeats 4000000
namespace K05
open PySem PySem.Spec PyProof.Rows L2 Own
/-! ### _rows_of -/
abbrev NewT (H H' : Hp) (r : Addr) : List V → List (List TRow) → Prop := Paired fun v rs => ∃ t, v = V.ref t ∧ t ≠ r ∧ H t = none ∧ TL H' t (rs.map rowV)
theorem newT_ext {H H1 H2 : Hp} {r : Addr} : ∀ {vs : List V} {rss : List (List TRow)}, NewT H H1 r vs rss → (∀ t, V.ref t ∈ vs → t ≠ r → H t = none → ∀ xss, TL H1 t xss → TL H2 t xss) → NewT H H2 r vs rss
  | _, _, .nil, _ => .nil
  | _, _, .cons ⟨t, e, n, z, h⟩ q, k => .cons ⟨t, e, n, z, k t (by rw [e]; exact List.mem_cons_self ..) n z _ h⟩ (newT_ext q fun t ht => k t (List.mem_cons_of_mem _ ht))
theorem newT_snoc {H H' : Hp} {r t : Addr} {rs : List TRow} (n : t ≠ r) (z : H t = none) (h : TL H' t (rs.map rowV)) : ∀ {vs : List V} {rss : List (List TRow)}, NewT H H' r vs rss → NewT H H' r (vs ++ [V.ref t]) (rss ++ [rs])
  | _, _, .nil => .cons ⟨t, rfl, n, z, h⟩ .nil
  | _, _, .cons z0 q => .cons z0 (newT_snoc n z h q)
theorem newT_free {H H1 H2 : Hp} {r : Addr} (sm : Same H H1) : ∀ {vs : List V} {rss : List (List TRow)}, NewT H1 H2 r vs rss → NewT H H2 r vs rss
  | _, _, .nil => .nil
  | _, _, .cons ⟨t, e, n, z, h⟩ q => .cons ⟨t, e, n, sm.free z, h⟩ (newT_free sm q)
theorem newT_app {H H' : Hp} {r : Addr} : ∀ {vs vs' : List V} {rss rss' : List (List TRow)}, NewT H H' r vs rss → NewT H H' r vs' rss' → NewT H H' r (vs ++ vs') (rss ++ rss')
  | _, _, _, _, .nil, b => b
  | _, _, _, _, .cons z q, b => .cons z (newT_app q b)
def rowsOf (E : List TRow) (pc : List Nat) : List (List TRow) := rowsF (bothWays E).length (bothWays E) (pc.take 1)
def spRowsOf : Sp := fun vs H Q _ => ∃ (lp ls : Addr) (m : Nat) (E : List TRow) (pc : List Nat) (h : Nat), vs = [.ref lp, .ref ls] ∧ H lp = some (.lst (pc.map natV)) ∧ TL H ls ((bothWays E).map rowV) ∧ PieceI m E pc ∧ m ≤ 16 ∧ E.length ≤ 60 ∧ pc.take 1 = [h] ∧ h ∈ pc ∧
  ∀ (r : Addr) (zs : List V) (H' : Hp), H r = none → Same H H' → H' r = some (.lst zs) → NewT H H' r zs (rowsOf E pc) → Q (.ref r) H'
theorem cut_last (xs : List V) : cutV xs none (some (-1)) = xs.dropLast := by
  unfold cutV
  rw [HT.sIx_none, Nat.sub_zero, List.drop_zero, List.dropLast_eq_take]
  have z : HT.sIx xs.length xs.length (some (-1)) = xs.length - 1 := by
    show (if (-1 : Int) < 0 then ((-1 : Int) + (xs.length : Int)).toNat else min (-1 : Int).toNat xs.length) = _
    rw [if_pos (by decide)]
    omega
  rw [z]
theorem tups_init {H : Hp} {vs : List V} {xss : List (List V)} (t : Tups H vs xss) : Tups H vs.dropLast xss.dropLast := by
  induction t with
  | nil => exact .nil
  | cons a b ih =>
    cases b with
    | nil => exact .nil
    | cons c d => exact .cons a ih
theorem src_init {K : PySem.W.Frag} {a : Nat} {σ : L2.St} {H0 : Hp} {l : Addr} {rows : List TRow} (hl : σ[a]? = some (some (V.ref l))) (tl : TL H0 l (rows.map rowV)) : ∀ R, (∀ l H1, Same H0 H1 → TL H1 l (rows.dropLast.map rowV) → R (Itl K l) H1) → iList K (tSl (rSlL K) (tVar a) tNoPart (tPart (tUn (rU fun i => V.int (-i)) (tC (V.int 1))))) σ H0 R := fun R h => by
  obtain ⟨vs, el, tv⟩ := id tl
  refine ⟨_, hl, _, rfl, _, rfl, l, _, rfl, SqL.of el, fun S hS => ?_⟩
  have e : cutV vs none (some (-1)) = vs.dropLast := cut_last vs
  rw [e]
  have cS := same_new (o := .lst vs.dropLast) hS
  refine ⟨S, rfl, ⟨vs.dropLast, SqL.of upd_same⟩, h S _ cS ⟨vs.dropLast, upd_same, ?_⟩⟩
  have y := tups_init tv
  rw [← List.map_dropLast] at y
  exact tups_ext (fun t xs e => cS _ _ e) y
theorem src_tail {K : PySem.W.Frag} {a : Nat} {σ : L2.St} {H0 : Hp} {l : Addr} {rows : List TRow} (hl : σ[a]? = some (some (V.ref l))) (tl : TL H0 l (rows.map rowV)) : ∀ R, (∀ l H1, Same H0 H1 → TL H1 l (rows.tail.map rowV) → R (Itl K l) H1) → iList K (tSl (rSlL K) (tVar a) (tPart (tC (V.int 1))) tNoPart) σ H0 R := fun R h => by
  obtain ⟨vs, el, tv⟩ := id tl
  refine ⟨_, hl, _, rfl, l, _, rfl, SqL.of el, fun S hS => ?_⟩
  have e : cutV vs (some 1) none = vs.drop 1 := cut_drop vs 1
  rw [e]
  have cS := same_new (o := .lst (vs.drop 1)) hS
  refine ⟨S, rfl, ⟨vs.drop 1, SqL.of upd_same⟩, h S _ cS ⟨vs.drop 1, upd_same, ?_⟩⟩
  have y : Tups H0 (vs.drop 1) (rows.tail.map rowV) := by
    cases rows with
    | nil =>
      cases tv
      exact .nil
    | cons r rs =>
      cases tv with
      | cons a b => exact b
  exact tups_ext (fun t xs e => cS _ _ e) y
abbrev s_rows_of : Stmt := top 25
abbrev N_rows_of : List Str := ["piece", "steps", "told", "had", "row", "used", "step"]
theorem sc_rows_of : FnScope N_rows_of ["piece", "steps"] (defScope s_rows_of) := ⟨rfl, rfl, rfl, by decide +kernel, rfl, by decide +kernel, by decide +kernel⟩
section
variable {P : Program} {w : World} {K : PySem.W.Frag} {mg : Str → Option Value} {base : Heap} {f : Addr} {fd : FuncData}
theorem ok_rows_of (D : FnP K "_rows_of" "_rows_of" s_rows_of f fd) (c_row_from : CalX P w K mg base 2 "_row_from" spRowFrom) : FnOk P w K mg base (L2.CX P w) 3 f fd ["piece", "steps"] spRowsOf := by
  have nd := sc_rows_of.nd
  refine D.ok sc_rows_of (fun vs H Q E h => ?_) (fun cdv A outer s H vs Q E hr h => ?_)
  · obtain ⟨lp, ls, m, E, pc, h, rfl, _⟩ := h
    rfl
  · obtain ⟨lp, ls, m, E, pc, h, rfl, ep, tl, PI, m16, few, e1, hh, kk⟩ := h
    obtain ⟨f_row_from, fd_row_from, ps_row_from, F_row_from, m_row_from, k_row_from, b_row_from⟩ := c_row_from.ex
    refine ⟨_, (pss_cons (ps_set (i := 2) nd rfl (Or.inl rfl) (pe_lst pa_nil))
      (pss_cons (ps_set (i := 3) nd rfl (Or.inl rfl) (pe_slice sl_list (pv 0) po_none (po_some pe_int)))
      (pss_cons (ps_while (passes_of rfl) (pt_truth (pv 1) (by intro _; rfl)) (pss_cons (ps_set (i := 4) nd rfl (Or.inl rfl) (pe_call F_row_from (hr.mono (by decide)) rfl m_row_from k_row_from b_row_from .nil passF (pa_cons (pv 1) (pa_cons (pv 3) pa_nil))))
      (pss_cons (ps_expr (pe_bm PySem.F.plainAttrs_list PySem.F.slot_list_append PySem.F.type_list_append mt_append (pv 2) (pa_cons (pv 4) pa_nil)))
      (pss_cons (ps_expr (pe_bm PySem.F.plainAttrs_list PySem.F.slot_list_extend PySem.F.type_list_extend mt_extend (pv 3) (pa_cons (pe_lc (own := [("step", 6)]) (g := (gName 6)) (te := tOp (rIxT K) (tVar 6) (tC (.int 2))) rfl nd (pi_list (pe_slice sl_list (pv 4) po_none (po_some (pe_un un_neg pe_int)))) (blkOk_by (own := [("step", 6)]) (N := N_rows_of) (sc := defScope s_rows_of) (by decide +kernel)) (fun _ _ _ _ _ => (pg_name (i := 6) nd rfl (Or.inl rfl))) (fun _ _ _ _ _ => pts_nil) (fun _ _ _ _ _ => (pe_ix ix_tup (pv 6) pe_int (fun _ _ => rfl)))) pa_nil)))
      (pss_cons (ps_set (i := 5) nd rfl (Or.inr rfl) (pe_lc (own := [("step", 6)]) (g := (gName 6)) (te := tOp (rIxT K) (tVar 6) (tC (.int 0))) rfl nd (pi_list (pv 4)) (blkOk_by (own := [("step", 6)]) (N := N_rows_of) (sc := defScope s_rows_of) (by decide +kernel)) (fun _ _ _ _ _ => (pg_name (i := 6) nd rfl (Or.inl rfl))) (fun _ _ _ _ _ => pts_nil) (fun _ _ _ _ _ => (pe_ix ix_tup (pv 6) pe_int (fun _ _ => rfl)))))
      (pss_one (ps_setLc (own := [("step", 6)]) (g := (gName 6)) (tt := tTest (tOp (rIn K true) (tOp (rIxT K) (tVar 6) (tC (.int 0))) (tVar 5))) (i := 1) rfl nd rfl rfl (sw_true rfl rfl rfl (by decide +kernel)) (pi_list (pv 1)) (blkOk_by (own := [("step", 6)]) (N := N_rows_of) (sc := defScope s_rows_of) (by decide +kernel)) (fun _ _ _ _ _ => (pg_name (i := 6) nd rfl (Or.inl rfl))) (fun _ _ _ _ _ => (pts_one (pt_cmpR op_notIn_seq (pe_ix ix_tup (pv 6) pe_int (fun _ _ => rfl)) (pv 5) (by with_unfolding_all rfl)))) (fun _ _ _ _ _ => (pv 6)))))))))
      (pss_one (ps_ret (pv 2)))))), ?_⟩
    refine ⟨(by show 0 ≤ sizeLine; decide), fun da hda => ?_⟩
    have cd := same_new (o := .lst []) hda
    refine ⟨_, rfl, _, rfl, lp, _, rfl, SqL.of (cd _ _ ep), fun ha hha => ?_⟩
    have ch := same_new (o := .lst (cutV (pc.map natV) none (some 1))) hha
    have ed0 := ch _ _ (upd_same (H := H) (a := da) (o := .lst []))
    have eh0 := upd_same (H := upd H da (.lst [])) (a := ha) (o := .lst (cutV (pc.map natV) none (some 1)))
    have ecut : cutV (pc.map natV) none (some 1) = [natV h] := by
      have z := cut_take (pc.map natV) 1
      rw [← List.map_take, e1] at z
      exact z
    rw [ecut] at ch eh0 ed0 ⊢
    have nhd : ha ≠ da := fun z => by
      rw [z, upd_same] at hha
      cases hha
    have hha0 : H ha = none := cd.free hha
    have sm0 := cd.trans ch
    generalize upd (upd H da (.lst [])) ha (.lst [natV h]) = H0 at *
    clear cd ch hha
    dsimp only [gName]
    refine nice (σ' := [some (.ref lp), some (.ref ls), some (.ref da), some (.ref ha), none, none, none]) rfl ?_
    have R0 := rows_start PI hh
    have N120 : (bothWays E).length ≤ 120 := by
      rw [both_len]
      omega
    have nls : ∀ {x : Addr}, H x = none → ls ≠ x := fun {x} hx z => by
      obtain ⟨_, e, _⟩ := tl
      rw [z, hx] at e
      cases e
    refine ⟨fun mu σ H' => ∃ (l2 : Addr) (st : List TRow) (had : List Nat) (R : List (List TRow)) (zs : List V) (u4 u5 : Option V), σ = [some (.ref lp), some (.ref l2), some (.ref da), some (.ref ha), u4, u5, none] ∧ TL H' l2 (st.map rowV) ∧ l2 ≠ da ∧ l2 ≠ ha ∧ H' da = some (.lst zs) ∧ NewT H H' da zs R ∧ V.ref ha ∉ zs ∧ H' ha = some (.lst (had.map natV)) ∧ RowsI E pc st had R.flatten ∧ R ++ rowsF mu st had = rowsOf E pc ∧ st.length ≤ mu ∧ mu ≤ 120 ∧ had.length + 17 * mu ≤ 3000 ∧ zs.length + mu ≤ 300 ∧ Same H H',
      ⟨(bothWays E).length, ls, bothWays E, [h], [], [], none, none, rfl, tl_same tl sm0, nls hda, nls hha0, ed0, .nil, List.not_mem_nil, eh0, R0, by unfold rowsOf; rw [e1]; rfl, Nat.le_refl _, N120, by show 1 + _ ≤ _; omega, by show 0 + _ ≤ _; omega, sm0⟩, ?_⟩
    clear R0 N120 nls sm0 ed0 eh0 ecut tl few e1 hh ep H0
    rintro mu σ H1 ⟨l2, st, had, R, zs, u4, u5, rfl, tl, n1, n2, ed, nt, hz, eh, RI, eqF, ln, mu120, lh, lz, sm⟩
    obtain ⟨v1, el, tv⟩ := id tl
    have lv1 : v1.length = st.length := by rw [tups_len tv, List.length_map]
    refine ⟨_, rfl, !v1.isEmpty, .inl ⟨_, SqL.of el, rfl⟩, ?_⟩
    cases st with
    | nil =>
      have e0 : v1 = [] := List.length_eq_zero_iff.mp lv1
      subst e0
      have e2 : rowsF mu [] had = [] := by cases mu <;> rfl
      rw [e2, List.append_nil] at eqF
      rw [eqF] at nt
      exact ⟨_, rfl, kk da zs H1 hda sm ed nt⟩
    | cons s0 st0 =>
      have ev : (!v1.isEmpty) = true := by
        cases v1 with
        | nil => cases lv1
        | cons _ _ => rfl
      rw [ev]
      have ne : s0 :: st0 ≠ [] := by simp
      generalize hst : s0 :: st0 = st at *
      clear hst v1 el tv lv1 ev
      have pos : 1 ≤ st.length := by
        cases st with
        | nil => exact (ne rfl).elim
        | cons _ _ => exact Nat.succ_le_succ (Nat.zero_le _)
      obtain ⟨n, rfl⟩ : ∃ n, mu = n + 1 := ⟨mu - 1, by omega⟩
      obtain ⟨fr, fs, k, ks, AT⟩ := row_at PI m16 RI ne
      have RW := row_is PI m16 RI AT
      have eqF2 : (R ++ [rowF st had]) ++ rowsF n (leftF st (rowF st had)) (moreF had (rowF st had)) = rowsOf E pc := by
        rw [← eqF]
        have e3 : rowsF (n + 1) st had = rowF st had :: rowsF n (leftF st (rowF st had)) (moreF had (rowF st had)) := by
          show (if st.isEmpty = true then [] else _) = _
          rw [if_neg (fun z => ne (List.isEmpty_iff.mp z))]
        rw [e3, List.append_assoc]
        rfl
      have inS : ∀ q ∈ ends st, q.1 < m ∧ q.2 < m := fun q hq => by
        obtain ⟨x, hx, rfl⟩ := List.mem_map.mp hq
        have z := both_pc PI (rowsI_in PI RI x hx).1
        exact ⟨PI.lt _ z.1, PI.lt _ z.2⟩
      have RN := row_next PI RI RW
      have less := left_less RW
      generalize hrow : rowF st had = row at *
      refine ⟨fun σ' H' => ∃ (l2 : Addr) (st : List TRow) (had : List Nat) (R : List (List TRow)) (zs : List V) (u4 u5 : Option V), σ' = [some (.ref lp), some (.ref l2), some (.ref da), some (.ref ha), u4, u5, none] ∧ TL H' l2 (st.map rowV) ∧ l2 ≠ da ∧ l2 ≠ ha ∧ H' da = some (.lst zs) ∧ NewT H H' da zs R ∧ V.ref ha ∉ zs ∧ H' ha = some (.lst (had.map natV)) ∧ RowsI E pc st had R.flatten ∧ R ++ rowsF n st had = rowsOf E pc ∧ st.length ≤ n ∧ n ≤ 120 ∧ had.length + 17 * n ≤ 3000 ∧ zs.length + n ≤ 300 ∧ Same H H',
        fun σ' H' z => ⟨n, by omega, z⟩, ?_⟩
      refine ⟨_, rfl, _, rfl, l2, ha, m, st, had, fr, fs, k, ks, rfl, tl, eh, inS, m16, by omega, AT, fun rr H2 hrr sm2 tr => ?_⟩
      rw [hrow] at tr
      clear hrow AT inS ne RI eqF
      dsimp only [gName]
      refine nice (σ' := [some (.ref lp), some (.ref l2), some (.ref da), some (.ref ha), some (.ref rr), u5, none]) rfl ?_
      have few17 := RW.few
      have ed2 := sm2 _ _ ed
      have eh2 := sm2 _ _ eh
      have nt2 := newT_ext nt fun t _ _ _ xss z => tl_same z sm2
      have tl2 := tl_same tl sm2
      have smA := sm.trans sm2
      have nrd : rr ≠ da := fun z => by
        rw [z, ed] at hrr
        cases hrr
      have nrh : rr ≠ ha := fun z => by
        rw [z, eh] at hrr
        cases hrr
      have hrr0 := sm.free hrr
      clear ed eh nt tl sm sm2 hrr H1
      refine ⟨_, rfl, .inl ⟨rfl, _, SqL.of ed2⟩, _, rfl, da, _, _, rfl, rfl, ed2, by rw [sizeLine_eq]; omega, ?_⟩
      have nt3 : NewT H (upd H2 da (.lst (zs ++ [V.ref rr]))) da (zs ++ [V.ref rr]) (R ++ [row]) := newT_ext (newT_snoc nrd hrr0 tr nt2) fun t _ n _ xss z => tl_over z ed2 n
      have tr3 := tl_over (o := .lst (zs ++ [V.ref rr])) tr ed2 nrd
      have tl3 := tl_over (o := .lst (zs ++ [V.ref rr])) tl2 ed2 n1
      have ed3 := upd_same (H := H2) (a := da) (o := .lst (zs ++ [V.ref rr]))
      have eh3 : upd H2 da (.lst (zs ++ [V.ref rr])) ha = some (.lst (had.map natV)) := by rw [upd_ne nhd]; exact eh2
      have sm3 : Same H (upd H2 da (.lst (zs ++ [V.ref rr]))) := same_over hda smA
      have hz3 : V.ref ha ∉ zs ++ [V.ref rr] := fun z => by
        rcases List.mem_append.mp z with z | z
        · exact hz z
        · exact nrh (V.ref.inj (List.mem_singleton.mp z)).symm
      generalize upd H2 da (.lst (zs ++ [V.ref rr])) = H3 at *
      clear nt2 tr tl2 ed2 eh2 smA
      -- had grows
      refine ⟨_, rfl, .inl ⟨rfl, _, SqL.of eh3⟩, ?_⟩
      refine lc_nums (K := K) (rows := row.dropLast) (fun r => r.2.2) (fun Rr hR => ?_) (by rw [List.length_dropLast]; omega) (fun _ => rfl) (fun r hr0 t H4 Qt sm4 ht q => ?_) (fun D4 H4 hD4 sm4 e4 => ?_)
      · obtain ⟨vr, er, tvr⟩ := id tr3
        refine ⟨_, rfl, _, rfl, _, rfl, rr, _, rfl, SqL.of er, fun S hS => ?_⟩
        have cS := same_new (o := .lst (cutV vr none (some (-1)))) hS
        have eS := upd_same (H := H3) (a := S) (o := .lst (cutV vr none (some (-1))))
        rw [cut_last] at cS eS
        refine ⟨S, rfl, ⟨vr.dropLast, SqL.of (by rw [cut_last]; exact eS)⟩, hR S _ (by rw [cut_last]; exact cS) ⟨vr.dropLast, by rw [cut_last]; exact eS, ?_⟩⟩
        rw [cut_last]
        have z : ∀ (vs : List V) (xss : List (List V)), Tups H3 vs xss → Tups H3 vs.dropLast xss.dropLast := fun vs xss t => by
          induction t with
          | nil => exact .nil
          | cons a b ih =>
            cases b with
            | nil => exact .nil
            | cons c d => exact .cons a ih
        have y := z _ _ tvr
        rw [← List.map_dropLast] at y
        exact tups_ext (fun t xs e => cS _ _ e) y
      · exact ⟨_, rfl, t, _, _, _, rfl, rfl, SqT.of ht, atI_nat (j := 2) rfl, q⟩
      have eh4 := sm4 _ _ eh3
      have ed4 := sm4 _ _ ed3
      have nt4 := newT_ext nt3 fun t _ _ _ xss z => tl_same z sm4
      have tr4 := tl_same tr3 sm4
      have tl4 := tl_same tl3 sm4
      have sm5 := sm3.trans sm4
      have ndl : row.dropLast.length ≤ 17 := by
        rw [List.length_dropLast]
        omega
      refine ⟨ha, D4, _, _, rfl, rfl, eh4, e4, by rw [List.length_map, List.length_map, List.length_map, sizeLine_eq]; omega, ?_⟩
      have emore : had.map natV ++ (row.dropLast.map fun r => r.2.2).map natV = (moreF had row).map natV := by
        unfold moreF
        rw [List.map_append]
      rw [emore]
      have nt6 : NewT H (upd H4 ha (.lst ((moreF had row).map natV))) da (zs ++ [V.ref rr]) (R ++ [row]) := newT_ext nt4 fun t ht _ _ xss z => tl_over z eh4 fun y => hz3 (by rw [← y]; exact ht)
      have tr6 := tl_over (o := .lst ((moreF had row).map natV)) tr4 eh4 nrh
      have tl6 := tl_over (o := .lst ((moreF had row).map natV)) tl4 eh4 n2
      have ed6 : upd H4 ha (.lst ((moreF had row).map natV)) da = some (.lst (zs ++ [V.ref rr])) := by rw [upd_ne nhd.symm]; exact ed4
      have eh6 := upd_same (H := H4) (a := ha) (o := .lst ((moreF had row).map natV))
      have sm6 : Same H (upd H4 ha (.lst ((moreF had row).map natV))) := same_over hha0 sm5
      generalize upd H4 ha (.lst ((moreF had row).map natV)) = H6 at *
      clear emore ed4 eh4 nt4 tr4 tl4 sm5 sm4 hD4 e4 ed3 eh3 nt3 tr3 tl3 sm3 H3 H4
      -- what is used, what is left
      refine at_seq (at_asg (lc_nums (K := K) (rows := row) (fun r => r.1) (src_name rfl tr6) (by omega) (fun _ => rfl) (fun r hr0 t H7 Qt sm7 ht q => ⟨_, rfl, t, _, _, _, rfl, rfl, SqT.of ht, atI_nat (j := 0) rfl, q⟩) (fun ua H7 hua sm7 eu => ?_)))
      dsimp only [gName]
      refine nice (σ' := [some (.ref lp), some (.ref l2), some (.ref da), some (.ref ha), some (.ref rr), some (.ref ua), none]) rfl ?_
      refine at_asg (lc_rows (fun r => decide (r.1 ∉ row.map (·.1))) (src_name rfl (tl_same tl6 sm7)) (by omega) (fun _ => rfl) (fun _ => rfl) (fun r hr0 t H8 Qt sm8 ht q => ?_) (fun D8 H8 hD8 sm8 t8 => ?_))
      · refine ⟨_, rfl, t, _, _, _, rfl, rfl, SqT.of ht, atI_nat (j := 0) rfl, _, rfl, ua, _, rfl, .inl (SqL.of (sm8 _ _ eu)), rfl, flat_nat _, _, rfl, ?_⟩
        have iv : inV (.int (r.1 : Int)) ((row.map fun r => r.1).map natV) = decide (r.1 ∈ row.map fun r => r.1) := inV_nat _ _
        rw [iv, if_pos rfl, ← decide_not]
        exact q
      · have smB := sm7.trans sm8
        have nD : ∀ {x xs}, H6 x = some (.lst xs) → D8 ≠ x := fun {x xs} e z => by
          have y := sm7 _ _ e
          rw [← z, hD8] at y
          cases y
        refine ⟨D8, leftF st row, moreF had row, R ++ [row], zs ++ [V.ref rr], _, _, rfl, t8, nD ed6, nD eh6, smB _ _ ed6, newT_ext nt6 fun t _ _ _ xss z => tl_same z smB, hz3, smB _ _ eh6, ?_, eqF2, by omega, by omega, ?_, ?_, sm6.trans smB⟩
        · rw [List.flatten_append]
          have e9 : [row].flatten = row := by simp
          rw [e9]
          exact RN
        · unfold moreF
          rw [List.length_append, List.length_map]
          omega
        · rw [List.length_append]
          show zs.length + 1 + n ≤ 300
          omega
end
end K05

set_option Elab.async false
set_option linter.all false
set_option maxRecDepth 100000
set_option maxHeartbeats 4000000
namespace K05
open PySem PySem.Spec PyProof.Rows L2 Own
/-! ### handles -/
def spHandles (C : Addr) : Sp := fun vs H Q _ => ∃ (p d : Addr) (m : Nat) (rows : List TRow) (n : Nat), vs = [.ref p] ∧ TownAt C H p d m rows n ∧
  ∀ (r : Addr) (zs : List V) (H' : Hp), H r = none → Same H H' → H' r = some (.lst zs) → NewT H H' r zs (handlesF m rows) → Q (.ref r) H'
theorem rowsF_len : ∀ (n : Nat) (st : List TRow) (had : List Nat), (rowsF n st had).length ≤ n
  | 0, _, _ => Nat.le_refl _
  | n + 1, st, had => by
    unfold rowsF
    split
    · exact Nat.zero_le _
    · exact Nat.succ_le_succ (rowsF_len n _ _)
theorem newT_re {H H1 H2 : Hp} {r r' : Addr} {o : HO} (sm : Same H H1) (e : H1 r = some o) : ∀ {vs : List V} {rss : List (List TRow)}, NewT H1 H2 r' vs rss → NewT H H2 r vs rss
  | _, _, .nil => .nil
  | _, _, .cons ⟨t, a, n, z, h⟩ q => .cons ⟨t, a, fun y => (by rw [y, e] at z; cases z), sm.free z, h⟩ (newT_re sm e q)
abbrev s_handles : Stmt := top 26
abbrev N_handles : List Str := ["town", "between", "steps", "told", "piece", "row", "step"]
theorem sc_handles : FnScope N_handles ["town"] (defScope s_handles) := ⟨rfl, rfl, rfl, by decide +kernel, rfl, by decide +kernel, by decide +kernel⟩
section
variable {P : Program} {w : World} {K : PySem.W.Frag} {mg : Str → Option Value} {base : Heap} {f : Addr} {fd : FuncData}
theorem ok_handles (D : FnP K "handles" "handles" s_handles f fd) (c_parting : CalX P w K mg base 5 "parting" (spParting (gA K "Town"))) (c_pieces : CalX P w K mg base 5 "pieces" (spPieces (gA K "Town"))) (c_both_ways : CalX P w K mg base 1 "both_ways" spBoth) (c_rows_of : CalX P w K mg base 3 "_rows_of" spRowsOf)
    (c_Town_streets : MetX P w K mg base 1 (gA K "Town") "streets" (spStreets (gA K "Town"))) : FnOk P w K mg base (L2.CX P w) 6 f fd ["town"] (spHandles (gA K "Town")) := by
  have nd := sc_handles.nd
  refine D.ok sc_handles (fun vs H Q E h => ?_) (fun cdv A outer s H vs Q E hr h => ?_)
  · obtain ⟨p, d, m, rows, n, rfl, _⟩ := h
    rfl
  · obtain ⟨p, d, m, rows, n, rfl, W, kk⟩ := h
    obtain ⟨f_parting, fd_parting, ps_parting, F_parting, m_parting, k_parting, b_parting⟩ := c_parting.ex
    obtain ⟨f_pieces, fd_pieces, ps_pieces, F_pieces, m_pieces, k_pieces, b_pieces⟩ := c_pieces.ex
    obtain ⟨f_both_ways, fd_both_ways, ps_both_ways, F_both_ways, m_both_ways, k_both_ways, b_both_ways⟩ := c_both_ways.ex
    obtain ⟨f_rows_of, fd_rows_of, ps_rows_of, F_rows_of, m_rows_of, k_rows_of, b_rows_of⟩ := c_rows_of.ex
    obtain ⟨f_Town_streets, fd_Town_streets, ps_Town_streets, c_Town_streets, M_Town_streets, F_Town_streets, b_Town_streets⟩ := c_Town_streets.ex
    refine ⟨_, (pss_cons (ps_set (i := 1) nd rfl (Or.inr rfl) (pe_call F_parting (hr.mono (by decide)) rfl m_parting k_parting b_parting .nil passF (pa_cons (pv 0) pa_nil)))
      (pss_cons (ps_set (i := 2) nd rfl (Or.inl rfl) (pe_call F_both_ways (hr.mono (by decide)) rfl m_both_ways k_both_ways b_both_ways .nil passF (pa_cons (pe_lc (own := [("row", 5)]) (g := (gName 5)) (tt := tTest (tOp (rIn K true) (tOp (rIxT K) (tVar 5) (tC (.int 0))) (tVar 1))) rfl nd (pi_list (pe_meth0 (pv 0) c_Town_streets M_Town_streets F_Town_streets (hr.mono (by decide)) b_Town_streets .nil passF)) (blkOk_by (own := [("row", 5)]) (N := N_handles) (sc := defScope s_handles) (by decide +kernel)) (fun _ _ _ _ _ => (pg_name (i := 5) nd rfl (Or.inl rfl))) (fun _ _ _ _ _ => (pts_one (pt_cmpR op_notIn_seq (pe_ix ix_tup (pv 5) pe_int (fun _ _ => rfl)) (pv 1) (by with_unfolding_all rfl)))) (fun _ _ _ _ _ => (pv 5))) pa_nil)))
      (pss_cons (ps_set (i := 3) nd rfl (Or.inl rfl) (pe_lst pa_nil))
      (pss_cons (ps_for (passes_of rfl) rfl (pi_list (pe_call F_pieces (hr.mono (by decide)) rfl m_pieces k_pieces b_pieces .nil passF (pa_cons (pv 0) pa_nil))) (pg_name (i := 4) nd rfl (Or.inr rfl)) (pss_one (ps_expr (pe_bm PySem.F.plainAttrs_list PySem.F.slot_list_extend PySem.F.type_list_extend mt_extend (pv 3) (pa_cons (pe_call F_rows_of (hr.mono (by decide)) rfl m_rows_of k_rows_of b_rows_of .nil passF (pa_cons (pv 4) (pa_cons (pe_lc (own := [("step", 6)]) (g := (gName 6)) (tt := tTest (tOp (rIn K false) (tOp (rIxT K) (tVar 6) (tC (.int 1))) (tVar 4))) rfl nd (pi_list (pv 2)) (blkOk_by (own := [("step", 6)]) (N := N_handles) (sc := defScope s_handles) (by decide +kernel)) (fun _ _ _ _ _ => (pg_name (i := 6) nd rfl (Or.inl rfl))) (fun _ _ _ _ _ => (pts_one (pt_cmpR op_in_seq (pe_ix ix_tup (pv 6) pe_int (fun _ _ => rfl)) (pv 4) (by with_unfolding_all rfl)))) (fun _ _ _ _ _ => (pv 6))) pa_nil))) pa_nil)))))
      (pss_one (ps_ret (pv 3))))))), ?_⟩
    have u := rise_one W.ok.rise
    have inm := town_inm W
    have m1 := W.pm.1
    have m16 := W.pm.2
    refine ⟨_, rfl, p, d, m, rows, n, rfl, W, fun bl H1 hbl sm1 eb => ?_⟩
    dsimp only [gName]
    refine nice (σ' := [some (.ref p), some (.ref bl), none, none, none, none, none]) rfl ?_
    have W1 := W.same sm1
    obtain ⟨dx, hp1⟩ := W1.ob
    refine at_seq (at_asg (at_call (at_cons ?_)))
    refine lc_rows (K := K) (rows := rows) (fun r => decide (r.1 ∉ (rows.filter (bridge rows)).map (·.1))) (fun Rr hR => ?_) (by have := W.ok.few; omega) (fun _ => rfl) (fun _ => rfl) (fun r hr0 t H3 Qt sm3 ht q => ?_) (fun kl H2 hkl sm2 tk => ?_)
    · refine ⟨_, rfl, p, dx, _, rfl, hp1, tF_no _ _ _ (by decide +kernel) (by decide +kernel) (by decide +kernel), p, d, m, rows, n, rfl, W1, fun l H3 hl sm3 tl => ?_⟩
      obtain ⟨vs, el, tv⟩ := id tl
      exact ⟨l, rfl, ⟨vs, SqL.of el⟩, hR l H3 sm3 tl⟩
    · refine ⟨_, rfl, t, _, _, _, rfl, rfl, SqT.of ht, atI_nat (j := 0) rfl, _, rfl, bl, _, rfl, .inl (SqL.of (sm3 _ _ eb)), rfl, flat_nat _, _, rfl, ?_⟩
      have iv : inV (.int (r.1 : Int)) (((rows.filter (bridge rows)).map (·.1)).map natV) = decide (r.1 ∈ (rows.filter (bridge rows)).map (·.1)) := inV_nat _ _
      rw [iv, if_pos rfl, ← decide_not]
      exact q
    rw [(solid_kept rows u).2] at tk
    have lsol : (solid rows).length ≤ 60 := Nat.le_trans (List.length_filter_le _ _) W.ok.few
    refine ⟨kl, solid rows, rfl, tk, lsol, fun sl H3 hsl sm3 ts => ?_⟩
    dsimp only [gName]
    refine nice (σ' := [some (.ref p), some (.ref bl), some (.ref sl), none, none, none, none]) rfl ?_
    have sm03 := (sm1.trans sm2).trans sm3
    refine ⟨(by show 0 ≤ sizeLine; decide), fun da hda => ?_⟩
    have cd := same_new (o := .lst []) hda
    have ed := upd_same (H := H3) (a := da) (o := .lst [])
    have hda0 := sm03.free hda
    have ts4 := tl_same ts cd
    have nsl : sl ≠ da := fun z => by
      obtain ⟨_, e, _⟩ := ts
      rw [z, hda] at e
      cases e
    have sm04 := sm03.trans cd
    generalize upd H3 da (.lst []) = H4 at *
    clear hda cd ts tk sm03 sm1 sm2 sm3 hp1 hkl hsl hbl W1 eb
    have W4 := W.same sm04
    dsimp only [gName]
    refine nice (σ' := [some (.ref p), some (.ref bl), some (.ref sl), some (.ref da), none, none, none]) rfl ?_
    refine at_seq ?_
    refine ⟨_, rfl, p, d, m, rows, n, rfl, W4, fun pl pv H5 hpl sm5 ep np => ?_⟩
    have lpv : pv.length = (piecesOf m rows).length := by
      rw [Paired.length np]
      unfold natL
      rw [List.length_map]
    have lp16 : (piecesOf m rows).length ≤ 16 := Nat.le_trans parts_len m16
    refine ⟨pl, rfl, ⟨pv, SqL.of ep⟩, for_it walk_list (fun i σ' H' => ∃ (zs : List V) (u4 : Option V), σ' = [some (.ref p), some (.ref bl), some (.ref sl), some (.ref da), u4, none, none] ∧ H' da = some (.lst zs) ∧ NewT H H' da zs (((piecesOf m rows).take i).flatMap (pieceRows (solid rows))) ∧ zs.length ≤ 120 * i ∧ Same H H' ∧ (∀ x o, x ≠ da → H5 x = some o → H' x = some o))
      ⟨[], none, rfl, sm5 _ _ ed, .nil, Nat.zero_le _, sm04.trans sm5, fun _ _ _ e => e⟩ (fun i σ' H' _ ⟨_, _, _, e, _, _, _, z⟩ => SqL.of (z _ _ (fun y => by rw [← y, hpl] at ed; cases ed) ep)) ?_ ?_⟩
    · rintro i x σ H6 H7 hi ⟨zs, u4, rfl, e6, n6, l6, sm6, keep⟩ ⟨rfl, hx⟩
      obtain ⟨t, ys, hx1, hy, nt, z1, z2⟩ := newL_get np hi
      rw [hx] at hx1
      cases hx1
      obtain ⟨pc, hpc⟩ : ∃ pc, (piecesOf m rows)[i]? = some pc := ⟨_, List.getElem?_eq_getElem (by omega)⟩
      have ey : ys = pc.map natV := by
        unfold natL at hy
        rw [List.getElem?_map, hpc] at hy
        exact (Option.some.inj hy).symm
      subst ey
      have hpc2 := hpc
      rw [pieces_eq m u, List.getElem?_map] at hpc2
      obtain ⟨h, hh⟩ : ∃ h, (heads m (ends (solid rows)))[i]? = some h := by
        cases z : (heads m (ends (solid rows)))[i]? with
        | none =>
          rw [z] at hpc2
          cases hpc2
        | some h => exact ⟨h, rfl⟩
      rw [hh] at hpc2
      have epc : cls m (ends (solid rows)) h = pc := Option.some.inj hpc2
      obtain ⟨hm, hl⟩ := mem_heads.mp (List.mem_of_getElem? hh)
      have PI := piece_I u inm h
      have tk := cls_take hm hl
      have hin : h ∈ cls m (ends (solid rows)) h := mem_cls.mpr ⟨hm, .stay _⟩
      have inS : ∀ q ∈ ends (solid rows), q.1 < m ∧ q.2 < m := fun q hq => by
        obtain ⟨x, hx, e⟩ := List.mem_map.mp hq
        exact inm q (List.mem_map.mpr ⟨x, (solid_in.mp hx).1, e⟩)
      have bf := both_filterP (fun x => decide (x ∈ cls m (ends (solid rows)) h)) (solid rows) fun r hr => decide_eq_decide.mpr (cls_ends (h := h) inS hr)
      rw [epc] at PI tk hin bf
      have nta : t ≠ da := fun y => by
        rw [y, sm5 _ _ ed] at z2
        have := (V.ref.inj (congrArg V.ref y))
        rw [y] at z1
        rw [ed] at z1
        cases z1
      have ep7 := keep _ _ nta z2
      have ts7 : TL H7 sl ((bothWays (solid rows)).map rowV) := by
        obtain ⟨vs, el, tv⟩ := tl_same ts4 sm5
        exact ⟨vs, keep _ _ nsl el, tups_ext (fun t xs e => keep _ _ (ne_of e (sm5 _ _ ed) (by intro z; cases z)) e) tv⟩
      dsimp only [gName]
      refine ⟨_, rfl, .inl ⟨rfl, _, SqL.of e6⟩, _, rfl, ?_⟩
      refine lc_rows (K := K) (rows := bothWays (solid rows)) (fun st => decide (st.2.1 ∈ pc)) (src_name rfl ts7) (by rw [both_len]; omega) (fun _ => rfl) (fun _ => rfl) (fun r hr0 t' H8 Qt sm8 ht q => ?_) (fun D8 H8 hD8 sm8 t8 => ?_)
      · refine ⟨_, rfl, t', _, _, _, rfl, rfl, SqT.of ht, atI_nat (j := 1) rfl, _, rfl, t, _, rfl, .inl (SqL.of (sm8 _ _ ep7)), rfl, flat_nat _, _, rfl, ?_⟩
        have iv : inV (.int (r.2.1 : Int)) (pc.map natV) = decide (r.2.1 ∈ pc) := inV_nat _ _
        rw [iv]
        exact q
      · have e9 : (bothWays (solid rows)).filter (fun st => decide (st.2.1 ∈ pc)) = bothWays (pieceE (solid rows) pc) := bf
        rw [e9] at t8
        refine ⟨t, D8, m, pieceE (solid rows) pc, pc, h, rfl, sm8 _ _ ep7, t8, PI, m16, Nat.le_trans (List.length_filter_le _ _) lsol, tk, hin, fun rr zs' H9 hrr sm9 er nr => ?_⟩
        have smX := sm8.trans sm9
        have lz' : zs'.length ≤ 120 := by
          rw [Paired.length nr]
          refine Nat.le_trans (rowsF_len _ _ _) ?_
          rw [both_len]
          have := List.length_filter_le (fun r : TRow => decide (r.2.1 ∈ pc)) (solid rows)
          show 2 * ((solid rows).filter fun r : TRow => decide (r.2.1 ∈ pc)).length ≤ 120
          omega
        refine ⟨da, rr, zs, zs', rfl, rfl, smX _ _ e6, er, by rw [sizeLine_eq]; omega, ?_⟩
        have e6' := smX _ _ e6
        have nn : NewT H H9 da (zs ++ zs') (((piecesOf m rows).take (i + 1)).flatMap (pieceRows (solid rows))) := by
          rw [take_snoc hpc, List.flatMap_append]
          refine newT_app (newT_ext n6 fun t _ _ _ xss z => tl_same z smX) ?_
          have z := newT_re (r := da) (sm6.trans sm8) (sm8 _ _ e6) nr
          have e10 : List.flatMap (pieceRows (solid rows)) [pc] = rowsOf (pieceE (solid rows) pc) pc := by
            show pieceRows (solid rows) pc ++ [] = _
            rw [List.append_nil]
            rfl
          rw [e10]
          exact z
        refine ⟨zs ++ zs', _, rfl, upd_same, newT_ext nn fun t _ n _ xss z => tl_over z e6' n, by rw [List.length_append]; omega, same_over hda0 (sm6.trans smX), fun x o nx e => ?_⟩
        rw [upd_ne nx]
        exact smX _ _ (keep x o nx e)
    · rintro σ' H6 ⟨zs, u4, rfl, e6, n6, _, sm6, _⟩
      rw [List.take_of_length_le (by omega)] at n6
      exact ⟨_, rfl, kk da zs H6 hda0 sm6 e6 n6⟩
end
end K05

set_option Elab.async false
set_option linter.all false
set_option maxRecDepth 100000
set_option maxHeartbeats 4000000
namespace K05
open PySem PySem.Spec PyProof.Rows L2 Own
/-! ### labels: the law's own joining -/
theorem way_nil {a b : Nat} (h : Way [] a b) : a = b := by
  induction h with
  | stay => rfl
  | fwd _ e _ => cases e
  | bwd _ e _ => cases e
def IsLab (m : Nat) (ps : Join) (L : List Nat) : Prop := L.length = m ∧ ∀ p, p < m → ∃ h, L[p]? = some h ∧ Way ps h p ∧ Least ps h
theorem lab_nil (m : Nat) : IsLab m [] (List.range m) :=
  ⟨List.length_range, fun p hp => ⟨p, by rw [List.getElem?_range hp], .stay _, fun q hq w => by have := way_nil w; omega⟩⟩
theorem lab_snoc {m : Nat} {ps : Join} {L : List Nat} {a b x y : Nat} (h : IsLab m ps L) (ha : a < m) (hb : b < m) (hx : L[a]? = some x) (hy : L[b]? = some y) :
    IsLab m (ps ++ [(a, b)]) (L.map fun z => if z = max x y then min x y else z) := by
  obtain ⟨x', hx', wx, lx⟩ := h.2 a ha
  rw [hx] at hx'
  cases hx'
  obtain ⟨y', hy', wy, ly⟩ := h.2 b hb
  rw [hy] at hy'
  cases hy'
  have up : ∀ {u v}, Way ps u v → Way (ps ++ [(a, b)]) u v := fun w => w.mono fun q hq => List.mem_append_left _ hq
  have ab : Way (ps ++ [(a, b)]) a b := .fwd (.stay _) (List.mem_append_right _ (List.mem_singleton.mpr rfl))
  have xy : Way (ps ++ [(a, b)]) x y := ((up wx).trans ab).trans (up wy.symm)
  have keep : ∀ z, Least ps z → z ≠ max x y → Least (ps ++ [(a, b)]) z := fun z lz nz q hq w => by
    rcases way_snoc.mp w with w | ⟨w1, w2⟩ | ⟨w1, w2⟩
    · exact lz q hq w
    · have e : y = z := least_uniq ly lz (wy.trans w2)
      have : z < x := by
        subst e
        omega
      exact lx q (by omega) (w1.trans wx.symm)
    · have e : x = z := least_uniq lx lz (wx.trans w2)
      have : z < y := by
        subst e
        omega
      exact ly q (by omega) (w1.trans wy.symm)
  have mine : Least (ps ++ [(a, b)]) (min x y) := by
    by_cases e : x = y
    · subst e
      rw [Nat.min_self]
      intro q hq w
      rcases way_snoc.mp w with w | ⟨w1, w2⟩ | ⟨w1, w2⟩
      · exact lx q hq w
      · exact lx q hq (w1.trans wx.symm)
      · exact lx q hq (w1.trans wy.symm)
    · rcases Nat.lt_or_gt_of_ne e with l | l
      · have e2 : min x y = x := by omega
        rw [e2]
        exact keep x lx (by omega)
      · have e2 : min x y = y := by omega
        rw [e2]
        exact keep y ly (by omega)
  have gm : Way (ps ++ [(a, b)]) (min x y) (max x y) := by
    rcases Nat.le_total x y with l | l
    · have e1 : min x y = x := by omega
      have e2 : max x y = y := by omega
      rw [e1, e2]
      exact xy
    · have e1 : min x y = y := by omega
      have e2 : max x y = x := by omega
      rw [e1, e2]
      exact xy.symm
  refine ⟨by rw [List.length_map]; exact h.1, fun p hp => ?_⟩
  obtain ⟨z, hz, wz, lz⟩ := h.2 p hp
  refine ⟨if z = max x y then min x y else z, by rw [List.getElem?_map, hz]; rfl, ?_, ?_⟩
  · by_cases e : z = max x y
    · rw [if_pos e]
      exact gm.trans (e ▸ up wz)
    · rw [if_neg e]
      exact up wz
  · by_cases e : z = max x y
    · rw [if_pos e]
      exact mine
    · rw [if_neg e]
      exact keep z lz e
theorem lab_mem {m : Nat} {ps : Join} {L : List Nat} {k : Nat} (h : IsLab m ps L) (hk : k < m) : k ∈ L ↔ Least ps k := by
  constructor
  · intro hm
    obtain ⟨p, hp, e⟩ := List.mem_iff_getElem.mp hm
    obtain ⟨z, hz, _, lz⟩ := h.2 p (by rw [← h.1]; exact hp)
    rw [List.getElem?_eq_getElem hp, e] at hz
    cases hz
    exact lz
  · intro l
    obtain ⟨z, hz, wz, lz⟩ := h.2 k hk
    have e := least_uniq lz l wz
    rw [e] at hz
    exact List.mem_of_getElem? hz
theorem lab_at {m : Nat} {ps : Join} {L : List Nat} {k p z : Nat} (h : IsLab m ps L) (hp : p < m) (hz : L[p]? = some z) (l : Least ps k) : z = k ↔ Way ps k p := by
  obtain ⟨z', hz', wz, lz⟩ := h.2 p hp
  rw [hz] at hz'
  cases hz'
  exact ⟨fun e => e ▸ wz, fun w => least_uniq lz l (wz.trans w.symm)⟩
theorem lab_lt {m : Nat} {ps : Join} {L : List Nat} (h : IsLab m ps L) (s : ∀ q ∈ ps, q.1 < m ∧ q.2 < m) : ∀ z ∈ L, z < m := fun z hz => by
  obtain ⟨p, hp, e⟩ := List.mem_iff_getElem.mp hz
  have pm : p < m := by rw [← h.1]; exact hp
  obtain ⟨z', hz', wz, _⟩ := h.2 p pm
  rw [List.getElem?_eq_getElem hp, e] at hz'
  cases hz'
  exact wz.symm.lt s pm
theorem cls_succ (ps : Join) (i j : Nat) (w : Way ps i j) : cls (j + 1) ps i = cls j ps i ++ [j] := by
  unfold cls
  rw [List.range_succ, List.filter_append, List.filter_cons, if_pos ((@decide_eq_true_iff _ (Classical.propDecidable _)).mpr w)]
  rfl
theorem cls_skip (ps : Join) (i j : Nat) (w : ¬ Way ps i j) : cls (j + 1) ps i = cls j ps i := by
  unfold cls
  rw [List.range_succ, List.filter_append, List.filter_cons, if_neg (fun z => w ((@decide_eq_true_iff _ (Classical.propDecidable _)).mp z))]
  exact List.append_nil _
theorem rg_nat (m : Nat) : rgV 0 (m : Int) = (List.range m).map natV := by
  unfold rgV
  rw [Int.sub_zero, Int.toNat_natCast]
  refine List.map_congr_left fun i _ => ?_
  rw [Int.zero_add]
  rfl
/-- the outer comprehension's names, where the parts are told -/
abbrev scMark : Scope := ⟨.function, [(".0", .local), ("_law_mark", .cell), ("range", .globalImplicit), ("_law_label", .cell), ("_law_many_here", .cell)], false, false, []⟩
def spLawParts : Sp := fun vs H Q _ => ∃ (m : Nat) (l : Addr) (ps : Join), vs = [.int (m : Int), .ref l] ∧ TL H l (ps.map pairV) ∧ (∀ q ∈ ps, q.1 < m ∧ q.2 < m) ∧ m ≤ 16 ∧ ps.length ≤ 60 ∧
  ∀ (r : Addr) (zs : List V) (H' : Hp), H r = none → Same H H' → H' r = some (.lst zs) → NewL H H' r zs (natL (partsOf m ps)) → Q (.ref r) H'
abbrev s_law_parts : Stmt := top 36
abbrev N_law_parts : List Str := ["_law_many_here", "_law_pairs", "_law_label", "_law_one", "_law_other", "_law_mine", "_law_gone_here", "_law_mark", "_law_p"]
theorem sc_law_parts : FnScope N_law_parts ["_law_many_here", "_law_pairs"] (defScope s_law_parts) := ⟨rfl, rfl, rfl, by decide +kernel, rfl, by decide +kernel, by decide +kernel⟩
section
variable {P : Program} {w : World} {K : PySem.W.Frag} {mg : Str → Option Value} {base : Heap} {f : Addr} {fd : FuncData}
theorem ok_law_parts (T : TxtM mg) (D : FnP K "_law_parts" "_law_parts" s_law_parts f fd) : FnOk P w K mg base (L2.CX P w) 1 f fd ["_law_many_here", "_law_pairs"] spLawParts := by
  have nd := sc_law_parts.nd
  refine D.ok sc_law_parts (fun vs H Q E h => ?_) (fun cdv A outer s H vs Q E hr h => ?_)
  · obtain ⟨m, l, ps, rfl, _⟩ := h
    rfl
  · obtain ⟨m, l, ps, rfl, tl, inm, m16, few, k⟩ := h
    refine ⟨_, (pss_cons (ps_set (i := 2) nd rfl (Or.inr rfl) (pe_listRg rfl rfl T.f_list (prg_1 rfl T.f_range (pv 0)))) (pss_cons (ps_for (passes_of rfl) rfl (pi_list (pv 1)) (pg_tup rfl (pgs_cons (pg_name (i := 3) nd rfl (Or.inl rfl)) (pgs_cons (pg_name (i := 4) nd rfl (Or.inl rfl)) pgs_nil))) (pss_cons (ps_asg (pe_tup (pa_cons (pe_callB (call_min2 rfl) rfl T.f_min (by decide +kernel) (pa_cons (pe_ix ix_list (pv 2) (pv 3) (fun _ _ => rfl)) (pa_cons (pe_ix ix_list (pv 2) (pv 4) (fun _ _ => rfl)) pa_nil))) (pa_cons (pe_callB (call_max2 rfl) rfl T.f_max (by decide +kernel) (pa_cons (pe_ix ix_list (pv 2) (pv 3) (fun _ _ => rfl)) (pa_cons (pe_ix ix_list (pv 2) (pv 4) (fun _ _ => rfl)) pa_nil))) pa_nil))) (pg_tup rfl (pgs_cons (pg_name (i := 5) nd rfl (Or.inr rfl)) (pgs_cons (pg_name (i := 6) nd rfl (Or.inr rfl)) pgs_nil))))
      (pss_one (ps_set (i := 2) nd rfl (Or.inr rfl) (pe_lc (own := [("_law_mark", 7)]) (g := (gName 7)) rfl nd (pi_list (pv 2)) (blkOk_by (own := [("_law_mark", 7)]) (N := N_law_parts) (sc := defScope s_law_parts) (by decide +kernel)) (fun _ _ _ _ _ => (pg_name (i := 7) nd rfl (Or.inl rfl))) (fun _ _ _ _ _ => pts_nil) (fun _ _ _ _ _ => (pe_ifExp (pt_cmpR op_eq (pv 7) (pv 6) (nomark _)) (pv 5) (pv 7)))))))) (pss_one (ps_ret (pe_lc (own := [("_law_mark", 7)]) (g := (gName 7)) (tt := tTest (tOp (rIn K false) (tVar 7) (tVar 2))) (te := tLc (iRng1 (tCons (tVar 0) tNil)) (gName 8) (tTest (tOp rEq (tOp (rIxL K) (tVar 2) (tVar 8)) (tVar 7))) (tVar 8) [8]) rfl nd (pi_range1 rfl T.f_range (pa_cons (pv 0) pa_nil)) (blkOk_by (own := [("_law_mark", 7)]) (N := N_law_parts) (sc := defScope s_law_parts) (by decide +kernel))
      (fun _ _ _ _ _ => (pg_name (i := 7) nd rfl (Or.inr rfl))) (fun _ _ _ _ _ => (pts_one (pt_cmpR op_in_seq (pv 7) (pv 2) (by with_unfolding_all rfl))))
      (fun _ _ _ _ _ => (pe_lc (own := [("_law_p", 8)]) (g := (gName 8)) rfl nd (pi_range1 rfl T.f_range (pa_cons (pv 0) pa_nil)) (blkOk_by (own := [("_law_p", 8)]) (N := N_law_parts) (sc := scMark) (by decide +kernel)) (fun _ _ _ _ _ => (pg_name (i := 8) nd rfl (Or.inl rfl))) (fun _ _ _ _ _ => (pts_one (pt_cmpR op_eq (pe_ix ix_list (pv 2) (pv 8) (fun _ _ => rfl)) (pv 7) (nomark _)))) (fun _ _ _ _ _ => (pv 8))))))))), ?_⟩
    obtain ⟨vs, el, tv⟩ := tl
    have lvs : vs.length = ps.length := by rw [tups_len tv, List.length_map]
    refine ⟨_, rfl, (m : Int), rfl, RgOk.of_le (by omega) (by omega) (by omega) (by omega), fun L0 hL0 => ?_⟩
    rw [rg_nat]
    have sm0 := same_new (o := .lst ((List.range m).map natV)) hL0
    refine ⟨_, rfl, l, rfl, ⟨vs, SqL.of (sm0 _ _ el)⟩, for_it walk_list (fun i σ H' => ∃ (Lp : Addr) (L : List Nat) (u3 u4 u5 u6 : Option V), σ = [some (.int (m : Int)), some (.ref l), some (.ref Lp), u3, u4, u5, u6, none, none] ∧ H' Lp = some (.lst (L.map natV)) ∧ IsLab m (ps.take i) L ∧ Same H H') ⟨L0, List.range m, none, none, none, none, rfl, upd_same, lab_nil m, sm0⟩ (fun _ _ _ _ ⟨_, _, _, _, _, _, _, _, _, z⟩ => SqL.of (z _ _ el)) ?_ ?_⟩
    · rintro i x σ H1 H2 hi ⟨Lp, L, u3, u4, u5, u6, rfl, eL, lab, sm⟩ ⟨rfl, hx⟩
      obtain ⟨t, xs, rfl, hxs, ht⟩ := tups_get tv hx
      obtain ⟨q, hq⟩ : ∃ q, ps[i]? = some q := ⟨_, List.getElem?_eq_getElem (by omega)⟩
      rw [List.getElem?_map, hq] at hxs
      cases hxs
      have bnd := inm q (List.mem_of_getElem? hq)
      obtain ⟨x, hxa, _⟩ := lab.2 q.1 bnd.1
      obtain ⟨y, hyb, _⟩ := lab.2 q.2 bnd.2
      have xa : (L.map natV)[q.1]? = some (natV x) := by rw [List.getElem?_map, hxa]; rfl
      have yb : (L.map natV)[q.2]? = some (natV y) := by rw [List.getElem?_map, hyb]; rfl
      refine ⟨t, _, rfl, SqT.of (sm _ _ ht), rfl, _, _, rfl, _, _, rfl, rfl, ?_⟩
      refine ⟨_, rfl, _, rfl, Lp, _, _, _, rfl, rfl, SqL.of eL, atI_nat xa, _, rfl, _, rfl, Lp, _, _, _, rfl, rfl, SqL.of eL, atI_nat yb, (x : Int), (y : Int), rfl, ?_⟩
      refine ⟨_, rfl, _, rfl, Lp, _, _, _, rfl, rfl, SqL.of eL, atI_nat xa, _, rfl, _, rfl, Lp, _, _, _, rfl, rfl, SqL.of eL, atI_nat yb, (x : Int), (y : Int), rfl, ?_⟩
      rw [min_nat, max_nat]
      refine ⟨(by show 2 ≤ sizeLine; decide), fun T2 hT2 => ?_⟩
      have c2 := same_new (o := .tup [V.int ((min x y : Nat) : Int), V.int ((max x y : Nat) : Int)]) hT2
      refine ⟨T2, _, rfl, SqT.of upd_same, rfl, _, _, rfl, _, _, rfl, rfl, ?_⟩
      have eL2 := c2 _ _ eL
      generalize upd H2 T2 (.tup [V.int ((min x y : Nat) : Int), V.int ((max x y : Nat) : Int)]) = H3 at *
      refine ⟨_, rfl, Lp, rfl, ⟨_, SqL.of eL2⟩, fun D0 hD0 => ?_⟩
      have c3 := same_new (o := .lst []) hD0
      refine lc_it (walk_list (K := K) (xs := L.map natV)) (fun j H' => H' D0 = some (.lst (((L.take j).map fun z => if z = max x y then min x y else z).map natV)) ∧ Same H3 H') ⟨upd_same, c3⟩ (fun _ _ _ z => SqL.of (z.2 _ _ eL2)) ?_ ?_
      · rintro j v H4 H5 hj ⟨e4, sm4⟩ ⟨rfl, hv⟩
        rw [List.length_map] at hj
        obtain ⟨z, hz⟩ : ∃ z, L[j]? = some z := ⟨_, List.getElem?_eq_getElem hj⟩
        rw [List.getElem?_map, hz] at hv
        cases hv
        have small : (((L.take j).map fun z => if z = max x y then min x y else z).map natV).length < sizeLine := by
          rw [List.length_map, List.length_map, List.length_take, sizeLine_eq]
          have := lab.1
          omega
        have dz : decide (natV z = V.int ((max x y : Nat) : Int)) = decide (z = max x y) := decide_eq_decide.mpr ⟨fun e => Int.ofNat.inj (V.int.inj e), fun e => by rw [e]; rfl⟩
        refine ⟨rfl, _, rfl, _, rfl, rfl, ?_⟩
        rw [dz]
        rw [take_snoc hz, List.map_append, List.map_append]
        by_cases e : z = max x y
        · rw [decide_eq_true e]
          refine ⟨_, rfl, _, rfl, _, e4, small, ?_, same_over hD0 sm4⟩
          rw [upd_same]
          show _ = some (HO.lst (_ ++ [natV (if z = max x y then min x y else z)]))
          rw [if_pos e]
          rfl
        · rw [decide_eq_false e]
          refine ⟨_, rfl, _, rfl, _, e4, small, ?_, same_over hD0 sm4⟩
          rw [upd_same]
          show _ = some (HO.lst (_ ++ [natV (if z = max x y then min x y else z)]))
          rw [if_neg e]
      · rintro H4 ⟨e4, sm4⟩
        rw [List.length_map, List.take_length] at e4
        refine ⟨D0, _, _, _, _, _, rfl, e4, ?_, (sm.trans c2).trans sm4⟩
        rw [take_snoc hq]
        exact lab_snoc lab bnd.1 bnd.2 hxa hyb
    · rintro σ H1 ⟨Lp, L, u3, u4, u5, u6, rfl, eL, lab, sm⟩
      rw [List.take_of_length_le (by omega)] at lab
      refine ⟨_, rfl, (m : Int), rfl, by omega, by omega, fun R hR => ?_⟩
      have cR := same_new (o := .lst []) hR
      refine lc_it walk_range (fun i H' => ∃ zs, H' R = some (.lst zs) ∧ NewL H1 H' R zs (natL ((heads i ps).map (cls m ps))) ∧ Same H1 H') ⟨[], upd_same, .nil, cR⟩ (fun _ _ _ _ => trivial) ?_ ?_
      · rintro i x H2 H3 hi ⟨zs, ez, nz, sm2⟩ ⟨rfl, ex⟩
        dsimp only at ex
        rw [Int.zero_add] at ex
        subst ex
        have im : i < m := by omega
        have lz : zs.length ≤ i := by
          rw [Paired.length nz]
          unfold natL
          rw [List.length_map, List.length_map]
          exact heads_len
        refine ⟨rfl, _, rfl, _, rfl, Lp, _, rfl, .inl (SqL.of (sm2 _ _ eL)), rfl, flat_nat _, ?_⟩
        rw [inV_nat]
        refine ⟨_, rfl, ?_⟩
        by_cases hL : Least ps i
        · rw [decide_eq_true ((lab_mem lab im).mpr hL)]
          refine ⟨_, rfl, (m : Int), rfl, by omega, by omega, fun R2 hR2 => ?_⟩
          have c2 := same_new (o := .lst []) hR2
          have nR : R2 ≠ R := fun z => by
            rw [z, ez] at hR2
            cases hR2
          refine lc_it walk_range (fun j H' => H' R2 = some (.lst ((cls j ps i).map natV)) ∧ Same H3 H') ⟨upd_same, c2⟩ (fun _ _ _ _ => trivial) ?_ ?_
          · rintro j x H4 H5 hj ⟨e4, sm4⟩ ⟨rfl, ex⟩
            dsimp only at ex
            rw [Int.zero_add] at ex
            subst ex
            have jm : j < m := by omega
            obtain ⟨z, hz, _⟩ := lab.2 j jm
            have za : (L.map natV)[j]? = some (natV z) := by rw [List.getElem?_map, hz]; rfl
            have dz : decide (natV z = V.int (i : Int)) = decide (z = i) := decide_eq_decide.mpr ⟨fun e => Int.ofNat.inj (V.int.inj e), fun e => by rw [e]; rfl⟩
            refine ⟨rfl, _, rfl, _, rfl, Lp, _, _, _, rfl, rfl, SqL.of (sm4 _ _ (sm2 _ _ eL)), atI_nat za, _, rfl, rfl, ?_⟩
            rw [dz]
            have key := lab_at lab jm hz hL
            by_cases e : z = i
            · rw [decide_eq_true e]
              refine ⟨_, rfl, _, rfl, _, e4, by rw [List.length_map, sizeLine_eq]; have := cls_len (m := j) (ps := ps) (p := i); omega, ?_, same_over hR2 sm4⟩
              rw [upd_same, cls_succ _ _ _ (key.mp e), List.map_append]
              rfl
            · rw [decide_eq_false e]
              refine ⟨_, rfl, ?_, sm4⟩
              rw [cls_skip _ _ _ (fun w => e (key.mpr w))]
              exact e4
          · rintro H4 ⟨e4, sm4⟩
            have e4' : H4 R2 = some (.lst ((cls m ps i).map natV)) := e4
            refine ⟨zs, sm4 _ _ ez, by rw [sizeLine_eq]; omega, zs ++ [V.ref R2], upd_same, ?_, same_over hR (sm2.trans sm4)⟩
            rw [heads_succ _ _ hL, List.map_append]
            unfold natL
            rw [List.map_append]
            exact newL_snoc nR (sm2.free hR2) (by rw [upd_ne nR]; exact e4') (newL_ext (fun t ys n _ e => by rw [upd_ne n]; exact sm4 _ _ e) nz)
        · rw [decide_eq_false (fun z => hL ((lab_mem lab im).mp z))]
          refine ⟨zs, ez, ?_, sm2⟩
          rw [heads_skip _ _ hL]
          exact nz
      · rintro H2 ⟨zs, ez, nz, sm2⟩
        exact k R zs H2 (sm.free hR) (sm.trans sm2) ez (newL_free sm nz)
end
end K05

set_option Elab.async false
set_option linter.all false
set_option maxRecDepth 100000
set_option maxHeartbeats 4000000
namespace K05
open PySem PySem.Spec PyProof.Rows L2 Own
/-! ### which pairs part, the law's own count -/
theorem erase_map {α β : Type} (f : α → β) : ∀ (xs : List α) (k : Nat), (xs.map f).eraseIdx k = (xs.eraseIdx k).map f
  | [], _ => rfl
  | _ :: _, 0 => rfl
  | x :: xs, k + 1 => congrArg (f x :: ·) (erase_map f xs k)
theorem tups_erase {H : Hp} : ∀ {vs : List V} {xss : List (List V)} (k : Nat), Tups H vs xss → Tups H (vs.eraseIdx k) (xss.eraseIdx k)
  | _, _, _, .nil => .nil
  | _, _, 0, .cons _ r => r
  | _, _, k + 1, .cons q r => .cons q (tups_erase k r)
noncomputable def goneOf (m : Nat) (ps : Join) (n : Nat) : List Nat := (List.range n).filter fun k => decide ((partsOf m ps).length < (partsOf m (ps.eraseIdx k)).length)
def spGone : Sp := fun vs H Q _ => ∃ (m : Nat) (l : Addr) (ps : Join), vs = [.int (m : Int), .ref l] ∧ TL H l (ps.map pairV) ∧ (∀ q ∈ ps, q.1 < m ∧ q.2 < m) ∧ m ≤ 16 ∧ ps.length ≤ 60 ∧
  ∀ (r : Addr) (H' : Hp), H r = none → Same H H' → H' r = some (.lst ((goneOf m ps ps.length).map natV)) → Q (.ref r) H'
abbrev s_law_gone : Stmt := top 37
abbrev N_law_gone : List Str := ["_law_many_here", "_law_pairs", "_law_whole", "_law_k"]
theorem sc_law_gone : FnScope N_law_gone ["_law_many_here", "_law_pairs"] (defScope s_law_gone) := ⟨rfl, rfl, rfl, by decide +kernel, rfl, by decide +kernel, by decide +kernel⟩
section
variable {P : Program} {w : World} {K : PySem.W.Frag} {mg : Str → Option Value} {base : Heap} {f : Addr} {fd : FuncData}
theorem ok_gone (T : TxtM mg) (D : FnP K "_law_gone" "_law_gone" s_law_gone f fd) (c_law_parts : CalX P w K mg base 1 "_law_parts" spLawParts) : FnOk P w K mg base (L2.CX P w) 2 f fd ["_law_many_here", "_law_pairs"] spGone := by
  have nd := sc_law_gone.nd
  refine D.ok sc_law_gone (fun vs H Q E h => ?_) (fun cdv A outer s H vs Q E hr h => ?_)
  · obtain ⟨m, l, ps, rfl, _⟩ := h
    rfl
  · obtain ⟨m, l, ps, rfl, tl, inm, m16, few, k⟩ := h
    obtain ⟨f_law_parts, fd_law_parts, ps_law_parts, F_law_parts, m_law_parts, k_law_parts, b_law_parts⟩ := c_law_parts.ex
    refine ⟨_, (pss_cons (ps_set (i := 2) nd rfl (Or.inr rfl) (pe_callB call_len_seq rfl T.f_len PySem.boot_len (pa_cons (pe_call F_law_parts (hr.mono (by decide)) rfl m_law_parts k_law_parts b_law_parts .nil passF (pa_cons (pv 0) (pa_cons (pv 1) pa_nil))) pa_nil)))
      (pss_one (ps_ret (pe_lc (own := [("_law_k", 3)]) (g := (gName 3)) (tt := tTest (tOp (rI0 fun i j => .bl (decide (j < i))) (tCB (fun xs H Q => ∃ (p : Addr) (ys : List V), xs = [.ref p] ∧ (SqL K H p ys ∨ SqT K H p ys) ∧ Q (.int ys.length) H) (tCons (tCall spLawParts [] EF (tCons (tVar 0) (tCons (tOp rCat (tSl (rSlL K) (tVar 1) tNoPart (tPart (tVar 3))) (tSl (rSlL K) (tVar 1) (tPart (tOp (rI0 fun i j => .int (i + j)) (tVar 3) (tC (.int 1)))) tNoPart)) tNil))) tNil)) (tVar 2))) rfl nd (pi_range1 rfl T.f_range (pa_cons (pe_callB call_len_seq rfl T.f_len PySem.boot_len (pa_cons (pv 1) pa_nil)) pa_nil)) (blkOk_by (own := [("_law_k", 3)]) (N := N_law_gone) (sc := defScope s_law_gone) (by decide +kernel)) (fun _ _ _ _ _ => (pg_name (i := 3) nd rfl (Or.inl rfl))) (fun _ _ _ _ _ => (pts_one (pt_cmpR op_gt (pe_callB call_len_seq rfl T.f_len PySem.boot_len (pa_cons (pe_call F_law_parts (hr.mono (by decide)) rfl m_law_parts k_law_parts b_law_parts .nil passF (pa_cons (pv 0) (pa_cons (pe_op op_cat (pe_slice sl_list (pv 1) po_none (po_some (pv 3))) (pe_slice sl_list (pv 1) (po_some (pe_op op_add (pv 3) pe_int)) po_none)) pa_nil))) pa_nil)) (pv 2) (nomark _)))) (fun _ _ _ _ _ => (pv 3)))))), ?_⟩
    obtain ⟨vs, el, tv⟩ := tl
    have lvs : vs.length = ps.length := by rw [tups_len tv, List.length_map]
    refine ⟨_, rfl, _, rfl, m, l, ps, rfl, ⟨vs, el, tv⟩, inm, m16, few, fun r zs H1 hr1 sm1 er nz => ?_⟩
    have lz : zs.length = (partsOf m ps).length := by
      rw [Paired.length nz]
      unfold natL
      rw [List.length_map]
    refine ⟨r, zs, rfl, .inl (SqL.of er), ?_⟩
    rw [lz]
    refine ⟨_, rfl, l, vs, rfl, .inl (SqL.of (sm1 _ _ el)), (vs.length : Int), rfl, by omega, by omega, fun R hR => ?_⟩
    have cR := same_new (o := .lst []) hR
    refine lc_it walk_range (fun i H' => H' R = some (.lst ((goneOf m ps i).map natV)) ∧ Same H1 H') ⟨upd_same, cR⟩ (fun _ _ _ _ => trivial) ?_ ?_
    · rintro i x H2 H3 hi ⟨e2, sm2⟩ ⟨rfl, ex⟩
      dsimp only at ex
      rw [Int.zero_add] at ex
      subst ex
      have im : i < vs.length := by omega
      have el2 := sm2 _ _ (sm1 _ _ el)
      refine ⟨rfl, _, rfl, _, rfl, _, rfl, _, rfl, l, vs, rfl, SqL.of el2, fun S1 hS1 => ?_⟩
      rw [cut_take]
      have c1 := same_new (o := .lst (vs.take i)) hS1
      have f1 := upd_same (H := H3) (a := S1) (o := .lst (vs.take i))
      generalize upd H3 S1 (.lst (vs.take i)) = H4 at *
      refine ⟨_, rfl, _, rfl, _, _, rfl, rfl, _, rfl, l, vs, rfl, SqL.of (c1 _ _ el2), fun S2 hS2 => ?_⟩
      have ei : ((i : Int) + 1) = ((i + 1 : Nat) : Int) := by omega
      rw [ei, cut_drop]
      have c2 := same_new (o := .lst (vs.drop (i + 1))) hS2
      have f2 := upd_same (H := H4) (a := S2) (o := .lst (vs.drop (i + 1)))
      generalize upd H4 S2 (.lst (vs.drop (i + 1))) = H5 at *
      refine ⟨S1, S2, _, _, rfl, rfl, c2 _ _ f1, f2, by rw [List.length_take, List.length_drop, sizeLine_eq]; omega, fun S3 hS3 => ?_⟩
      have c3 := same_new (o := .lst (vs.take i ++ vs.drop (i + 1))) hS3
      have f3 := upd_same (H := H5) (a := S3) (o := .lst (vs.take i ++ vs.drop (i + 1)))
      generalize upd H5 S3 (.lst (vs.take i ++ vs.drop (i + 1))) = H6 at *
      rw [← List.eraseIdx_eq_take_drop_succ] at f3
      have smx := ((sm2.trans c1).trans c2).trans c3
      have few2 := List.length_eraseIdx_le ps i
      refine ⟨m, S3, ps.eraseIdx i, rfl, ⟨_, f3, ?_⟩, fun q hq => inm q (List.mem_of_mem_eraseIdx hq), m16, by omega, fun r2 zs2 H7 hr7 sm7 er7 nz7 => ?_⟩
      · rw [← erase_map]
        exact tups_erase i (tups_ext (fun t xs e => smx _ _ (sm1 _ _ e)) tv)
      · have lz7 : zs2.length = (partsOf m (ps.eraseIdx i)).length := by
          rw [Paired.length nz7]
          unfold natL
          rw [List.length_map]
        refine ⟨r2, zs2, rfl, .inl (SqL.of er7), ?_⟩
        rw [lz7]
        refine ⟨_, rfl, _, _, rfl, rfl, _, rfl, ?_⟩
        have dd : decide (((partsOf m ps).length : Int) < ((partsOf m (ps.eraseIdx i)).length : Int)) = decide ((partsOf m ps).length < (partsOf m (ps.eraseIdx i)).length) := decide_eq_decide.mpr ⟨fun z => by omega, fun z => by omega⟩
        rw [dd]
        have step : goneOf m ps (i + 1) = goneOf m ps i ++ (if decide ((partsOf m ps).length < (partsOf m (ps.eraseIdx i)).length) = true then [i] else []) := by
          unfold goneOf
          rw [List.range_succ, List.filter_append, List.filter_cons]
          rfl
        have lg : ((goneOf m ps i).map natV).length ≤ i := by
          rw [List.length_map]
          unfold goneOf
          have z := List.length_filter_le (fun k => decide ((partsOf m ps).length < (partsOf m (ps.eraseIdx k)).length)) (List.range i)
          rw [List.length_range] at z
          exact z
        have e7 := sm7 _ _ (c3 _ _ (c2 _ _ (c1 _ _ e2)))
        have sm8 : Same H1 H7 := smx.trans sm7
        cases hb : decide ((partsOf m ps).length < (partsOf m (ps.eraseIdx i)).length) with
        | true =>
          refine ⟨_, rfl, _, e7, by rw [sizeLine_eq]; omega, ?_, same_over hR sm8⟩
          rw [upd_same, step, hb, if_pos rfl, List.map_append]
          rfl
        | false =>
          refine ⟨?_, sm8⟩
          rw [step, hb, if_neg Bool.false_ne_true, List.append_nil]
          exact e7
    · rintro H2 ⟨e2, sm2⟩
      rw [Int.toNat_natCast, lvs] at e2
      exact k R H2 (sm1.free hR) (sm1.trans sm2) e2
end
end K05

set_option Elab.async false
set_option linter.all false
set_option maxRecDepth 100000
set_option maxHeartbeats 4000000
namespace K05
open PySem PySem.Spec PyProof.Rows L2 Own
/-! ### led by steps -/
def natD0 (ys : List Nat) : PyData := .list (ys.map fun (q : Nat) => PyData.int (q : Int))
theorem dp_nats0 {K : PySem.W.Frag} {H : Hp} : ∀ ys : List Nat, DpAll K H (ys.map natV) (ys.map fun (q : Nat) => PyData.int (q : Int))
  | [] => .nil
  | _ :: ys => .cons (.int _) (dp_nats0 ys)
theorem dp_nat0 {K : PySem.W.Frag} {H : Hp} {r : Addr} {ys : List Nat} (h : H r = some (.lst (ys.map natV))) : Dp K H (.ref r) (natD0 ys) := .lst (SqL.of h) (dp_nats0 ys)
theorem lay_nat0 (ys : List Nat) : Lay 1 (natD0 ys) := lay_list fun d hd => by
  obtain ⟨q, _, rfl⟩ := List.mem_map.mp hd
  exact lay_int _
theorem eqv_nat0 (ys : List Nat) : PyData.eqv (natD0 ys) (.list []) = ys.isEmpty := by
  cases ys <;> rfl
def spLed : Sp := fun vs H Q _ => ∃ (l : Addr) (p m : Nat) (rows : List TRow), vs = [.ref l, .int (p : Int)] ∧ TL H l (rows.map rowV) ∧ (∀ q ∈ ends rows, q.1 < m ∧ q.2 < m) ∧ p < m ∧ m ≤ 16 ∧
  ∀ (r : Addr) (H' : Hp), H r = none → Same H H' → H' r = some (.lst ((ledOf m (ends rows) p).map natV)) → Q (.ref r) H'
abbrev s_law_led : Stmt := top 38
abbrev N_law_led : List Str := ["_law_ways", "_law_place", "_law_found", "_law_waiting", "_law_here", "_law_street", "_law_one", "_law_other"]
theorem sc_law_led : FnScope N_law_led ["_law_ways", "_law_place"] (defScope s_law_led) := ⟨rfl, rfl, rfl, by decide +kernel, rfl, by decide +kernel, by decide +kernel⟩
/-- the places found, those that wait, in the midst -/
structure Mid (m p : Nat) (ws : Join) (F W : List Nat) : Prop where
  nd : F.Nodup
  inS : ∀ q ∈ F, q < m ∧ Led ws p q
  at_ : p ∈ F
  sub : ∀ q ∈ W, q ∈ F
section
variable {P : Program} {w : World} {K : PySem.W.Frag} {mg : Str → Option Value} {base : Heap} {f : Addr} {fd : FuncData}
theorem ok_led (T : TxtG mg) (D : FnP K "_law_led" "_law_led" s_law_led f fd) : FnOk P w K mg base (L2.CX P w) 1 f fd ["_law_ways", "_law_place"] spLed := by
  have nd := sc_law_led.nd
  refine D.ok sc_law_led (fun vs H Q E h => ?_) (fun cdv A outer s H vs Q E hr h => ?_)
  · obtain ⟨l, p, m, rows, rfl, _⟩ := h
    rfl
  · obtain ⟨l, p, m, rows, rfl, ⟨vs, el, tv⟩, inm, hp, m16, k⟩ := h
    refine ⟨_, (pss_cons (ps_set (i := 2) nd rfl (Or.inl rfl) (pe_lst (pa_cons (pv 1) pa_nil)))
      (pss_cons (ps_set (i := 3) nd rfl (Or.inl rfl) (pe_lst (pa_cons (pv 1) pa_nil)))
      (pss_cons (ps_while (passes_of rfl) (pt_cmpR (op_neD hr.units) (pv 3) (pe_lst pa_nil) (nomark _)) (pss_cons (ps_set (i := 4) nd rfl (Or.inl rfl) (pe_bm0 PySem.F.plainAttrs_list PySem.F.slot_list_pop PySem.F.type_list_pop mt_pop (pv 3)))
      (pss_one (ps_for (passes_of rfl) rfl (pi_list (pv 0)) (pg_tup rfl (pgs_cons (pg_name (i := 5) nd rfl (Or.inl rfl)) (pgs_cons (pg_name (i := 6) nd rfl (Or.inl rfl)) (pgs_cons (pg_name (i := 7) nd rfl (Or.inl rfl)) pgs_nil)))) (pss_one (ps_if (PW.pt (pw_and (pt_cmpR op_eq (pv 6) (pv 4) (nomark _)) (pw_and1 (pt_cmpR op_notIn_seq (pv 7) (pv 2) (by with_unfolding_all rfl))))) (pss_cons (ps_expr (pe_bm PySem.F.plainAttrs_list PySem.F.slot_list_append PySem.F.type_list_append mt_append (pv 2) (pa_cons (pv 7) pa_nil)))
      (pss_one (ps_expr (pe_bm PySem.F.plainAttrs_list PySem.F.slot_list_append PySem.F.type_list_append mt_append (pv 3) (pa_cons (pv 7) pa_nil))))) pss_nil))))))
      (pss_one (ps_ret (pe_callB cr_sorted rfl T.f_sorted (by decide +kernel) (pa_cons (pv 2) pa_nil))))))), ?_⟩
    have lvs : vs.length = rows.length := by rw [tups_len tv, List.length_map]
    refine ⟨_, rfl, (by show 1 ≤ sizeLine; decide), fun fa hfa => ?_⟩
    have c1 := same_new (o := .lst [V.int (p : Int)]) hfa
    refine ⟨_, rfl, (by show 1 ≤ sizeLine; decide), fun wa hwa => ?_⟩
    have c2 := same_new (o := .lst [V.int (p : Int)]) hwa
    have nfw : fa ≠ wa := fun z => by
      rw [← z, upd_same] at hwa
      cases hwa
    have ef0 := c2 _ _ (upd_same (H := H) (a := fa) (o := .lst [V.int (p : Int)]))
    have ew0 := upd_same (H := upd H fa (.lst [V.int (p : Int)])) (a := wa) (o := .lst [V.int (p : Int)])
    have sm0 := c1.trans c2
    have hwa0 : H wa = none := c1.free hwa
    generalize upd (upd H fa (.lst [V.int (p : Int)])) wa (.lst [V.int (p : Int)]) = H0 at *
    refine ⟨fun mu σ H' => ∃ (F W : List Nat) (u4 u5 u6 u7 : Option V), σ = [some (.ref l), some (.int (p : Int)), some (.ref fa), some (.ref wa), u4, u5, u6, u7] ∧ H' fa = some (.lst (F.map natV)) ∧ H' wa = some (.lst (W.map natV)) ∧ Mid m p (ends rows) F W ∧ (∀ x ∈ F, x ∉ W → ∀ q ∈ ends rows, q.1 = x → q.2 ∈ F) ∧ Same H H' ∧ W.length ≤ F.length ∧ mu = W.length + 2 * (m - F.length),
      ⟨_, [p], [p], none, none, none, none, rfl, ef0, ew0, ⟨by simp, fun q hq => ?_, List.mem_singleton.mpr rfl, fun q hq => hq⟩, fun x hx hn => (hn hx).elim, sm0, Nat.le_refl _, rfl⟩, ?_⟩
    · rw [List.mem_singleton.mp hq]
      exact ⟨hp, .stay _⟩
    rintro mu σ H1 ⟨F, W, u4, u5, u6, u7, rfl, ef, ew, M, cl, sm, lwf, rfl⟩
    have lF : F.length ≤ m := nodup_le M.nd fun q hq => (M.inS q hq).1
    refine ⟨_, rfl, (by show 0 ≤ sizeLine; decide), fun e1 he1 => ?_⟩
    have c3 := same_new (o := .lst []) he1
    have ee := upd_same (H := H1) (a := e1) (o := .lst [])
    generalize upd H1 e1 (.lst []) = H2 at *
    refine ⟨_, _, dp_nat0 (c3 _ _ ew), .lst (SqL.of ee) .nil, (lay_nat0 W).shaped (by decide), by decide, ?_⟩
    rw [eqv_nat0]
    refine ⟨_, rfl, ?_⟩
    have smN := sm.trans c3
    rcases List.eq_nil_or_concat W with hW | ⟨W0, here, hW⟩
    · subst hW
      -- all is found
      refine ⟨_, rfl, fa, F.map (fun (q : Nat) => (q : Int)), rfl, SqL.of (by rw [List.map_map]; exact c3 _ _ ef), by rw [List.length_map]; omega, fun ys r perm up hr2 => ?_⟩
      refine k r _ (smN.free hr2) (smN.trans (same_new hr2)) ?_
      have e := sorted_cls perm up M.nd (led_up (m := m) (ws := ends rows) (p := p)) fun x => ?_
      · rw [upd_same, e, List.map_map]
        rfl
      · rw [mem_led]
        exact ⟨fun hx => M.inS x hx, fun hx => hx.2.closed (S := fun q => q ∈ F) M.at_ fun q hq h1 => cl _ h1 (by simp) q hq rfl⟩
    · rw [List.concat_eq_append] at hW
      subst hW
      have ie : (W0 ++ [here]).isEmpty = false := by simp
      rw [ie]
      have hereF : here ∈ F := M.sub _ (List.mem_append_right _ (List.mem_singleton.mpr rfl))
      have lW : (W0 ++ [here]).length = W0.length + 1 := by rw [List.length_append]; rfl
      refine ⟨fun σ' H' => ∃ (F' W' : List Nat) (u4 u5 u6 u7 : Option V), σ' = [some (.ref l), some (.int (p : Int)), some (.ref fa), some (.ref wa), u4, u5, u6, u7] ∧ H' fa = some (.lst (F'.map natV)) ∧ H' wa = some (.lst (W'.map natV)) ∧ Mid m p (ends rows) F' W' ∧ (∀ x ∈ F', x ∉ W' → ∀ q ∈ ends rows, q.1 = x → q.2 ∈ F') ∧ Same H H' ∧ W'.length ≤ F'.length ∧ W'.length + 2 * (m - F'.length) ≤ W0.length + 2 * (m - F.length),
        fun σ' H' ⟨F', W', u4, u5, u6, u7, e, e1, e2, e3, e4, e5, e6, e7⟩ => ⟨W'.length + 2 * (m - F'.length), by rw [lW]; omega, F', W', u4, u5, u6, u7, e, e1, e2, e3, e4, e5, e6, rfl⟩, ?_⟩
      have xmap : (W0 ++ [here]).map natV = W0.map natV ++ [natV here] := by rw [List.map_append]; rfl
      have ew2 := c3 _ _ ew
      have ef2 := c3 _ _ ef
      rw [xmap] at ew2
      refine ⟨_, rfl, .inl ⟨rfl, _, SqL.of ew2⟩, wa, _, natV here, rfl, rfl, ew2, by simp, ?_⟩
      rw [List.dropLast_concat]
      have ef3 : upd H2 wa (.lst (W0.map natV)) fa = some (.lst (F.map natV)) := by rw [upd_ne nfw]; exact ef2
      have ew3 := upd_same (H := H2) (a := wa) (o := .lst (W0.map natV))
      have sm3 : Same H (upd H2 wa (.lst (W0.map natV))) := same_over hwa0 smN
      generalize upd H2 wa (.lst (W0.map natV)) = H3 at *
      refine ⟨_, rfl, l, rfl, ⟨vs, SqL.of (sm3 _ _ el)⟩, for_it walk_list (fun i σ' H' => ∃ (F' W' : List Nat) (u5 u6 u7 : Option V), σ' = [some (.ref l), some (.int (p : Int)), some (.ref fa), some (.ref wa), some (natV here), u5, u6, u7] ∧ H' fa = some (.lst (F'.map natV)) ∧ H' wa = some (.lst (W'.map natV)) ∧ Mid m p (ends rows) F' W' ∧ (∀ x ∈ F', x ∉ W' → x ≠ here → ∀ q ∈ ends rows, q.1 = x → q.2 ∈ F') ∧ (∀ q ∈ (ends rows).take i, q.1 = here → q.2 ∈ F') ∧ here ∈ F' ∧ Same H H' ∧ W'.length ≤ F'.length ∧ W'.length + 2 * (m - F'.length) ≤ W0.length + 2 * (m - F.length))
        ⟨F, W0, u5, u6, u7, rfl, ef3, ew3, ⟨M.nd, M.inS, M.at_, fun q hq => M.sub q (List.mem_append_left _ hq)⟩, fun x hx hn ne => cl x hx (fun z => by
          rcases List.mem_append.mp z with z | z
          · exact hn z
          · exact ne (List.mem_singleton.mp z)), fun q hq => by simp at hq, hereF, sm3, by omega, Nat.le_refl _⟩ (fun i σ' H' _ ⟨_, _, _, _, _, _, _, _, _, _, _, _, z, _⟩ => SqL.of (z _ _ el)) ?_ ?_⟩
      · rintro i x σ H4 H5 hi ⟨F', W', u5, u6, u7, rfl, f1, w1, M', c1', c2', hF', sm4, lw, me⟩ ⟨rfl, hx⟩
        obtain ⟨t, xs, rfl, hxs, ht⟩ := tups_get tv hx
        obtain ⟨r, hr0⟩ : ∃ r, rows[i]? = some r := ⟨_, List.getElem?_eq_getElem (by omega)⟩
        rw [List.getElem?_map, hr0] at hxs
        cases hxs
        have rin : (r.2.1, r.2.2) ∈ ends rows := List.mem_map.mpr ⟨r, List.mem_of_getElem? hr0, rfl⟩
        have etake : (ends rows).take (i + 1) = (ends rows).take i ++ [(r.2.1, r.2.2)] := take_snoc (by unfold ends; rw [List.getElem?_map, hr0]; rfl)
        have bnd := inm _ rin
        have lF' : F'.length ≤ m := nodup_le M'.nd fun q hq => (M'.inS q hq).1
        refine ⟨t, _, rfl, SqT.of (sm4 _ _ ht), rfl, _, _, rfl, _, _, rfl, _, _, rfl, rfl, ?_⟩
        have dq : decide (V.int (r.2.1 : Int) = natV here) = decide (r.2.1 = here) := decide_eq_decide.mpr ⟨fun z => Int.ofNat.inj (V.int.inj z), fun z => by rw [z]; rfl⟩
        refine ⟨_, rfl, _, rfl, rfl, ?_⟩
        rw [dq]
        refine ⟨_, rfl, ?_⟩
        by_cases eh : r.2.1 = here
        · rw [decide_eq_true eh]
          refine ⟨_, rfl, _, rfl, fa, _, rfl, .inl (SqL.of f1), rfl, flat_nat _, ?_⟩
          rw [inV_nat, if_pos rfl]
          refine ⟨_, rfl, ?_⟩
          by_cases hb : r.2.2 ∈ F'
          · rw [decide_eq_true hb]
            refine ⟨F', W', _, _, _, rfl, f1, w1, M', c1', fun q hq e => ?_, hF', sm4, lw, me⟩
            rw [etake] at hq
            rcases List.mem_append.mp hq with z | z
            · exact c2' q z e
            · rw [List.mem_singleton.mp z]
              exact hb
          · rw [decide_eq_false hb]
            have w1' : upd H5 fa (.lst (F'.map natV ++ [V.int (r.2.2 : Int)])) wa = some (.lst (W'.map natV)) := by rw [upd_ne nfw.symm]; exact w1
            have small : (F'.map natV).length < sizeLine := by rw [List.length_map, sizeLine_eq]; omega
            have small2 : (W'.map natV).length < sizeLine := by rw [List.length_map, sizeLine_eq]; omega
            refine ⟨_, rfl, .inl ⟨rfl, _, SqL.of f1⟩, _, rfl, fa, _, _, rfl, rfl, f1, small, ?_⟩
            refine ⟨_, rfl, .inl ⟨rfl, _, SqL.of w1'⟩, _, rfl, wa, _, _, rfl, rfl, w1', small2, ?_⟩
            have nd2 : (F' ++ [r.2.2]).Nodup := by
              rw [List.nodup_append]
              exact ⟨M'.nd, by simp, fun x hx y hy e => by
                rw [List.mem_singleton] at hy
                rw [hy] at e
                rw [e] at hx
                exact hb hx⟩
            have ledNew : Led (ends rows) p r.2.2 := .go (eh ▸ (M'.inS here hF').2) rin
            refine ⟨F' ++ [r.2.2], W' ++ [r.2.2], _, _, _, rfl, ?_, ?_, ⟨nd2, fun q hq => ?_, List.mem_append_left _ M'.at_, fun q hq => ?_⟩, fun x hx hn ne q hq e => ?_, fun q hq e => ?_, List.mem_append_left _ hF', same_over hwa0 (same_over (H := H) hfa sm4), ?_, ?_⟩
            · rw [upd_ne nfw, upd_same, List.map_append]
              rfl
            · rw [upd_same, List.map_append]
              rfl
            · rcases List.mem_append.mp hq with z | z
              · exact M'.inS q z
              · rw [List.mem_singleton.mp z]
                exact ⟨bnd.2, ledNew⟩
            · rcases List.mem_append.mp hq with z | z
              · exact List.mem_append_left _ (M'.sub q z)
              · exact List.mem_append_right _ z
            · rcases List.mem_append.mp hx with z | z
              · exact List.mem_append_left _ (c1' x z (fun y => hn (List.mem_append_left _ y)) ne q hq e)
              · exact (hn (List.mem_append_right _ z)).elim
            · rw [etake] at hq
              rcases List.mem_append.mp hq with z | z
              · exact List.mem_append_left _ (c2' q z e)
              · rw [List.mem_singleton.mp z]
                exact List.mem_append_right _ (List.mem_singleton.mpr rfl)
            · rw [List.length_append, List.length_append]
              show W'.length + 1 ≤ F'.length + 1
              omega
            · have lF2 := nodup_le nd2 fun q hq => by
                rcases List.mem_append.mp hq with z | z
                · exact (M'.inS q z).1
                · rw [List.mem_singleton.mp z]
                  exact bnd.2
              rw [List.length_append] at lF2 ⊢
              rw [List.length_append]
              have e1 : [r.2.2].length = 1 := rfl
              rw [e1] at lF2 ⊢
              omega
        · rw [decide_eq_false eh]
          refine ⟨F', W', _, _, _, rfl, f1, w1, M', c1', fun q hq e => ?_, hF', sm4, lw, me⟩
          rw [etake] at hq
          rcases List.mem_append.mp hq with z | z
          · exact c2' q z e
          · rw [List.mem_singleton.mp z] at e
            exact (eh e).elim
      · rintro σ' H4 ⟨F', W', u5, u6, u7, rfl, f1, w1, M', c1', c2', hF', sm4, lw, me⟩
        refine ⟨F', W', _, _, _, _, rfl, f1, w1, M', fun x hx hn q hq e => ?_, sm4, lw, me⟩
        by_cases eh : x = here
        · rw [List.take_of_length_le (by unfold ends; rw [List.length_map]; omega)] at c2'
          exact c2' q hq (e.trans eh)
        · exact c1' x hx hn eh q hq e
end
end K05

set_option Elab.async false
set_option linter.all false
set_option maxRecDepth 100000
set_option maxHeartbeats 4000000
namespace K05
open PySem PySem.Spec PyProof.Rows L2 Own
/-! ### good ways by the law -/
theorem eqv_rows : ∀ xs ys : List TRow, PyData.eqv (.list (xs.map rowD)) (.list (ys.map rowD)) = decide (xs = ys)
  | [], [] => rfl
  | [], _ :: _ => rfl
  | _ :: _, [] => rfl
  | x :: xs, y :: ys => by
    have ih := eqv_rows xs ys
    have e : PyData.eqv (.list ((x :: xs).map rowD)) (.list ((y :: ys).map rowD)) = (PyData.eqv (rowD x) (rowD y) && PyData.eqv (.list (xs.map rowD)) (.list (ys.map rowD))) := by
      simp [PyData.eqv, PyData.eqvAll]
    rw [e, ih, eqv_row]
    simp
def spGood : Sp := fun vs H Q _ => ∃ (m : Nat) (lr lw : Addr) (rows ways : List TRow), vs = [.int (m : Int), .ref lr, .ref lw] ∧ TL H lr (rows.map rowV) ∧ TL H lw (ways.map rowV) ∧ (∀ q ∈ ends ways, q.1 < m ∧ q.2 < m) ∧ 1 ≤ m ∧ m ≤ 16 ∧ rows.length ≤ 60 ∧ ways.length ≤ 60 ∧
  ∀ H', Same H H' → Q (.bl (goodB m rows ways)) H'
abbrev s_law_good : Stmt := top 39
abbrev N_law_good : List Str := ["_law_many_here", "_law_rows", "_law_ways", "_law_mine", "_law_back", "_law_street", "_law_one", "_law_other"]
theorem sc_law_good : FnScope N_law_good ["_law_many_here", "_law_rows", "_law_ways"] (defScope s_law_good) := ⟨rfl, rfl, rfl, by decide +kernel, rfl, by decide +kernel, by decide +kernel⟩
section
variable {P : Program} {w : World} {K : PySem.W.Frag} {mg : Str → Option Value} {base : Heap} {f : Addr} {fd : FuncData}
theorem ok_good (T : TxtM mg) (D : FnP K "_law_good" "_law_good" s_law_good f fd) (c_law_led : CalX P w K mg base 1 "_law_led" spLed) : FnOk P w K mg base (L2.CX P w) 2 f fd ["_law_many_here", "_law_rows", "_law_ways"] spGood := by
  have nd := sc_law_good.nd
  refine D.ok sc_law_good (fun vs H Q E h => ?_) (fun cdv A outer s H vs Q E hr h => ?_)
  · obtain ⟨m, lr, lw, rows, ways, rfl, _⟩ := h
    rfl
  · obtain ⟨m, lr, lw, rows, ways, rfl, ⟨vr, er, tr⟩, ⟨vw, ew, tw⟩, inm, m1, m16, fr, fw, k⟩ := h
    obtain ⟨f_law_led, fd_law_led, ps_law_led, F_law_led, m_law_led, k_law_led, b_law_led⟩ := c_law_led.ex
    refine ⟨_, (pss_cons (ps_setLc (own := [("_law_street", 5), ("_law_one", 6), ("_law_other", 7)]) (g := (gTup K 3 (gCons (gName 5) (gCons (gName 6) (gCons (gName 7) gNil))))) (i := 3) rfl nd rfl rfl (sw_true rfl rfl rfl (by decide +kernel)) (pi_list (pv 2)) (blkOk_by (own := [("_law_street", 5), ("_law_one", 6), ("_law_other", 7)]) (N := N_law_good) (sc := defScope s_law_good) (by decide +kernel)) (fun _ _ _ _ _ => (pg_tup rfl (pgs_cons (pg_name (i := 5) nd rfl (Or.inl rfl)) (pgs_cons (pg_name (i := 6) nd rfl (Or.inl rfl)) (pgs_cons (pg_name (i := 7) nd rfl (Or.inl rfl)) pgs_nil))))) (fun _ _ _ _ _ => pts_nil) (fun _ _ _ _ _ => (pe_tup (pa_cons (pv 5) (pa_cons (pe_callB (call_min2 rfl) rfl T.f_min (by decide +kernel) (pa_cons (pv 6) (pa_cons (pv 7) pa_nil))) (pa_cons (pe_callB (call_max2 rfl) rfl T.f_max (by decide +kernel) (pa_cons (pv 6) (pa_cons (pv 7) pa_nil))) pa_nil))))))
      (pss_cons (ps_if (pt_cmpR (op_neD hr.units) (pv 3) (pe_lc (own := [("_law_street", 5), ("_law_one", 6), ("_law_other", 7)]) (g := (gTup K 3 (gCons (gName 5) (gCons (gName 6) (gCons (gName 7) gNil))))) rfl nd (pi_list (pv 1)) (blkOk_by (own := [("_law_street", 5), ("_law_one", 6), ("_law_other", 7)]) (N := N_law_good) (sc := defScope s_law_good) (by decide +kernel)) (fun _ _ _ _ _ => (pg_tup rfl (pgs_cons (pg_name (i := 5) nd rfl (Or.inl rfl)) (pgs_cons (pg_name (i := 6) nd rfl (Or.inl rfl)) (pgs_cons (pg_name (i := 7) nd rfl (Or.inl rfl)) pgs_nil))))) (fun _ _ _ _ _ => pts_nil) (fun _ _ _ _ _ => (pe_tup (pa_cons (pv 5) (pa_cons (pe_callB (call_min2 rfl) rfl T.f_min (by decide +kernel) (pa_cons (pv 6) (pa_cons (pv 7) pa_nil))) (pa_cons (pe_callB (call_max2 rfl) rfl T.f_max (by decide +kernel) (pa_cons (pv 6) (pa_cons (pv 7) pa_nil))) pa_nil)))))) (nomark _)) (pss_one (ps_ret pe_bl)) pss_nil)
      (pss_cons (ps_setLc (own := [("_law_street", 5), ("_law_one", 6), ("_law_other", 7)]) (g := (gTup K 3 (gCons (gName 5) (gCons (gName 6) (gCons (gName 7) gNil))))) (i := 4) rfl nd rfl rfl (sw_true rfl rfl rfl (by decide +kernel)) (pi_list (pv 2)) (blkOk_by (own := [("_law_street", 5), ("_law_one", 6), ("_law_other", 7)]) (N := N_law_good) (sc := defScope s_law_good) (by decide +kernel)) (fun _ _ _ _ _ => (pg_tup rfl (pgs_cons (pg_name (i := 5) nd rfl (Or.inl rfl)) (pgs_cons (pg_name (i := 6) nd rfl (Or.inl rfl)) (pgs_cons (pg_name (i := 7) nd rfl (Or.inl rfl)) pgs_nil))))) (fun _ _ _ _ _ => pts_nil) (fun _ _ _ _ _ => (pe_tup (pa_cons (pv 5) (pa_cons (pv 7) (pa_cons (pv 6) pa_nil))))))
      (pss_one (ps_ret (pe_and (pe_cmpR op_eq (pe_callB call_len_seq rfl T.f_len PySem.boot_len (pa_cons (pe_call F_law_led (hr.mono (by decide)) rfl m_law_led k_law_led b_law_led .nil passF (pa_cons (pv 2) (pa_cons pe_int pa_nil))) pa_nil)) (pv 0) (nomark _)) (pe_one (pe_cmpR op_eq (pe_callB call_len_seq rfl T.f_len PySem.boot_len (pa_cons (pe_call F_law_led (hr.mono (by decide)) rfl m_law_led k_law_led b_law_led .nil passF (pa_cons (pv 4) (pa_cons pe_int pa_nil))) pa_nil)) (pv 0) (nomark _))))))))), ?_⟩
    refine ⟨_, rfl, lw, rfl, ⟨vw, SqL.of ew⟩, fun D1 hD1 => ?_⟩
    refine lc_it (walk_list (K := K) (xs := vw)) (fun i H' => ∃ zs, H' D1 = some (.lst zs) ∧ Tups H' zs (((ways.take i).map normR).map rowV) ∧ Same H H') ⟨[], upd_same, .nil, same_new hD1⟩ (fun _ _ _ ⟨_, _, _, z⟩ => SqL.of (z _ _ ew)) ?_ ?_
    · rintro i x H8 H9 hi ⟨zs, e1, e2, sm⟩ ⟨rfl, hx⟩
      obtain ⟨t, xs, rfl, hxs, ht⟩ := tups_get tw hx
      have lvs : vw.length = ways.length := by rw [tups_len tw, List.length_map]
      obtain ⟨r, hr0⟩ : ∃ r, ways[i]? = some r := ⟨_, List.getElem?_eq_getElem (by omega)⟩
      rw [List.getElem?_map, hr0] at hxs
      cases hxs
      have ht2 := sm _ _ ht
      have lz : zs.length ≤ i := by
        rw [tups_len e2, List.length_map, List.length_map, List.length_take]
        omega
      refine ⟨t, _, rfl, SqT.of ht2, rfl, _, _, rfl, _, _, rfl, _, _, rfl, rfl, rfl, ?_⟩
      refine ⟨_, rfl, _, rfl, _, rfl, (r.2.1 : Int), (r.2.2 : Int), rfl, _, rfl, _, rfl, (r.2.1 : Int), (r.2.2 : Int), rfl, ?_⟩
      rw [min_nat, max_nat]
      refine ⟨(by show 3 ≤ sizeLine; decide), fun q hq => ?_⟩
      have ct := same_new (o := .tup (rowV (normR r))) hq
      refine ⟨zs, ct _ _ e1, by rw [sizeLine_eq]; omega, zs ++ [V.ref q], upd_same, ?_, same_over hD1 (sm.trans ct)⟩
      rw [take_snoc hr0, List.map_append, List.map_append]
      refine tups_snoc ?_ (tups_over (ct _ _ e1) (tups_ext (fun t xs e => ct _ _ e) e2))
      rw [upd_ne (ne_of (upd_same (H := H9) (a := q) (o := .tup (rowV (normR r)))) (ct _ _ e1) (by intro z; cases z))]
      exact upd_same
    rintro H1 ⟨z1, e1, t1, sm1⟩
    have lvw : vw.length = ways.length := by rw [tups_len tw, List.length_map]
    rw [List.take_of_length_le (by omega)] at t1
    refine ⟨_, rfl, _, rfl, lr, rfl, ⟨vr, SqL.of (sm1 _ _ er)⟩, fun D2 hD2 => ?_⟩
    have er1 := sm1 _ _ er
    have tr1 : Tups H1 vr (rows.map rowV) := tups_ext (fun t xs e => sm1 _ _ e) tr
    refine lc_it (walk_list (K := K) (xs := vr)) (fun i H' => ∃ zs, H' D2 = some (.lst zs) ∧ Tups H' zs (((rows.take i).map normR).map rowV) ∧ Same H1 H') ⟨[], upd_same, .nil, same_new hD2⟩ (fun _ _ _ ⟨_, _, _, z⟩ => SqL.of (z _ _ er1)) ?_ ?_
    · rintro i x H8 H9 hi ⟨zs, e1, e2, sm⟩ ⟨rfl, hx⟩
      obtain ⟨t, xs, rfl, hxs, ht⟩ := tups_get tr1 hx
      have lvs : vr.length = rows.length := by rw [tups_len tr1, List.length_map]
      obtain ⟨r, hr0⟩ : ∃ r, rows[i]? = some r := ⟨_, List.getElem?_eq_getElem (by omega)⟩
      rw [List.getElem?_map, hr0] at hxs
      cases hxs
      have ht2 := sm _ _ ht
      have lz : zs.length ≤ i := by
        rw [tups_len e2, List.length_map, List.length_map, List.length_take]
        omega
      refine ⟨t, _, rfl, SqT.of ht2, rfl, _, _, rfl, _, _, rfl, _, _, rfl, rfl, rfl, ?_⟩
      refine ⟨_, rfl, _, rfl, _, rfl, (r.2.1 : Int), (r.2.2 : Int), rfl, _, rfl, _, rfl, (r.2.1 : Int), (r.2.2 : Int), rfl, ?_⟩
      rw [min_nat, max_nat]
      refine ⟨(by show 3 ≤ sizeLine; decide), fun q hq => ?_⟩
      have ct := same_new (o := .tup (rowV (normR r))) hq
      refine ⟨zs, ct _ _ e1, by rw [sizeLine_eq]; omega, zs ++ [V.ref q], upd_same, ?_, same_over hD2 (sm.trans ct)⟩
      rw [take_snoc hr0, List.map_append, List.map_append]
      refine tups_snoc ?_ (tups_over (ct _ _ e1) (tups_ext (fun t xs e => ct _ _ e) e2))
      rw [upd_ne (ne_of (upd_same (H := H9) (a := q) (o := .tup (rowV (normR r)))) (ct _ _ e1) (by intro z; cases z))]
      exact upd_same
    rintro H2 ⟨z2, e2, t2, sm2⟩
    have lvr : vr.length = rows.length := by rw [tups_len tr, List.length_map]
    rw [List.take_of_length_le (by omega)] at t2
    refine ⟨_, _, dp_town ⟨z1, sm2 _ _ e1, tups_ext (fun t xs e => sm2 _ _ e) t1⟩, dp_town ⟨z2, e2, t2⟩, (lay_rows _).shaped (by decide), (lay_rows _).shaped (by decide), ?_⟩
    rw [eqv_rows]
    have sm12 := sm1.trans sm2
    refine ⟨_, rfl, ?_⟩
    by_cases eq : ways.map normR = rows.map normR
    · rw [decide_eq_true eq]
      have ew2 := sm12 _ _ ew
      have tw2 : Tups H2 vw (ways.map rowV) := tups_ext (fun t xs e => sm12 _ _ e) tw
      refine ⟨_, rfl, lw, rfl, ⟨vw, SqL.of ew2⟩, fun D3 hD3 => ?_⟩
      refine lc_it (walk_list (K := K) (xs := vw)) (fun i H' => ∃ zs, H' D3 = some (.lst zs) ∧ Tups H' zs (((ways.take i).map flipR).map rowV) ∧ Same H2 H') ⟨[], upd_same, .nil, same_new hD3⟩ (fun _ _ _ ⟨_, _, _, z⟩ => SqL.of (z _ _ ew2)) ?_ ?_
      · rintro i x H8 H9 hi ⟨zs, e1, e2, sm⟩ ⟨rfl, hx⟩
        obtain ⟨t, xs, rfl, hxs, ht⟩ := tups_get tw2 hx
        have lvs : vw.length = ways.length := by rw [tups_len tw2, List.length_map]
        obtain ⟨r, hr0⟩ : ∃ r, ways[i]? = some r := ⟨_, List.getElem?_eq_getElem (by omega)⟩
        rw [List.getElem?_map, hr0] at hxs
        cases hxs
        have ht2 := sm _ _ ht
        have lz : zs.length ≤ i := by
          rw [tups_len e2, List.length_map, List.length_map, List.length_take]
          omega
        refine ⟨t, _, rfl, SqT.of ht2, rfl, _, _, rfl, _, _, rfl, _, _, rfl, rfl, rfl, ?_⟩
        refine ⟨_, rfl, _, rfl, _, rfl, (by show 3 ≤ sizeLine; decide), fun q hq => ?_⟩
        have ct := same_new (o := .tup (rowV (flipR r))) hq
        refine ⟨zs, ct _ _ e1, by rw [sizeLine_eq]; omega, zs ++ [V.ref q], upd_same, ?_, same_over hD3 (sm.trans ct)⟩
        rw [take_snoc hr0, List.map_append, List.map_append]
        refine tups_snoc ?_ (tups_over (ct _ _ e1) (tups_ext (fun t xs e => ct _ _ e) e2))
        rw [upd_ne (ne_of (upd_same (H := H9) (a := q) (o := .tup (rowV (flipR r)))) (ct _ _ e1) (by intro z; cases z))]
        exact upd_same
      rintro H3 ⟨z3, e3, t3, sm3⟩
      rw [List.take_of_length_le (by omega)] at t3
      have smA := sm12.trans sm3
      refine ⟨_, rfl, lw, 0, m, ways, rfl, ⟨vw, smA _ _ ew, tups_ext (fun t xs e => smA _ _ e) tw⟩, inm, by omega, m16, fun r1 H4 hr4 sm4 er4 => ?_⟩
      refine ⟨r1, _, rfl, .inl (SqL.of er4), _, rfl, rfl, ?_⟩
      rw [List.length_map]
      have d1 : decide (V.int ((ledOf m (ends ways) 0).length : Int) = V.int (m : Int)) = decide ((ledOf m (ends ways) 0).length = m) := decide_eq_decide.mpr ⟨fun z => Int.ofNat.inj (V.int.inj z), fun z => by rw [z]⟩
      rw [d1]
      refine ⟨_, rfl, ?_⟩
      by_cases l1 : (ledOf m (ends ways) 0).length = m
      · rw [decide_eq_true l1]
        refine ⟨_, rfl, D3, 0, m, ways.map flipR, rfl, ⟨z3, sm4 _ _ e3, tups_ext (fun t xs e => sm4 _ _ e) t3⟩, fun q hq => ?_, by omega, m16, fun r2 H5 hr5 sm5 er5 => ?_⟩
        · unfold ends at hq
          rw [List.map_map] at hq
          obtain ⟨y, hy, rfl⟩ := List.mem_map.mp hq
          have z := inm _ (List.mem_map.mpr ⟨y, hy, rfl⟩)
          exact ⟨z.2, z.1⟩
        · refine ⟨r2, _, rfl, .inl (SqL.of er5), _, rfl, rfl, ?_⟩
          rw [List.length_map]
          have d2 : decide (V.int ((ledOf m (ends (ways.map flipR)) 0).length : Int) = V.int (m : Int)) = decide ((ledOf m (ends (ways.map flipR)) 0).length = m) := decide_eq_decide.mpr ⟨fun z => Int.ofNat.inj (V.int.inj z), fun z => by rw [z]⟩
          rw [d2]
          have kk := k H5 ((smA.trans sm4).trans sm5)
          unfold goodB at kk
          rw [decide_eq_true eq, decide_eq_true l1] at kk
          exact kk
      · rw [decide_eq_false l1]
        have kk := k H4 (smA.trans sm4)
        unfold goodB at kk
        rw [decide_eq_true eq, decide_eq_false l1] at kk
        exact kk
    · rw [decide_eq_false eq]
      have kk := k H2 sm12
      unfold goodB at kk
      rw [decide_eq_false eq] at kk
      exact kk
end
end K05

set_option Elab.async false
set_option linter.all false
set_option maxRecDepth 100000
set_option maxHeartbeats 4000000
namespace K05
open PySem PySem.Spec PyProof.Rows L2 Own
/-! ### a list of steps -/
structure TxtS (K : PySem.W.Frag) (mg : Str → Option Value) : Prop where
  f_isinstance : mg "isinstance" = none
  f_list : mg "list" = none
  f_tuple : mg "tuple" = none
  f_bool : mg "bool" = none
  f_int : mg "int" = none
  f_len : mg "len" = none
  kb : PySem.W.kitOne K (.type "int") (.type "bool") = some false
theorem kit_self {K : PySem.W.Frag} {n : String} : PySem.W.kitOne K (.type n) (.type n) = some true := by
  unfold PySem.W.kitOne
  rw [if_pos (by simp)]
def spSteps : Sp := fun vs H Q _ => ∃ (l : Addr) (rows : List TRow), vs = [.ref l] ∧ TL H l (rows.map rowV) ∧ rows.length ≤ 60 ∧ ∀ H', Same H H' → Q (.bl true) H'
abbrev s_law_steps : Stmt := top 40
abbrev N_law_steps : List Str := ["_law_thing", "_law_step", "_law_one"]
theorem sc_law_steps : FnScope N_law_steps ["_law_thing"] (defScope s_law_steps) := ⟨rfl, rfl, rfl, by decide +kernel, rfl, by decide +kernel, by decide +kernel⟩
section
variable {P : Program} {w : World} {K : PySem.W.Frag} {mg : Str → Option Value} {base : Heap} {f : Addr} {fd : FuncData}
theorem ok_steps (T : TxtS K mg) (D : FnP K "_law_steps" "_law_steps" s_law_steps f fd) : FnOk P w K mg base (L2.CX P w) 1 f fd ["_law_thing"] spSteps := by
  have nd := sc_law_steps.nd
  refine D.ok sc_law_steps (fun vs H Q E h => ?_) (fun cdv A outer s H vs Q E hr h => ?_)
  · obtain ⟨l, rows, rfl, _⟩ := h
    rfl
  · obtain ⟨l, rows, rfl, ⟨vs, el, tv⟩, few, k⟩ := h
    refine ⟨_, (pss_cons (ps_if (pt_not (pt_val (pe_callB call_isAll rfl T.f_isinstance (by decide +kernel) (pa_cons (pv 0) (pa_cons (pe_bltn (v := .ty "list") (u := .type "list") rfl T.f_list (by decide +kernel) rfl) pa_nil))))) (pss_one (ps_ret pe_bl)) pss_nil)
      (pss_cons (ps_for (passes_of rfl) rfl (pi_list (pv 0)) (pg_name (i := 1) nd rfl (Or.inl rfl)) (pss_cons (ps_if (PW.pt (pw_or (pt_not (pt_val (pe_callB call_isAll rfl T.f_isinstance (by decide +kernel) (pa_cons (pv 1) (pa_cons (pe_bltn (v := .ty "tuple") (u := .type "tuple") rfl T.f_tuple (by decide +kernel) rfl) pa_nil))))) (pw_or1 (pt_cmpR op_ne (pe_callB call_len_seq rfl T.f_len PySem.boot_len (pa_cons (pv 1) pa_nil)) pe_int (nomark _))))) (pss_one (ps_ret pe_bl)) pss_nil)
      (pss_one (ps_if (pt_cmpR (op_neD hr.units) (pe_lc (own := [("_law_one", 2)]) (g := (gName 2)) (tt := tOr (tB (tCB (rIsA K) (tCons (tVar 2) (tCons (tC (.ty "bool")) tNil)))) (tNot (tB (tCB (rIsA K) (tCons (tVar 2) (tCons (tC (.ty "int")) tNil)))))) rfl nd (pi_tup (pv 1)) (blkOk_by (own := [("_law_one", 2)]) (N := N_law_steps) (sc := defScope s_law_steps) (by decide +kernel)) (fun _ _ _ _ _ => (pg_name (i := 2) nd rfl (Or.inl rfl))) (fun _ _ _ _ _ => (pts_one (PW.pt (pw_or (pt_val (pe_callB call_isAll rfl T.f_isinstance (by decide +kernel) (pa_cons (pv 2) (pa_cons (pe_bltn (v := .ty "bool") (u := .type "bool") rfl T.f_bool (by decide +kernel) rfl) pa_nil)))) (pw_or1 (pt_not (pt_val (pe_callB call_isAll rfl T.f_isinstance (by decide +kernel) (pa_cons (pv 2) (pa_cons (pe_bltn (v := .ty "int") (u := .type "int") rfl T.f_int (by decide +kernel) rfl) pa_nil)))))))))) (fun _ _ _ _ _ => (pv 2))) (pe_lst pa_nil) (nomark _)) (pss_one (ps_ret pe_bl)) pss_nil))))
      (pss_one (ps_ret pe_bl)))), ?_⟩
    have lvs : vs.length = rows.length := by rw [tups_len tv, List.length_map]
    refine ⟨_, rfl, .inl ⟨.ref l, .ty "list", .type "list", .type "list", true, rfl, .ty _, .base (.lst el), kit_self, _, rfl, ?_⟩⟩
    refine ⟨_, rfl, l, rfl, ⟨vs, SqL.of el⟩, for_it walk_list (fun i σ H' => ∃ (u1 : Option V), σ = [some (.ref l), u1, none] ∧ Same H H') ⟨none, rfl, Same.refl H⟩ (fun _ _ _ _ ⟨_, _, z⟩ => SqL.of (z _ _ el)) ?_ ?_⟩
    · rintro i x σ H1 H2 hi ⟨u1, rfl, sm⟩ ⟨rfl, hx⟩
      obtain ⟨t, xs, rfl, hxs, ht⟩ := tups_get tv hx
      obtain ⟨r, hr0⟩ : ∃ r, rows[i]? = some r := ⟨_, List.getElem?_eq_getElem (by omega)⟩
      rw [List.getElem?_map, hr0] at hxs
      cases hxs
      have ht2 := sm _ _ ht
      refine ⟨_, rfl, .inl ⟨.ref t, .ty "tuple", .type "tuple", .type "tuple", true, rfl, .ty _, .base (.tup ht2), kit_self, _, rfl, ?_⟩⟩
      refine ⟨_, rfl, t, _, rfl, .inr (SqT.of ht2), rfl, ?_⟩
      rw [show decide (V.int ((rowV r).length : Int) = V.int 3) = true from decide_eq_true rfl]
      refine ⟨_, rfl, ?_⟩
      refine ⟨_, rfl, t, rfl, ⟨_, SqT.of ht2⟩, fun D0 hD0 => ?_⟩
      have cD := same_new (o := .lst []) hD0
      refine lc_it (walk_tup (K := K) (xs := rowV r)) (fun _ H' => H' D0 = some (.lst []) ∧ Same H2 H') ⟨upd_same, cD⟩ (fun _ _ _ z => SqT.of (z.2 _ _ ht2)) ?_ ?_
      · rintro o x H3 H4 ho ⟨e3, sm3⟩ ⟨rfl, hx3⟩
        obtain ⟨j, rfl⟩ : ∃ j : Int, x = .int j := by
          have hm := List.mem_of_getElem? hx3
          simp only [rowV, List.mem_cons, List.not_mem_nil, or_false] at hm
          rcases hm with h | h | h <;> exact ⟨_, h⟩
        exact ⟨rfl, _, rfl, .inl ⟨.int j, .ty "bool", .type "int", .type "bool", false, rfl, .ty _, .base (.int _), T.kb, _, rfl, _, rfl, .inl ⟨.int j, .ty "int", .type "int", .type "int", true, rfl, .ty _, .base (.int _), kit_self, _, rfl, e3, sm3⟩⟩⟩
      · rintro H3 ⟨e3, sm3⟩
        refine ⟨(by show 0 ≤ sizeLine; decide), fun E0' hE0 => ?_⟩
        have cE := same_new (o := .lst []) hE0
        refine ⟨_, _, .lst (SqL.of (cE _ _ e3)) .nil, .lst (SqL.of upd_same) .nil, by decide, by decide, ?_⟩
        rw [show PyData.eqv (.list []) (.list []) = true from by decide +kernel]
        exact ⟨_, rfl, _, rfl, (sm.trans sm3).trans cE⟩
    · rintro σ H1 ⟨u1, rfl, sm⟩
      exact k H1 sm
end
end K05

set_option Elab.async false
set_option linter.all false
set_option maxRecDepth 100000
set_option maxHeartbeats 4000000
namespace K05
open PySem PySem.Spec PyProof.Rows L2 Own
/-! ### what is told, as data -/
def natD (ys : List Nat) : PyData := .list (ys.map fun (q : Nat) => PyData.int (q : Int))
def partsD (yss : List (List Nat)) : PyData := .list (yss.map natD)
def allD (a b : List (List Nat)) (c : List Nat) : PyData := .list [partsD a, partsD b, natD c]
theorem dp_nats {K : PySem.W.Frag} {H : Hp} : ∀ ys : List Nat, DpAll K H (ys.map natV) (ys.map fun (q : Nat) => PyData.int (q : Int))
  | [] => .nil
  | _ :: ys => .cons (.int _) (dp_nats ys)
theorem dp_nat {K : PySem.W.Frag} {H : Hp} {r : Addr} {ys : List Nat} (h : H r = some (.lst (ys.map natV))) : Dp K H (.ref r) (natD ys) := .lst (SqL.of h) (dp_nats ys)
theorem dp_newL {K : PySem.W.Frag} {H H' : Hp} {r : Addr} : ∀ {vs : List V} {yss : List (List Nat)}, NewL H H' r vs (natL yss) → DpAll K H' vs (yss.map natD)
  | [], [], _ => .nil
  | _ :: _, [], h => by cases h
  | [], _ :: _, h => by cases h
  | v :: vs, ys :: yss, h => by
    have h' : NewL H H' r (v :: vs) (ys.map natV :: natL yss) := h
    cases h' with
    | cons q1 q2 =>
      obtain ⟨t, e, _, _, ht⟩ := q1
      subst e
      exact .cons (dp_nat ht) (dp_newL q2)
theorem dp_parts {K : PySem.W.Frag} {H H' : Hp} {r q : Addr} {zs : List V} {yss : List (List Nat)} (e : H' q = some (.lst zs)) (h : NewL H H' r zs (natL yss)) : Dp K H' (.ref q) (partsD yss) := .lst (SqL.of e) (dp_newL h)
theorem lay_nat (ys : List Nat) : Lay 1 (natD ys) := lay_list fun d hd => by
  obtain ⟨q, _, rfl⟩ := List.mem_map.mp hd
  exact lay_int _
theorem lay_parts (yss : List (List Nat)) : Lay 2 (partsD yss) := lay_list fun d hd => by
  obtain ⟨ys, _, rfl⟩ := List.mem_map.mp hd
  exact lay_nat ys
theorem lay_up {n k : Nat} {d : PyData} (h : Lay n d) (l : n ≤ k) : Lay k d := ⟨h.1, Nat.le_trans h.2 l⟩
theorem lay_told (a b : List (List Nat)) (c : List Nat) : Lay 3 (allD a b c) := lay_list fun d hd => by
  simp only [List.mem_cons, List.not_mem_nil, or_false] at hd
  rcases hd with h | h | h <;> rw [h]
  · exact lay_parts a
  · exact lay_parts b
  · exact lay_up (lay_nat c) (by decide)
theorem heads_zero {m : Nat} {ps : Join} (h : 1 ≤ m) : (partsOf m ps)[0]? = some (cls m ps 0) := by
  have z : Least ps 0 := fun q hq => absurd hq (Nat.not_lt_zero q)
  obtain ⟨k, rfl⟩ : ∃ k, m = k + 1 := ⟨m - 1, by omega⟩
  have e : (heads (k + 1) ps)[0]? = some 0 := by
    have e1 : heads (k + 1) ps = [0] ++ ((List.range k).map (· + 1)).filter fun p => @decide (Least ps p) (Classical.propDecidable _) := by
      unfold heads
      rw [List.range_succ_eq_map, List.filter_cons, if_pos ((@decide_eq_true_iff _ (Classical.propDecidable _)).mpr z)]
      rfl
    rw [e1]
    rfl
  unfold partsOf
  rw [List.getElem?_map, e]
  rfl
/-! ### by index and by row -/
theorem drop_row : ∀ {rows : List TRow} {k : Nat} {r : TRow}, rows.Pairwise (fun a b => a.1 < b.1) → rows[k]? = some r → (rows.filter fun q => decide (q.1 ≠ r.1)) = rows.eraseIdx k
  | [], k, r, _, h => by simp at h
  | a :: rows, 0, r, hp, h => by
    simp at h
    subst h
    rw [List.pairwise_cons] at hp
    simp only [List.filter_cons, ne_eq, not_true_eq_false, decide_false, List.eraseIdx_zero, List.tail_cons]
    rw [if_neg Bool.false_ne_true]
    refine List.filter_eq_self.mpr fun q hq => ?_
    have := hp.1 q hq
    exact decide_eq_true (by omega)
  | a :: rows, k + 1, r, hp, h => by
    rw [List.pairwise_cons] at hp
    have hr : r ∈ rows := List.mem_of_getElem? (by simpa using h)
    have lt := hp.1 r hr
    have ih := drop_row (k := k) hp.2 (by simpa using h)
    rw [List.filter_cons, if_pos (decide_eq_true (by omega)), ih, List.eraseIdx_cons_succ]
theorem mem_erase {α : Type} {q r : α} : ∀ {xs : List α} {k : Nat}, xs[k]? = some r → (q ∈ xs ↔ q = r ∨ q ∈ xs.eraseIdx k)
  | [], k, h => by simp at h
  | x :: xs, 0, h => by
    simp at h
    subst h
    simp
  | x :: xs, k + 1, h => by
    have ih := mem_erase (q := q) (xs := xs) (k := k) (by simpa using h)
    rw [List.eraseIdx_cons_succ, List.mem_cons, List.mem_cons, ih]
    constructor
    · rintro (h | h | h)
      · exact .inr (.inl h)
      · exact .inl h
      · exact .inr (.inr h)
    · rintro (h | h | h)
      · exact .inr (.inl h)
      · exact .inl h
      · exact .inr (.inr h)
/-- the law's counting of parts, and the ends apart without the street -/
theorem gone_key {m : Nat} {rows : List TRow} {i : Nat} {r : TRow} (rise : rows.Pairwise fun a b => a.1 < b.1) (inm : ∀ q ∈ ends rows, q.1 < m ∧ q.2 < m) (hr : rows[i]? = some r) :
    decide ((partsOf m (ends rows)).length < (partsOf m ((ends rows).eraseIdx i)).length) = bridge rows r := by
  unfold bridge
  rw [drop_row rise hr]
  have e : ends (rows.eraseIdx i) = (ends rows).eraseIdx i := (erase_map _ rows i).symm
  rw [e]
  have hi : (ends rows)[i]? = some (r.2.1, r.2.2) := by
    unfold ends
    rw [List.getElem?_map, hr]
    rfl
  have bnd := inm _ (List.mem_of_getElem? hi)
  exact decide_eq_decide.mpr (parts_grow (fun q => mem_erase hi) bnd.1 bnd.2)
theorem gone_mem {m : Nat} {ps : Join} {n i : Nat} (hi : i < n) : i ∈ goneOf m ps n ↔ decide ((partsOf m ps).length < (partsOf m (ps.eraseIdx i)).length) = true := by
  unfold goneOf
  rw [List.mem_filter, List.mem_range]
  exact ⟨fun h => h.2, fun h => ⟨hi, h⟩⟩
def numAt (rows : List TRow) (k : Nat) : Nat := match rows[k]? with
  | some r => r.1
  | none => 0
theorem gone_nums {m : Nat} {rows : List TRow} (rise : rows.Pairwise fun a b => a.1 < b.1) (inm : ∀ q ∈ ends rows, q.1 < m ∧ q.2 < m) : ∀ n, n ≤ rows.length → (goneOf m (ends rows) n).map (numAt rows) = ((rows.take n).filter (bridge rows)).map (·.1)
  | 0, _ => by
    unfold goneOf
    simp
  | n + 1, h => by
    have ih := gone_nums rise inm n (by omega)
    obtain ⟨r, hr⟩ : ∃ r, rows[n]? = some r := ⟨_, List.getElem?_eq_getElem (by omega)⟩
    have step : goneOf m (ends rows) (n + 1) = goneOf m (ends rows) n ++ (if decide ((partsOf m (ends rows)).length < (partsOf m ((ends rows).eraseIdx n)).length) = true then [n] else []) := by
      unfold goneOf
      rw [List.range_succ, List.filter_append, List.filter_cons]
      rfl
    rw [step, gone_key rise inm hr, take_snoc hr, List.map_append, List.filter_append, List.map_append, ih, List.filter_cons]
    have en : numAt rows n = r.1 := by
      unfold numAt
      rw [hr]
    cases hb : bridge rows r with
    | true =>
      rw [if_pos rfl, if_pos rfl]
      simp [en]
    | false =>
      rw [if_neg Bool.false_ne_true, if_neg Bool.false_ne_true]
      simp
theorem left_rows {rows : List TRow} : (rows.filter fun q => decide (q ∉ rows.filter (bridge rows))) = rows.filter fun q => !bridge rows q := by
  refine List.filter_congr fun q hq => ?_
  cases hb : bridge rows q with
  | true => exact decide_eq_false fun z => z (List.mem_filter.mpr ⟨hq, hb⟩)
  | false =>
    refine decide_eq_true fun z => ?_
    have y := (List.mem_filter.mp z).2
    rw [hb] at y
    cases y
end K05

set_option Elab.async false
set_option linter.all false
set_option maxRecDepth 100000
set_option maxHeartbeats 4000000
namespace K05
open PySem PySem.Spec PyProof.Rows L2 Own
/-! ### promises of one_way -/
def spOneWay (fW : Nat → List TRow → List TRow) (K : PySem.W.Frag) (C : Addr) : Sp := fun vs H Q E => ∃ (p d : Addr) (m : Nat) (rows : List TRow) (n : Nat), vs = [.ref p] ∧ TownAt C H p d m rows n ∧
  (canB m rows = true → ∀ (r : Addr) (H' : Hp), H r = none → Same H H' → TL H' r ((fW m rows).map rowV) → Q (.ref r) H') ∧
  (canB m rows = false → ∀ (dd b c : Addr) (zs : List V) (H' : Hp), H dd = none → H b = none → H c = none → b ≠ dd → c ≠ dd → b ≠ c → Same H H' → H' dd = some (.xd [("apart", .ref c), ("between", .ref b)]) → H' b = some (.lst (((rows.filter (bridge rows)).map (·.1)).map natV)) → H' c = some (.lst zs) → NewL H H' c zs (natL (partsOf m (ends rows))) →
    E (.ref (gA K "Parted")) (some dd) H')
structure TxtR (K : PySem.W.Frag) (mg : Str → Option Value) : Prop where
  s : TxtS K mg
  m_Parted : mg "Parted" = some (.ref (gA K "Parted"))
  exPP : PySem.W.exmOne K (.ref (gA K "Parted")) (.ref (gA K "Parted")) = some true
  xf : XfC K (gA K "Parted")
  nb : PySem.W.findIn K (.ref (gA K "Parted")) "between" = some none
  na : PySem.W.findIn K (.ref (gA K "Parted")) "apart" = some none
theorem tabs_over {T : List (Addr × Str)} {H : Hp} {l : Addr} {xs : List V} {o : HO} (t : LamX.Tabs T H) (h : H l = some (.lst xs)) : LamX.Tabs T (upd H l o) := by
  intro q hq
  obtain ⟨ps, e1, e2, e3⟩ := t q hq
  refine ⟨ps, by rw [upd_ne (ne_of e1 h (by intro z; cases z))]; exact e1, e2, fun pos cv hc => ?_⟩
  obtain ⟨c, f1, f2⟩ := e3 pos cv hc
  exact ⟨c, f1, by rw [upd_ne (ne_of f2 h (by unfold LamX.CodeO; intro z; cases z))]; exact f2⟩
end K05

set_option Elab.async false
set_option linter.all false
set_option maxRecDepth 100000
set_option maxHeartbeats 4000000
namespace K05
open PySem PySem.Spec PyProof.Rows L2 Own
/-! ### Parted -/
abbrev s_Parted_init : Stmt := inClass (top 6) 0
theorem sup_Parted : SupS (defScope s_Parted_init) := ⟨rfl, rfl, rfl, ⟨rfl, rfl, rfl⟩, rfl, rfl, by decide +kernel, by decide +kernel, fun z => by rcases z with z | z | z <;> exact absurd z (by decide)⟩
/-- Parted(between, apart), made: its lists are told anew -/
def spParted (C : Addr) : Sp := fun vs H Q _ => ∃ (a p q : Addr) (xs rs : List V) (yss : List (List V)), vs = [.ref a, .ref p, .ref q] ∧ H a = some (exo a C none) ∧ H p = some (.lst xs) ∧ H q = some (.lst rs) ∧ Lsts H rs yss ∧ rs.length ≤ sizeLine ∧
  ∀ (b c d : Addr) (zs : List V) (H' : Hp), H b = none → H c = none → H d = none → H' a = some (exo a C (some d)) → H' d = some (exd d [("apart", .ref c), ("between", .ref b)]) → H' b = some (.lst xs) → H' c = some (.lst zs) → NewL H H' c zs yss → b ≠ c →
    (∀ x o, x ≠ a → H x = some o → H' x = some o) → Q .non H'
theorem exo_lst {e C : Addr} {d : Option Addr} {xs : List V} : exo e C d ≠ .lst xs := fun z => by
  have z' : HO.ext _ = HO.lst xs := z
  cases z'
section
variable {P : Program} {w : World} {K : PySem.W.Frag} {mg : Str → Option Value} {base : Heap} {C fI cda cc : Addr} {fd : FuncData}
theorem ok_Parted (D : SupC K mg P C fI cda cc (defArgs s_Parted_init) (defBody s_Parted_init) (defScope s_Parted_init) fd) (fl : mg "list" = none) (nb : PySem.W.findIn K (.ref C) "between" = some none) (na : PySem.W.findIn K (.ref C) "apart" = some none) :
    FnOk P w K mg base (L2.CX P w) 1 fI fd ["self", "between", "apart"] (spParted C) := by
  refine ⟨fun vs H Q E h => ?_, fun A outer s H args us vs Q E hr e0 hb r h => ?_⟩
  · obtain ⟨a, p, q, xs, rs, yss, rfl, _⟩ := h
    rfl
  · obtain ⟨a, p, q, xs, rs, yss, rfl, ea, ep, eq, L, few, k⟩ := h
    obtain ⟨u0, us1, rfl, ra, r1⟩ : ∃ u0 ur, us = u0 :: ur ∧ RelV (.ref a) u0 ∧ Vals [.ref p, .ref q] ur := by
      cases r with
      | cons q0 q1 => exact ⟨_, _, rfl, q0, q1⟩
    obtain ⟨u1, us2, rfl, rp, r2⟩ : ∃ u0 ur, us1 = u0 :: ur ∧ RelV (.ref p) u0 ∧ Vals [.ref q] ur := by
      cases r1 with
      | cons q0 q1 => exact ⟨_, _, rfl, q0, q1⟩
    obtain ⟨u2, rfl, rq⟩ : ∃ u0, us2 = [u0] ∧ RelV (.ref q) u0 := by
      cases r2 with
      | cons q0 q1 =>
        cases q1
        exact ⟨_, rfl, q0⟩
    cases ra
    have nd : supN.Nodup := by decide
    refine sup_run (k := 0) sup_Parted D rfl (fun _ => rfl) hr e0 hb rp rq ea ?_
    refine ⟨_, (pss_cons (ps_ost (pv 0) (pe_callTy call_list_of rfl fl (by decide +kernel) (pa_cons (pv 1) pa_nil)))
      (pss_one (ps_ost (pv 0) (pe_lc (own := [("part", 3)]) (g := (gName 3)) (te := tCB (fun xs H Q => ∃ (p : Addr) (ys : List V), xs = [V.ref p] ∧ (SqL K H p ys ∨ SqT K H p ys) ∧ ∀ l, H l = none → Q (.ref l) (upd H l (.lst ys))) (tCons (tVar 3) tNil)) rfl nd (pi_list (pv 2)) (blkOk_by (own := [("part", 3)]) (N := supN) (sc := defScope s_Parted_init) (by decide +kernel)) (fun _ _ _ _ _ => (pg_name (i := 3) nd rfl (Or.inl rfl))) (fun _ _ _ _ _ => pts_nil) (fun _ _ _ _ _ => (pe_callTy call_list_of rfl fl (by decide +kernel) (pa_cons (pv 3) pa_nil))))))), ?_⟩
    refine ⟨_, rfl, p, xs, rfl, .inl (SqL.of ep), fun b hb0 => ⟨_, rfl, a, C, rfl, D.oex, nb, .inl ⟨by rw [upd_ne (ne_of_none ea hb0)]; exact ea, fun d hd nda => ?_⟩⟩⟩
    obtain ⟨ndb, hd0⟩ := upd_none hd
    have nba : b ≠ a := fun z => by
      rw [z, ea] at hb0
      cases hb0
    have nqa : q ≠ a := at_ne ea eq exo_lst
    have e1a : upd (upd (upd H b (.lst xs)) d (exd d [(("between" : Str), V.ref b)])) a (exo a C (some d)) a = some (exo a C (some d)) := upd_same
    have e1d : upd (upd (upd H b (.lst xs)) d (exd d [(("between" : Str), V.ref b)])) a (exo a C (some d)) d = some (exd d [("between", V.ref b)]) := by rw [upd_ne nda, upd_same]
    have e1b : upd (upd (upd H b (.lst xs)) d (exd d [(("between" : Str), V.ref b)])) a (exo a C (some d)) b = some (.lst xs) := by rw [upd_ne nba, upd_ne ndb.symm, upd_same]
    have old : ∀ x o, x ≠ a → H x = some o → upd (upd (upd H b (.lst xs)) d (exd d [(("between" : Str), V.ref b)])) a (exo a C (some d)) x = some o := fun x o nx e => by
      rw [upd_ne nx, upd_ne (ne_of_none e hd0), upd_ne (ne_of_none e hb0)]
      exact e
    generalize upd (upd (upd H b (.lst xs)) d (exd d [(("between" : Str), V.ref b)])) a (exo a C (some d)) = H1 at *
    have L1 : Lsts H1 rs yss := lsts_ext (fun t ys e => old t _ (at_ne ea e exo_lst) e) L
    refine ⟨_, rfl, q, rfl, ⟨rs, SqL.of (old _ _ nqa eq)⟩, fun D0 hD => ?_⟩
    refine lc_it walk_list (fun i H' => ∃ zs, H' D0 = some (.lst zs) ∧ NewL H H' D0 zs (yss.take i) ∧ zs.length = i ∧ Same H1 H') ⟨[], upd_same, .nil, rfl, same_new hD⟩ (fun i H' _ ⟨_, _, _, _, sm⟩ => SqL.of (sm _ _ (old _ _ nqa eq))) ?_ ?_
    · rintro i x H2 H3 hi ⟨zs, g1, g2, g3, sm⟩ ⟨rfl, hx⟩
      obtain ⟨t, ys, hx1, hy, ht⟩ := lsts_get L1 hi
      rw [hx] at hx1
      cases hx1
      refine ⟨rfl, _, rfl, t, ys, rfl, .inl (SqL.of (sm _ _ ht)), fun l hl => ?_⟩
      have nlD : D0 ≠ l := ne_of_none g1 hl
      refine ⟨zs, by rw [upd_ne nlD]; exact g1, by omega, zs ++ [V.ref l], upd_same, ?_, by rw [List.length_append]; show zs.length + 1 = i + 1; omega, fun b o e => ?_⟩
      · rw [take_snoc hy]
        refine newL_snoc nlD.symm ?_ (by rw [upd_ne nlD.symm]; exact upd_same) (newL_ext (fun b ws nb _ e => ?_) g2)
        · cases z : H l with
          | none => rfl
          | some o =>
            have y := sm l
            by_cases la : l = a
            · rw [la] at hl
              rw [sm _ _ e1a] at hl
              cases hl
            · rw [sm _ _ (old _ _ la z)] at hl
              cases hl
        rw [upd_ne nb, upd_ne (ne_of_none e hl)]
        exact e
      · have nb : b ≠ D0 := ne_of_none e hD
        rw [upd_ne nb, upd_ne (ne_of_none (sm _ _ e) hl)]
        exact sm _ _ e
    · rintro H2 ⟨zs, g1, g2, g3, sm⟩
      rw [Paired.length L, List.take_length] at g2
      refine ⟨_, rfl, a, C, rfl, D.oex, na, .inr ⟨d, _, sm _ _ e1a, sm _ _ e1d, (by show 1 ≤ 900; decide), ?_⟩⟩
      have g1a := sm _ _ e1a
      have g1d := sm _ _ e1d
      have g1b := sm _ _ e1b
      have hD0 : H D0 = none := by
        cases z : H D0 with
        | none => rfl
        | some o =>
          rw [old _ _ (fun y => by rw [y, e1a] at hD; cases hD) z] at hD
          cases hD
      refine k b D0 d zs _ hb0 hD0 hd0 (by rw [upd_ne nda.symm]; exact g1a) upd_same (by rw [upd_ne ndb.symm]; exact g1b) (by rw [upd_ne (fun y => by rw [y, g1d] at g1; cases g1)]; exact g1)
        (newL_ext (fun t ys _ _ e => by rw [upd_ne (fun y => by rw [y, g1d] at e; cases e)]; exact e) g2) (fun y => by rw [← y, e1b] at hD; cases hD) (fun x o nx e => by
          rw [upd_ne (ne_of_none e hd0)]
          exact sm _ _ (old x o nx e))
end
/-! ### one_way -/
structure MakE (P : Program) (w : World) (K : PySem.W.Frag) (mg : Str → Option Value) (base : Heap) (k : Nat) (x : Str) (C : Addr) (sp : Sp) : Prop where
  ex : ∃ (f : Addr) (fd : FuncData) (ps : List Str), OexC K C ∧ PySem.W.findIn K (.ref C) "__init__" = some (some (.ref f)) ∧ PySem.W.typeIn K (.ref f) = some (.type "function") ∧ FnOk P w K mg base (L2.CX P w) k f fd ps sp ∧ mg x = some (.ref C) ∧ Binds K fd ps []
structure TxtOW (mg : Str → Option Value) : Prop where
  f_len : mg "len" = none
  f_sorted : mg "sorted" = none
theorem perm_tups {H : Hp} {ys vs : List V} (pm : ys.Perm vs) : ∀ {T : List TRow}, Tups H vs (T.map rowV) → ∃ T' : List TRow, T'.Perm T ∧ Tups H ys (T'.map rowV) := by
  induction pm with
  | nil => exact fun {T} t => ⟨T, .refl _, t⟩
  | cons x _ ih =>
    intro T t
    cases T with
    | nil => cases t
    | cons r T0 =>
      cases t with
      | cons a b =>
        obtain ⟨T', h1, h2⟩ := ih b
        exact ⟨r :: T', h1.cons r, .cons a h2⟩
  | swap x y l =>
    intro T t
    cases T with
    | nil => cases t
    | cons r T0 =>
      cases t with
      | cons a b =>
        cases T0 with
        | nil => cases b
        | cons r2 T1 =>
          cases b with
          | cons c d => exact ⟨r2 :: r :: T1, .swap .., .cons c (.cons a d)⟩
  | trans _ _ ih1 ih2 =>
    intro T t
    obtain ⟨T1, h1, h2⟩ := ih2 t
    obtain ⟨T2, g1, g2⟩ := ih1 h2
    exact ⟨T2, g1.trans h1, g2⟩
theorem tups_pw {H : Hp} {R : V → V → Prop} {S : TRow → TRow → Prop} (k : ∀ x y r q, (∃ t, x = V.ref t ∧ H t = some (.tup (rowV r))) → (∃ t, y = V.ref t ∧ H t = some (.tup (rowV q))) → R x y → S r q) : ∀ {ys : List V} {T : List TRow}, ys.Pairwise R → Tups H ys (T.map rowV) → T.Pairwise S
  | [], [], _, _ => .nil
  | [], _ :: _, _, t => by cases t
  | _ :: _, [], _, t => by cases t
  | y :: ys, r :: T, pw, t => by
    cases t with
    | cons a b =>
      obtain ⟨p1, p2⟩ := List.pairwise_cons.mp pw
      refine List.pairwise_cons.mpr ⟨fun q hq => ?_, tups_pw k p2 b⟩
      obtain ⟨i, hi⟩ := List.getElem?_of_mem hq
      obtain ⟨v, hv⟩ : ∃ v, ys[i]? = some v := ⟨_, List.getElem?_eq_getElem (by
        have l := tups_len b
        rw [List.length_map] at l
        rw [l]
        exact (List.getElem?_eq_some_iff.mp hi).1)⟩
      obtain ⟨u, xs, e1, e2, e3⟩ := tups_get b hv
      rw [List.getElem?_map, hi] at e2
      cases e2
      exact k y v r q a ⟨u, e1, e3⟩ (p1 v (List.mem_of_getElem? hv))
abbrev s_one_way : Stmt := top 30
abbrev N_one_way : List Str := ["town", "between", "apart", "row", "step"]
theorem sc_one_way : FnScope N_one_way ["town"] (defScope s_one_way) := ⟨rfl, rfl, rfl, by decide +kernel, rfl, by decide +kernel, by decide +kernel⟩
section
variable {P : Program} {w : World} {K : PySem.W.Frag} {mg : Str → Option Value} {base : Heap} {f : Addr} {fd : FuncData}
theorem ok_one_way (T : TxtOW mg) (D : FnP K "one_way" "one_way" s_one_way f fd) (c_parting : CalX P w K mg base 5 "parting" (spParting (gA K "Town"))) (c_parts : CalX P w K mg base 4 "parts" (spPartsT (gA K "Town"))) (c_handles : CalX P w K mg base 6 "handles" (spHandles (gA K "Town")))
    (c_Parted : MakE P w K mg base 1 "Parted" (gA K "Parted") (spParted (gA K "Parted"))) : FnOk P w K mg base (L2.CX P w) 8 f fd ["town"] (spOneWay fW K (gA K "Town")) := by
  have nd := sc_one_way.nd
  refine D.ok sc_one_way (fun vs H Q E h => ?_) (fun cdv A outer s H vs Q E hr h => ?_)
  · obtain ⟨p, d, m, rows, n, rfl, _⟩ := h
    rfl
  · obtain ⟨p, d, m, rows, n, rfl, W, good, bad⟩ := h
    obtain ⟨f_parting, fd_parting, ps_parting, F_parting, m_parting, k_parting, b_parting⟩ := c_parting.ex
    obtain ⟨f_parts, fd_parts, ps_parts, F_parts, m_parts, k_parts, b_parts⟩ := c_parts.ex
    obtain ⟨f_handles, fd_handles, ps_handles, F_handles, m_handles, k_handles, b_handles⟩ := c_handles.ex
    obtain ⟨f_Parted, fd_Parted, ps_Parted, O_Parted, i_Parted, t_Parted, F_Parted, m_Parted, b_Parted⟩ := c_Parted.ex
    obtain ⟨NB, hNB⟩ : ∃ NB : Nat, NB = n + 17 := ⟨_, rfl⟩
    refine ⟨_, (pss_cons (ps_set (i := 1) nd rfl (Or.inl rfl) (pe_call F_parting (hr.mono (by decide)) rfl m_parting k_parting b_parting .nil passF (pa_cons (pv 0) pa_nil)))
      (pss_cons (ps_set (i := 2) nd rfl (Or.inl rfl) (pe_call F_parts (hr.mono (by decide)) rfl m_parts k_parts b_parts .nil passF (pa_cons (pv 0) pa_nil)))
      (pss_cons (ps_if (PW.pt (pw_or (pt_truth (pv 1) (by intro _; rfl)) (pw_or1 (pt_cmpR op_gt (pe_callB call_len_seq rfl T.f_len PySem.boot_len (pa_cons (pv 2) pa_nil)) pe_int (nomark _))))) (pss_one (ps_raise rfl (takes_of rfl rfl rfl rfl) (pmk_oex O_Parted i_Parted t_Parted F_Parted (hr.mono (by decide)) b_Parted .nil passF rfl m_Parted (pa_cons (pv 1) (pa_cons (pv 2) pa_nil))))) pss_nil)
      (pss_one (ps_ret (pe_callB (cr_sortT (d := 3) (B := ((NB : Nat) : Int)) (by decide)) rfl T.f_sorted (by decide +kernel) (pa_cons (pe_lc2 (own := [("row", 3), ("step", 4)]) (vs1 := [4]) (g := (gName 3)) (g1 := (gName 4)) (wi1 := iList K (tVar 3)) rfl nd (pi_list (pe_call F_handles (hr.mono (by decide)) rfl m_handles k_handles b_handles .nil passF (pa_cons (pv 0) pa_nil))) (blkOk_by (own := [("row", 3), ("step", 4)]) (N := N_one_way) (sc := defScope s_one_way) (by decide +kernel)) (by decide) (fun _ _ _ _ _ => (pg_name (i := 3) nd rfl (Or.inl rfl))) (fun _ _ _ _ _ => pts_nil) (fun _ _ _ _ _ => (pi_list (pv 3))) (fun _ _ _ _ _ => (pg_name (i := 4) nd rfl (Or.inl rfl))) (fun _ _ _ _ _ => pts_nil) (fun _ _ _ _ _ => (pv 4))) pa_nil))))))), ?_⟩
    refine ⟨_, rfl, p, d, m, rows, n, rfl, W, fun bl H1 hbl sm1 eb => ?_⟩
    have W1 := W.same sm1
    refine ⟨_, rfl, p, d, m, rows, n, rfl, W1, fun al az H2 hal sm2 ea na => ?_⟩
    dsimp only [gName]
    refine nice (σ' := [some (.ref p), some (.ref bl), some (.ref al), none, none]) rfl ?_
    have eb2 := sm2 _ _ eb
    have sm := sm1.trans sm2
    have W2 := W.same sm
    have u := rise_one W.ok.rise
    have inm := town_inm W
    have m1 := W.pm.1
    have m16 := W.pm.2
    have laz : az.length = (partsOf m (ends rows)).length := by
      rw [Paired.length na]
      unfold natL
      rw [List.length_map]
    have hbl0 : H bl = none := hbl
    have nba : bl ≠ al := fun z => by
      rw [← z, eb] at hal
      cases hal
    refine (fun (bd : canB m rows = false → (_ : Prop)) => ⟨_, rfl, !((rows.filter (bridge rows)).map (·.1)).isEmpty, .inl ⟨_, SqL.of eb2, by simp⟩, if_both (fun c => bd ?g1) (fun c => ⟨_, rfl, al, az, rfl, .inl (SqL.of ea), _, _, rfl, rfl, _, rfl, if_both (fun c2 => bd ?g2) (fun c2 => ?good)⟩)⟩) ?bd
    case g1 =>
      unfold canB
      cases z : (rows.filter (bridge rows)).isEmpty with
      | true =>
        have y : ((rows.filter (bridge rows)).map (·.1)).isEmpty = (rows.filter (bridge rows)).isEmpty := by simp
        rw [y, z] at c
        cases c
      | false => rw [Bool.and_false]
    case g2 =>
      have lt := of_decide_eq_true c2
      unfold canB
      rw [decide_eq_false (show ¬ (partsOf m (ends rows)).length = 1 by omega), Bool.false_and]
    case bd =>
      intro cant
      refine ⟨_, rfl, _, rfl, (by show 2 ≤ 1000; decide), fun a ha => ?_⟩
      have ca := same_new (o := exo a (gA K "Parted") none) ha
      have na2 : NewL H1 (upd H2 a (exo a (gA K "Parted") none)) al az (natL (partsOf m (ends rows))) := newL_ext (fun t ys _ _ e => ca _ _ e) na
      refine ⟨a, bl, al, _, az, natL (partsOf m (ends rows)), rfl, upd_same, ca _ _ eb2, ca _ _ ea, newL_lsts na2, ?_, fun b c d' zs H3 hb hc hd ea3 ed3 eb3 ec3 nl nbc keep => ⟨rfl, d', _, ea3, ed3, ?_, ?_⟩⟩
      · rw [laz, sizeLine_eq]
        have : (partsOf m (ends rows)).length ≤ m := parts_len
        omega
      · cases z : H2 d' with
        | none => rfl
        | some o =>
          rw [ca _ _ z] at hd
          cases hd
      have fr : ∀ {x}, upd H2 a (exo a (gA K "Parted") none) x = none → H x = none := fun {x} hx => (sm.trans ca).free hx
      have nla : ∀ {x xs}, H3 x = some (.lst xs) → x ≠ a := fun {x xs} e z => by
        rw [z, ea3] at e
        exact exo_lst (Option.some.inj e)
      have nbd : b ≠ d' := fun z => by
        rw [z, ed3] at eb3
        cases eb3
      have ncd : c ≠ d' := fun z => by
        rw [z, ed3] at ec3
        cases ec3
      have haH : H a = none := sm.free ha
      refine bad cant d' b c zs _ (fr hd) (fr hb) (fr hc) nbd ncd nbc (fun x o e => ?_) upd_same (by rw [upd_ne nbd, del_ne (nla eb3)]; exact eb3) (by rw [upd_ne ncd, del_ne (nla ec3)]; exact ec3) ?_
      · have nxa := ne_of_none e haH
        rw [upd_ne (ne_of_none e (fr hd)), del_ne nxa]
        exact keep x o nxa (ca _ _ (sm _ _ e))
      · have z : NewL H H3 c zs (natL (partsOf m (ends rows))) := newL_free (sm.trans ca) nl
        exact newL_ext (fun t ys _ hz e => by
          rw [upd_ne (fun y => by rw [y, ed3] at e; cases e), del_ne (nla e)]
          exact e) z
    case good =>
      have hempty : (rows.filter (bridge rows)).isEmpty = true := by
        have y : ((rows.filter (bridge rows)).map (·.1)).isEmpty = (rows.filter (bridge rows)).isEmpty := by simp
        rw [y] at c
        cases z : (rows.filter (bridge rows)).isEmpty with
        | true => rfl
        | false =>
          rw [z] at c
          cases c
      have can : canB m rows = true := by
        have ge : 1 ≤ (partsOf m (ends rows)).length := (List.getElem?_eq_some_iff.mp (heads_zero (ps := ends rows) m1)).1
        have nlt := of_decide_eq_false c2
        unfold canB
        rw [hempty, decide_eq_true (show (partsOf m (ends rows)).length = 1 by omega)]
        rfl
      obtain ⟨T1, T2, T3, _⟩ := can_told u inm m1 m16 can
      have MF := fun {x : TRow} => mem_fW (x := x) u inm m1 m16 can
      have lT : (handlesF m rows).flatten.length ≤ 60 := by
        have z := sub_len T2 (ys := rows.map (·.1)) fun x hx => by
          obtain ⟨st, hst, e⟩ := List.mem_map.mp hx
          rw [← e]
          rcases mem_both.mp (T1 st hst) with y | y
          · exact List.mem_map.mpr ⟨st, y, rfl⟩
          · exact List.mem_map.mpr ⟨_, y, rfl⟩
        rw [List.length_map, List.length_map] at z
        have := W.ok.few
        omega
      refine at_next ?_
      dsimp only
      refine at_ret (at_cb (at_cons ?_))
      refine lc2_rows (K := K) (RR := handlesF m rows) (fun Rr hR => ?_) (by omega) (fun _ => rfl) (fun _ => rfl) (fun _ _ => rfl) (fun _ _ => rfl) (fun D0 H4 hD0 sm4 tD => ?_)
      · refine ⟨_, rfl, p, d, m, rows, n, rfl, W2, fun hl hz H3 hhl sm3 eh nh => ?_⟩
        have z : ∀ {vs : List V} {rss : List (List TRow)}, NewT H2 H3 hl vs rss → TLs H3 vs rss := fun {vs rss} q => by
          induction q with
          | nil => exact .nil
          | cons a _ ih =>
            obtain ⟨t, e, _, _, h⟩ := a
            exact .cons ⟨t, e, h⟩ ih
        exact ⟨hl, rfl, ⟨hz, SqL.of eh⟩, hR hl hz H3 sm3 eh (z nh)⟩
      obtain ⟨vs, ev, tv⟩ := tD
      have row3 : ∀ st ∈ (handlesF m rows).flatten, st.1 < NB ∧ st.2.1 < NB ∧ st.2.2 < NB := fun st hst => by
        have key : ∀ r ∈ rows, r.1 < n ∧ r.2.1 < m ∧ r.2.2 < m := fun r hr => ⟨W.ok.below r hr, (W.ok.ends r hr).1, (W.ok.ends r hr).2.1⟩
        rcases mem_both.mp (T1 st hst) with y | y
        · have := key st y
          omega
        · have := key _ y
          have e1 : (flipR st).1 = st.1 := rfl
          have e2 : (flipR st).2.1 = st.2.2 := rfl
          have e3 : (flipR st).2.2 = st.2.1 := rfl
          rw [e1, e2, e3] at this
          omega
      have numsOf : ∀ r : TRow, rowV r = [(r.1 : Int), (r.2.1 : Int), (r.2.2 : Int)].map V.int := fun r => rfl
      have bd3 : ∀ st : TRow, st.1 < NB → st.2.1 < NB → st.2.2 < NB → TS.Bd (NB : Int) [(st.1 : Int), (st.2.1 : Int), (st.2.2 : Int)] := fun st a b c x hx => by
        simp only [List.mem_cons, List.not_mem_nil, or_false] at hx
        omega
      refine ⟨D0, vs, rfl, SqL.of ev, ?_, fun x hx => ?_, fun ys r perm pw hr0 => ?_⟩
      · rw [tups_len tv, List.length_map]
        omega
      · obtain ⟨i, hi⟩ := List.getElem?_of_mem hx
        obtain ⟨t, xs, rfl, e2, e3⟩ := tups_get tv hi
        rw [List.getElem?_map] at e2
        cases hq : (handlesF m rows).flatten[i]? with
        | none =>
          rw [hq] at e2
          cases e2
        | some st =>
          rw [hq] at e2
          cases e2
          have b := row3 st (List.mem_of_getElem? hq)
          exact ⟨[(st.1 : Int), (st.2.1 : Int), (st.2.2 : Int)], ⟨t, rfl, SqT.of e3⟩, rfl, bd3 st b.1 b.2.1 b.2.2⟩
      · obtain ⟨T', pT, tT⟩ := perm_tups perm tv
        have memT : ∀ x, x ∈ T' ↔ x ∈ (handlesF m rows).flatten := fun x => pT.mem_iff
        have ndT : (T'.map (·.1)).Nodup := (pT.map (·.1)).nodup_iff.mpr T2
        have up0 : T'.Pairwise fun a b => ¬ b.1 < a.1 := by
          have z : T'.Pairwise fun a b => (a ∈ T' ∧ b ∈ T') → ¬ b.1 < a.1 := tups_pw (H := H4) (S := fun a b => (a ∈ T' ∧ b ∈ T') → ¬ b.1 < a.1) (fun x y r q ⟨t1, e1, f1⟩ ⟨t2, e2, f2⟩ hxy ⟨i1, i2⟩ lt => by
            have b1 := row3 r ((memT r).mp i1)
            have b2 := row3 q ((memT q).mp i2)
            have le := hxy [(r.1 : Int), (r.2.1 : Int), (r.2.2 : Int)] [(q.1 : Int), (q.2.1 : Int), (q.2.2 : Int)] ⟨t1, e1, SqT.of f1⟩ ⟨t2, e2, SqT.of f2⟩
            have B1 := bd3 r b1.1 b1.2.1 b1.2.2
            have B2 := bd3 q b2.1 b2.2.1 b2.2.2
            have l := TS.code_lt (r := [(q.2.1 : Int), (q.2.2 : Int)]) (q := [(r.2.1 : Int), (r.2.2 : Int)]) rfl B2.tail B1.tail (d := (q.1 : Int)) (e := (r.1 : Int)) (by omega)
            omega) pw tT
          exact List.Pairwise.imp_of_mem (fun {a b} ha hb h => h ⟨ha, hb⟩) z
        have up : T'.Pairwise fun a b => a.1 < b.1 := by
          have nd2 : T'.Pairwise fun a b => a.1 ≠ b.1 := List.pairwise_map.mp ndT
          exact (up0.and nd2).imp fun {a b} h => by
            have := h.1
            have := h.2
            omega
        have eqT : T' = fW m rows := rise_uniq up (fW_rise W.ok.rise) fun x => (memT x).trans MF.symm
        rw [eqT] at tT
        have c9 := same_new (o := .lst ys) hr0
        exact good can r _ ((sm.trans sm4).free hr0) ((sm.trans sm4).trans c9) ⟨ys, upd_same, tups_ext (fun t xs e => c9 _ _ e) tT⟩
end
end K05

set_option Elab.async false
set_option linter.all false
set_option maxRecDepth 100000
set_option maxHeartbeats 4000000
namespace K05
open PySem PySem.Spec PyProof.Rows L2 Own
/-! ### all is told as it stands, by promises -/
def spStands (C : Addr) : Sp := fun vs H Q _ => ∃ (p d l : Addr) (m : Nat) (rows : List TRow) (n : Nat), vs = [.ref p, .int (m : Int), .ref l] ∧ TownAt C H p d m rows n ∧ TL H l (rows.map rowV) ∧ ∀ H', Same H H' → Q (.bl true) H'
abbrev s_law_stands : Stmt := top 41
abbrev N_law_stands : List Str := ["_law_town", "_law_many_here", "_law_rows", "_law_pairs", "_law_gone_here", "_law_due", "_law_left", "_law_found", "_law_some", "_law_caught", "_law_ways", "e", "_law_row", "_law_k", "_law_pair"]
theorem sc_law_stands : FnScope N_law_stands ["_law_town", "_law_many_here", "_law_rows"] (defScope s_law_stands) := ⟨rfl, rfl, rfl, by decide +kernel, rfl, by decide +kernel, by decide +kernel⟩
theorem nums_lc {K : PySem.W.Frag} {v0 v1 v3 : V} {l gn : Addr} {u5 u6 u7 u8 u9 u10 u11 u12 u13 u14 : Option V} {m : Nat} {rows : List TRow} {H : Hp} {Q : VK} (eg : H gn = some (.lst ((goneOf m (ends rows) rows.length).map natV))) (tl : TL H l (rows.map rowV)) (rise : rows.Pairwise fun a b => a.1 < b.1) (inm : ∀ q ∈ ends rows, q.1 < m ∧ q.2 < m) (few : rows.length ≤ 60)
    (fin : ∀ r H', H r = none → Same H H' → H' r = some (.lst (((rows.filter (bridge rows)).map (·.1)).map natV)) → Q (.ref r) H') :
    tLc (iList K (tVar 4)) (gName 13) tYes (tOp (rIxT K) (tOp (rIxL K) (tVar 2) (tVar 13)) (tC (.int 0))) [13] [some v0, some v1, some (.ref l), some v3, some (.ref gn), u5, u6, u7, u8, u9, u10, u11, u12, u13, u14] H Q := by
  obtain ⟨vs, el, tv⟩ := tl
  have lvs : vs.length = rows.length := by rw [tups_len tv, List.length_map]
  refine ⟨_, rfl, gn, rfl, ⟨_, SqL.of eg⟩, fun D0 hD0 => ?_⟩
  have gl : ∀ k ∈ goneOf m (ends rows) rows.length, k < rows.length := fun k hk => by
    unfold goneOf at hk
    exact List.mem_range.mp (List.mem_filter.mp hk).1
  have gln : (goneOf m (ends rows) rows.length).length ≤ 60 := by
    unfold goneOf
    exact Nat.le_trans (List.length_filter_le _ _) (by rw [List.length_range]; exact few)
  refine lc_it (walk_list (K := K) (xs := (goneOf m (ends rows) rows.length).map natV)) (fun i H' => H' D0 = some (.lst ((((goneOf m (ends rows) rows.length).take i).map (numAt rows)).map natV)) ∧ Same H H') ⟨upd_same, same_new hD0⟩ (fun _ _ _ z => SqL.of (z.2 _ _ eg)) ?_ ?_
  · rintro i x H2 H3 hi ⟨e2, sm2⟩ ⟨rfl, hx⟩
    rw [List.length_map] at hi
    obtain ⟨k, hk⟩ : ∃ k, (goneOf m (ends rows) rows.length)[i]? = some k := ⟨_, List.getElem?_eq_getElem hi⟩
    rw [List.getElem?_map, hk] at hx
    cases hx
    have kl := gl k (List.mem_of_getElem? hk)
    obtain ⟨r2, hr2⟩ : ∃ r, rows[k]? = some r := ⟨_, List.getElem?_eq_getElem kl⟩
    obtain ⟨y, hy⟩ : ∃ y, vs[k]? = some y := ⟨_, List.getElem?_eq_getElem (by omega)⟩
    obtain ⟨t, xs, rfl, hxs, ht⟩ := tups_get tv hy
    rw [List.getElem?_map, hr2] at hxs
    cases hxs
    refine ⟨rfl, _, rfl, _, rfl, l, vs, _, _, rfl, rfl, SqL.of (sm2 _ _ el), atI_nat hy, t, _, _, _, rfl, rfl, SqT.of (sm2 _ _ ht), atI_nat (j := 0) rfl, _, e2, by rw [List.length_map, List.length_map, List.length_take, sizeLine_eq]; omega, ?_, same_over hD0 sm2⟩
    rw [upd_same, take_snoc hk, List.map_append, List.map_append]
    have en : numAt rows k = r2.1 := by
      unfold numAt
      rw [hr2]
    show _ = some (HO.lst (_ ++ [natV (numAt rows k)]))
    rw [en]
    rfl
  · rintro H2 ⟨e2, sm2⟩
    rw [List.length_map, List.take_length, gone_nums rise inm rows.length (Nat.le_refl _), List.take_length] at e2
    exact fin D0 H2 hD0 sm2 e2
def standD (rows : List TRow) (a b : List (List Nat)) (c : List Nat) : PyData := .list [.list (rows.map rowD), partsD a, natD c, partsD b]
theorem lay_stand (rows : List TRow) (a b : List (List Nat)) (c : List Nat) : Lay 3 (standD rows a b c) := lay_list fun d hd => by
  simp only [List.mem_cons, List.not_mem_nil, or_false] at hd
  rcases hd with h | h | h | h <;> rw [h]
  · exact lay_rows rows
  · exact lay_parts a
  · exact lay_up (lay_nat c) (by decide)
  · exact lay_parts b
section
variable {P : Program} {w : World} {K : PySem.W.Frag} {mg : Str → Option Value} {base : Heap} {f : Addr} {fd : FuncData}
theorem ok_stands {fW : Nat → List TRow → List TRow} (FW : Ways fW) (R : TxtR K mg) (T : TxtL mg) (D : FnP K "_law_stands" "_law_stands" s_law_stands f fd)
    (c_law_parts : CalX P w K mg base 1 "_law_parts" spLawParts) (c_law_gone : CalX P w K mg base 2 "_law_gone" spGone) (c_law_good : CalX P w K mg base 2 "_law_good" spGood) (c_parts : CalX P w K mg base 4 "parts" (spPartsT (gA K "Town"))) (c_pieces : CalX P w K mg base 5 "pieces" (spPieces (gA K "Town"))) (c_parting : CalX P w K mg base 5 "parting" (spParting (gA K "Town")))
    (c_one_way : CalX P w K mg base 8 "one_way" (spOneWay fW K (gA K "Town"))) (c_Town_streets : MetX P w K mg base 1 (gA K "Town") "streets" (spStreets (gA K "Town"))) : FnOk P w K mg base (L2.CX P w) 10 f fd ["_law_town", "_law_many_here", "_law_rows"] (spStands (gA K "Town")) := by
  have nd := sc_law_stands.nd
  refine D.ok sc_law_stands (fun vs H Q E h => ?_) (fun cdv A outer s H vs Q E hr h => ?_)
  · obtain ⟨p, d, l, m, rows, n, rfl, _⟩ := h
    rfl
  · obtain ⟨p, d, l, m, rows, n, rfl, W, tl, k⟩ := h
    obtain ⟨f_law_parts, fd_law_parts, ps_law_parts, F_law_parts, m_law_parts, k_law_parts, b_law_parts⟩ := c_law_parts.ex
    obtain ⟨f_law_gone, fd_law_gone, ps_law_gone, F_law_gone, m_law_gone, k_law_gone, b_law_gone⟩ := c_law_gone.ex
    obtain ⟨f_law_good, fd_law_good, ps_law_good, F_law_good, m_law_good, k_law_good, b_law_good⟩ := c_law_good.ex
    obtain ⟨f_parts, fd_parts, ps_parts, F_parts, m_parts, k_parts, b_parts⟩ := c_parts.ex
    obtain ⟨f_pieces, fd_pieces, ps_pieces, F_pieces, m_pieces, k_pieces, b_pieces⟩ := c_pieces.ex
    obtain ⟨f_parting, fd_parting, ps_parting, F_parting, m_parting, k_parting, b_parting⟩ := c_parting.ex
    obtain ⟨f_one_way, fd_one_way, ps_one_way, F_one_way, m_one_way, k_one_way, b_one_way⟩ := c_one_way.ex
    obtain ⟨f_Town_streets, fd_Town_streets, ps_Town_streets, c_Town_streets, M_Town_streets, F_Town_streets, b_Town_streets⟩ := c_Town_streets.ex
    refine ⟨_, (pss_cons (ps_setLc (own := [("_law_row", 12)]) (g := (gName 12)) (te := tSl (rSlT K) (tVar 12) (tPart (tC (.int 1))) tNoPart) (i := 3) rfl nd rfl rfl (sw_true rfl rfl rfl (by decide +kernel)) (pi_list (pv 2)) (blkOk_by (own := [("_law_row", 12)]) (N := N_law_stands) (sc := defScope s_law_stands) (by decide +kernel)) (fun _ _ _ _ _ => (pg_name (i := 12) nd rfl (Or.inl rfl))) (fun _ _ _ _ _ => pts_nil) (fun _ _ _ _ _ => (pe_slice sl_tup (pv 12) (po_some pe_int) po_none)))
      (pss_cons (ps_set (i := 4) nd rfl (Or.inr rfl) (pe_call F_law_gone (hr.mono (by decide)) rfl m_law_gone k_law_gone b_law_gone .nil passF (pa_cons (pv 1) (pa_cons (pv 3) pa_nil))))
      (pss_cons (ps_set (i := 5) nd rfl (Or.inl rfl) (pe_call F_law_parts (hr.mono (by decide)) rfl m_law_parts k_law_parts b_law_parts .nil passF (pa_cons (pv 1) (pa_cons (pv 3) pa_nil))))
      (pss_cons (ps_setLc (own := [("_law_k", 13), ("_law_pair", 14)]) (g := (gTup K 2 (gCons (gName 13) (gCons (gName 14) gNil)))) (tt := tTest (tOp (rIn K true) (tVar 13) (tVar 4))) (i := 6) rfl nd rfl rfl (sw_true rfl rfl rfl (by decide +kernel)) (pi_enum rfl T.f_enumerate (pa_cons (pv 3) pa_nil)) (blkOk_by (own := [("_law_k", 13), ("_law_pair", 14)]) (N := N_law_stands) (sc := defScope s_law_stands) (by decide +kernel)) (fun _ _ _ _ _ => (pg_tup rfl (pgs_cons (pg_name (i := 13) nd rfl (Or.inl rfl)) (pgs_cons (pg_name (i := 14) nd rfl (Or.inl rfl)) pgs_nil)))) (fun _ _ _ _ _ => (pts_one (pt_cmpR op_notIn_seq (pv 13) (pv 4) (by with_unfolding_all rfl)))) (fun _ _ _ _ _ => (pv 14)))
      (pss_cons (ps_set (i := 7) nd rfl (Or.inl rfl) (pe_lst (pa_cons (pe_meth0 (pv 0) c_Town_streets M_Town_streets F_Town_streets (hr.mono (by decide)) b_Town_streets .nil passF) (pa_cons (pe_call F_parts (hr.mono (by decide)) rfl m_parts k_parts b_parts .nil passF (pa_cons (pv 0) pa_nil)) (pa_cons (pe_call F_parting (hr.mono (by decide)) rfl m_parting k_parting b_parting .nil passF (pa_cons (pv 0) pa_nil)) (pa_cons (pe_call F_pieces (hr.mono (by decide)) rfl m_pieces k_pieces b_pieces .nil passF (pa_cons (pv 0) pa_nil)) pa_nil))))))
      (pss_cons (ps_if (pt_cmpR (op_neD hr.units) (pv 7) (pe_lst (pa_cons (pv 2) (pa_cons (pv 5) (pa_cons (pe_lc (own := [("_law_k", 13)]) (g := (gName 13)) (te := tOp (rIxT K) (tOp (rIxL K) (tVar 2) (tVar 13)) (tC (.int 0))) rfl nd (pi_list (pv 4)) (blkOk_by (own := [("_law_k", 13)]) (N := N_law_stands) (sc := defScope s_law_stands) (by decide +kernel)) (fun _ _ _ _ _ => (pg_name (i := 13) nd rfl (Or.inl rfl))) (fun _ _ _ _ _ => pts_nil) (fun _ _ _ _ _ => (pe_ix ix_tup (pe_ix ix_list (pv 2) (pv 13) (fun _ _ => rfl)) pe_int (fun _ _ => rfl)))) (pa_cons (pe_call F_law_parts (hr.mono (by decide)) rfl m_law_parts k_law_parts b_law_parts .nil passF (pa_cons (pv 1) (pa_cons (pv 6) pa_nil))) pa_nil))))) (nomark _)) (pss_one (ps_ret pe_bl)) pss_nil)
      (pss_cons (ps_for (passes_of rfl) rfl (pi_list (pv 7)) (pg_name (i := 8) nd rfl (Or.inl rfl)) (pss_one (ps_expr (pe_bm PySem.F.plainAttrs_list PySem.F.slot_list_append PySem.F.type_list_append mt_append (pv 8) (pa_cons pe_str pa_nil)))))
      (pss_cons (ps_set (i := 9) nd rfl (Or.inl rfl) pe_non)
      (pss_cons (ps_set (i := 10) nd rfl (Or.inl rfl) pe_non)
      (pss_cons (ps_try_kept (i := 11) (j := 9) (c := .ref (gA K "Parted")) (fin := allOf 11 9) (out := fun cls d σ H => E cls d H) (tb := fun W => tAsg (tCallS (spOneWay fW K (gA K "Town")) (WE W) (tCons (tVar 0) tNil)) (gName 10)) rfl rfl nd rfl rfl rfl rfl ⟨rfl, by decide, .inl R.m_Parted⟩ rfl allOf_less (takes_of rfl rfl rfl rfl) (fun W pn xe tk _ => pss_one (ps_set (i := 10) nd rfl (Or.inl rfl) (pe_callS F_one_way (hr.mono (by decide)) rfl m_one_way k_one_way b_one_way (fun σ => passAt tk σ) (pa_cons (pv 0) pa_nil)))))
      (pss_cons (ps_if (PW.pt (pw_or (pt_cmpR (op_neD hr.units) (pv 4) (pe_lst pa_nil) (nomark _)) (pw_or1 (pt_cmpR op_gt (pe_callB call_len_seq rfl T.f_len PySem.boot_len (pa_cons (pv 5) pa_nil)) pe_int (nomark _))))) (pss_one (ps_ret (pe_and (pe_cmpR op_notN (pv 9) pe_non (nomark _)) (pe_and (pe_cmpR (op_eqD hr.units) (pe_kxf (pv 9)) (pe_lc (own := [("_law_k", 13)]) (g := (gName 13)) (te := tOp (rIxT K) (tOp (rIxL K) (tVar 2) (tVar 13)) (tC (.int 0))) rfl nd (pi_list (pv 4)) (blkOk_by (own := [("_law_k", 13)]) (N := N_law_stands) (sc := defScope s_law_stands) (by decide +kernel)) (fun _ _ _ _ _ => (pg_name (i := 13) nd rfl (Or.inl rfl))) (fun _ _ _ _ _ => pts_nil) (fun _ _ _ _ _ => (pe_ix ix_tup (pe_ix ix_list (pv 2) (pv 13) (fun _ _ => rfl)) pe_int (fun _ _ => rfl)))) (nomark _)) (pe_one (pe_cmpR (op_eqD hr.units) (pe_kxf (pv 9)) (pv 5) (nomark _))))))) pss_nil)
      (pss_one (ps_ret (pe_and (pe_cmpR op_notN (pv 10) pe_non (nomark _)) (pe_one (pe_call F_law_good (hr.mono (by decide)) rfl m_law_good k_law_good b_law_good .nil passF (pa_cons (pv 1) (pa_cons (pv 2) (pa_cons (pv 10) pa_nil))))))))))))))))))), ?_⟩
    have few60 := W.ok.few
    have rise := W.ok.rise
    have inm := town_inm W
    have m16 := W.pm.2
    have m1 := W.pm.1
    obtain ⟨vs, el, tv⟩ := tl
    have lvs : vs.length = rows.length := by rw [tups_len tv, List.length_map]
    have lenE : (ends rows).length = rows.length := List.length_map ..
    -- pairs
    refine ⟨_, rfl, l, rfl, ⟨vs, SqL.of el⟩, fun pl hpl => ?_⟩
    refine lc_it (walk_list (K := K) (xs := vs)) (fun i H' => ∃ zs, H' pl = some (.lst zs) ∧ Tups H' zs (((rows.take i).map (·.2)).map pairV) ∧ Same H H') ⟨[], upd_same, .nil, same_new hpl⟩ (fun _ _ _ ⟨_, _, _, z⟩ => SqL.of (z _ _ el)) ?_ ?_
    · rintro i x H8 H9 hi ⟨zs, e1, e2, sm⟩ ⟨rfl, hx⟩
      obtain ⟨t, xs, rfl, hxs, ht⟩ := tups_get tv hx
      obtain ⟨r, hr0⟩ : ∃ r, rows[i]? = some r := ⟨_, List.getElem?_eq_getElem (by omega)⟩
      rw [List.getElem?_map, hr0] at hxs
      cases hxs
      have lz : zs.length ≤ i := by
        rw [tups_len e2, List.length_map, List.length_map, List.length_take]
        omega
      refine ⟨rfl, _, rfl, _, rfl, t, _, rfl, SqT.of (sm _ _ ht), (fun z => absurd z.1 (by show ¬ HT.sIx 3 0 (some 1) = 0; decide)), fun q hq => ?_⟩
      have hc : cutV (rowV r) (some 1) none = pairV r.2 := cut_drop (rowV r) 1
      rw [hc]
      have ct := same_new (o := .tup (pairV r.2)) hq
      refine ⟨zs, ct _ _ e1, by rw [sizeLine_eq]; omega, zs ++ [V.ref q], upd_same, ?_, same_over hpl (sm.trans ct)⟩
      rw [take_snoc hr0, List.map_append, List.map_append]
      refine tups_snoc ?_ (tups_over (ct _ _ e1) (tups_ext (fun t xs e => ct _ _ e) e2))
      rw [upd_ne (ne_of (upd_same (H := H9) (a := q) (o := .tup (pairV r.2))) (ct _ _ e1) (by intro z; cases z))]
      exact upd_same
    rintro H1 ⟨zp, ep, tp, sm1⟩
    rw [List.take_of_length_le (by omega)] at tp
    have tlp : TL H1 pl ((ends rows).map pairV) := ⟨zp, ep, tp⟩
    have W1 := W.same sm1
    have tl1 : TL H1 l (rows.map rowV) := tl_same ⟨vs, el, tv⟩ sm1
    clear W el tv hpl ep tp
    dsimp only [gName]
    -- gone, due
    refine ⟨_, rfl, _, rfl, m, pl, ends rows, rfl, tlp, inm, m16, by omega, fun gn H2 hgn sm2 eG => ?_⟩
    rw [lenE] at eG
    refine ⟨_, rfl, _, rfl, m, pl, ends rows, rfl, tl_same tlp sm2, inm, m16, by omega, fun due zsD H3 hdue sm3 eD nD => ?_⟩
    have smA := (sm1.trans sm2).trans sm3
    have W3 := (W1.same sm2).same sm3
    have tl3 := tl_same (tl_same tl1 sm2) sm3
    have eG3 := sm3 _ _ eG
    obtain ⟨vp, elp, tvp⟩ := tl_same (tl_same tlp sm2) sm3
    have lvp : vp.length = rows.length := by rw [tups_len tvp, List.length_map, lenE]
    clear W1 tl1 tlp eG hgn hdue
    dsimp only [gName]
    refine nice (σ' := [some (.ref p), some (.int (m : Int)), some (.ref l), some (.ref pl), some (.ref gn), some (.ref due), none, none, none, none, none, none, none, none, none]) rfl ?_
    refine ⟨_, rfl, pl, vp, rfl, SqL.of elp, fun lf hlf => ?_⟩
    have cf := same_new (o := .lst []) hlf
    refine lc_it walk_enum (fun i H' => ∃ zs, H' lf = some (.lst zs) ∧ Tups H' zs ((ends ((rows.take i).filter fun q => !bridge rows q)).map pairV) ∧ Same H3 H') ⟨[], upd_same, .nil, cf⟩ (fun _ _ _ ⟨_, _, _, z⟩ => SqL.of (z _ _ elp)) ?_ ?_
    · rintro i x H7 H8 hi ⟨zs, e1, e2, sm⟩ ⟨t, y, z, rfl, ht, rfl, hy, hz⟩
      cases hy
      obtain ⟨r, hr0⟩ : ∃ r, rows[i]? = some r := ⟨_, List.getElem?_eq_getElem (by omega)⟩
      obtain ⟨u, xs, rfl, hxs, hu⟩ := tups_get tvp hz
      have hei : (ends rows)[i]? = some r.2 := by
        unfold ends
        rw [List.getElem?_map, hr0]
        rfl
      rw [List.getElem?_map, hei] at hxs
      cases hxs
      have ct := same_new (o := .tup [V.int (i : Int), V.ref u]) ht
      have lz : zs.length ≤ i := by
        rw [tups_len e2, List.length_map]
        unfold ends
        rw [List.length_map]
        exact Nat.le_trans (List.length_filter_le _ _) (by rw [List.length_take]; omega)
      refine ⟨t, _, rfl, SqT.of upd_same, rfl, _, _, rfl, _, _, rfl, rfl, rfl, ?_⟩
      have eG7 := ct _ _ (sm _ _ eG3)
      refine ⟨_, rfl, _, rfl, gn, _, rfl, .inl (SqL.of eG7), rfl, flat_nat _, ?_⟩
      have gd : decide (i ∈ goneOf m (ends rows) rows.length) = bridge rows r := by
        rw [← gone_key rise inm hr0]
        have z := gone_mem (m := m) (ps := ends rows) (n := rows.length) (i := i) (by omega)
        cases hb : decide ((partsOf m (ends rows)).length < (partsOf m ((ends rows).eraseIdx i)).length) with
        | true => exact decide_eq_true (z.mpr hb)
        | false =>
          refine decide_eq_false fun y => ?_
          have w := z.mp y
          rw [hb] at w
          cases w
      rw [inV_nat, gd, if_pos rfl]
      rw [take_snoc hr0, List.filter_append]
      have split : ends ((rows.take i).filter (fun q => !bridge rows q) ++ [r].filter fun q => !bridge rows q) = ends ((rows.take i).filter fun q => !bridge rows q) ++ ends ([r].filter fun q => !bridge rows q) := List.map_append ..
      rw [split, List.map_append]
      refine ⟨_, rfl, ?_⟩
      cases hb : bridge rows r with
      | true =>
        refine ⟨zs, ct _ _ e1, ?_, sm.trans ct⟩
        rw [List.filter_cons, if_neg (by rw [hb]; exact Bool.false_ne_true)]
        simpa [ends] using tups_ext (fun t xs e => ct _ _ e) e2
      | false =>
        refine ⟨_, rfl, zs, ct _ _ e1, by rw [sizeLine_eq]; omega, zs ++ [V.ref u], upd_same, ?_, same_over hlf (sm.trans ct)⟩
        rw [List.filter_cons, if_pos (by rw [hb]; rfl)]
        refine tups_snoc ?_ (tups_over (ct _ _ e1) (tups_ext (fun t xs e => ct _ _ e) e2))
        have hu7 := ct _ _ (sm _ _ hu)
        rw [upd_ne (ne_of hu7 (ct _ _ e1) (by intro z; cases z))]
        exact hu7
    · rintro H7 ⟨zsL, eL, tL, sm7⟩
      rw [List.take_of_length_le (by omega)] at tL
      have W7 := W3.same sm7
      have tl7 := tl_same tl3 sm7
      have eD7 := sm7 _ _ eD
      have nD7 : NewL H2 H7 due zsD (natL (partsOf m (ends rows))) := newL_ext (fun t ys _ _ e => sm7 _ _ e) nD
      have eG7 := sm7 _ _ eG3
      have tlF : TL H7 lf ((ends (rows.filter fun q => !bridge rows q)).map pairV) := ⟨zsL, eL, tL⟩
      have smB := smA.trans sm7
      clear W3 tl3 eD nD eG3 elp tvp hlf eL tL sm7
      dsimp only [gName]
      refine nice (σ' := [some (.ref p), some (.int (m : Int)), some (.ref l), some (.ref pl), some (.ref gn), some (.ref due), some (.ref lf), none, none, none, none, none, none, none, none]) rfl ?_
      -- what the town tells
      obtain ⟨dx, hp⟩ := W7.ob
      refine ⟨_, rfl, p, dx, _, rfl, hp, tF_no _ _ _ (by decide +kernel) (by decide +kernel) (by decide +kernel), p, d, m, rows, n, rfl, W7, fun sl H8 hsl sm8 tls => ?_⟩
      refine ⟨_, rfl, p, d, m, rows, n, rfl, W7.same sm8, fun pa zs1 H9 hpa sm9 ea n1 => ?_⟩
      refine ⟨_, rfl, p, d, m, rows, n, rfl, (W7.same sm8).same sm9, fun pb H10 hpb sm10 eb => ?_⟩
      refine ⟨_, rfl, p, d, m, rows, n, rfl, ((W7.same sm8).same sm9).same sm10, fun pc zs2 H11 hpc sm11 ec n2 => ?_⟩
      refine ⟨(by show 4 ≤ sizeLine; decide), fun fr hfr => ?_⟩
      have cF := same_new (o := .lst [V.ref sl, V.ref pa, V.ref pb, V.ref pc]) hfr
      have ef := upd_same (H := H11) (a := fr) (o := .lst [V.ref sl, V.ref pa, V.ref pb, V.ref pc])
      have nof : ∀ t o, H11 t = some o → t ≠ fr := fun t o e z => by
        rw [z, hfr] at e
        cases e
      obtain ⟨vsl, esl, tsl⟩ := tls
      have esl11 := sm11 _ _ (sm10 _ _ (sm9 _ _ esl))
      have ea11 := sm11 _ _ (sm10 _ _ ea)
      have eb11 := sm11 _ _ eb
      have nsl := nof _ _ esl11
      have npa := nof _ _ ea11
      have npb := nof _ _ eb11
      have npc := nof _ _ ec
      have sl12 : TL (upd H11 fr (.lst [V.ref sl, V.ref pa, V.ref pb, V.ref pc])) sl (rows.map rowV) := ⟨vsl, cF _ _ esl11, tups_ext (fun t xs e => cF _ _ (sm11 _ _ (sm10 _ _ (sm9 _ _ e)))) tsl⟩
      have ea12 := cF _ _ ea11
      have eb12 := cF _ _ eb11
      have ec12 := cF _ _ ec
      have n112 : NewL H8 (upd H11 fr (.lst [V.ref sl, V.ref pa, V.ref pb, V.ref pc])) pa zs1 (natL (partsOf m (ends rows))) := newL_ext (fun t ys _ _ e => cF _ _ (sm11 _ _ (sm10 _ _ e))) n1
      have n212 : NewL H10 (upd H11 fr (.lst [V.ref sl, V.ref pa, V.ref pb, V.ref pc])) pc zs2 (natL (piecesOf m rows)) := newL_ext (fun t ys _ _ e => cF _ _ e) n2
      have smC := (((sm8.trans sm9).trans sm10).trans sm11).trans cF
      have fsl : H7 sl = none := hsl
      have fpa : H7 pa = none := sm8.free hpa
      have fpb : H7 pb = none := sm8.free (sm9.free hpb)
      have fpc : H7 pc = none := sm8.free (sm9.free (sm10.free hpc))
      clear hsl hpa hpb hpc hfr nof esl esl11 ea11 eb11 ea eb ec n1 n2 tsl sm8 sm9 sm10 sm11 cF
      generalize upd H11 fr (.lst [V.ref sl, V.ref pa, V.ref pb, V.ref pc]) = H12 at *
      dsimp only [gName]
      refine nice (σ' := [some (.ref p), some (.int (m : Int)), some (.ref l), some (.ref pl), some (.ref gn), some (.ref due), some (.ref lf), some (.ref fr), none, none, none, none, none, none, none]) rfl ?_
      have fewF : (ends (rows.filter fun q => !bridge rows q)).length ≤ 60 := by
        unfold ends
        rw [List.length_map]
        exact Nat.le_trans (List.length_filter_le _ _) few60
      have inF : ∀ q ∈ ends (rows.filter fun q => !bridge rows q), q.1 < m ∧ q.2 < m := fun q hq => by
        obtain ⟨y, hy, rfl⟩ := List.mem_map.mp hq
        exact inm _ (List.mem_map.mpr ⟨y, (List.mem_filter.mp hy).1, rfl⟩)
      have ep : partsOf m (ends (rows.filter fun q => !bridge rows q)) = piecesOf m rows := by
        unfold piecesOf
        rw [left_rows]
      refine ⟨_, rfl, _, rfl, _, rfl, nums_lc (smC _ _ eG7) (tl_same tl7 smC) rise inm few60 fun D0 H13 hD0 sm13 e13 => ?_⟩
      refine ⟨_, rfl, _, rfl, m, lf, _, rfl, tl_same (tl_same tlF smC) sm13, inF, m16, fewF, fun r2 zs3 H14 hr14 sm14 er14 nz14 => ?_⟩
      rw [ep] at nz14
      refine ⟨(by show 4 ≤ sizeLine; decide), fun F2 hF2 => ?_⟩
      have c15 := same_new (o := .lst [V.ref l, V.ref due, V.ref D0, V.ref r2]) hF2
      have smD := (sm13.trans sm14).trans c15
      have dL : Dp K (upd H14 F2 (.lst [V.ref l, V.ref due, V.ref D0, V.ref r2])) (.ref F2) (standD rows (partsOf m (ends rows)) (piecesOf m rows) ((rows.filter (bridge rows)).map (·.1))) :=
        .lst (SqL.of upd_same) (.cons (dp_town (tl_same (tl_same tl7 smC) smD)) (.cons (dp_parts (smD _ _ (smC _ _ eD7)) (newL_ext (fun t ys _ _ e => smD _ _ (smC _ _ e)) nD7)) (.cons (dp_nat (c15 _ _ (sm14 _ _ e13))) (.cons (dp_parts (c15 _ _ er14) (newL_ext (fun t ys _ _ e => c15 _ _ e) nz14)) .nil))))
      have dF : Dp K (upd H14 F2 (.lst [V.ref l, V.ref due, V.ref D0, V.ref r2])) (.ref fr) (standD rows (partsOf m (ends rows)) (piecesOf m rows) ((rows.filter (bridge rows)).map (·.1))) :=
        .lst (SqL.of (smD _ _ ef)) (.cons (dp_town (tl_same sl12 smD)) (.cons (dp_parts (smD _ _ ea12) (newL_ext (fun t ys _ _ e => smD _ _ e) n112)) (.cons (dp_nat (smD _ _ eb12)) (.cons (dp_parts (smD _ _ ec12) (newL_ext (fun t ys _ _ e => smD _ _ e) n212)) .nil))))
      have ly := lay_stand rows (partsOf m (ends rows)) (piecesOf m rows) ((rows.filter (bridge rows)).map (·.1))
      refine ⟨_, _, dF, dL, ly.shaped (by decide), ly.shaped (by decide), ?_⟩
      rw [ly.eqv]
      refine ⟨_, rfl, ?_⟩
      have smE := smC.trans smD
      have ef15 := smD _ _ ef
      obtain ⟨v1, esl15, tsl15⟩ := tl_same sl12 smD
      have l1 : v1.length ≤ 60 := by
        rw [tups_len tsl15, List.length_map]
        exact few60
      have l2 : zs1.length ≤ 16 := by
        rw [Paired.length n112]
        unfold natL
        rw [List.length_map]
        exact Nat.le_trans parts_len m16
      have l3 : (((rows.filter (bridge rows)).map (·.1)).map natV).length ≤ 60 := by
        rw [List.length_map, List.length_map]
        exact Nat.le_trans (List.length_filter_le _ _) few60
      have l4 : zs2.length ≤ 16 := by
        rw [Paired.length n212]
        unfold natL piecesOf
        rw [List.length_map]
        exact Nat.le_trans parts_len m16
      have ea15 := smD _ _ ea12
      have eb15 := smD _ _ eb12
      have ec15 := smD _ _ ec12
      generalize upd H14 F2 (.lst [V.ref l, V.ref due, V.ref D0, V.ref r2]) = H15 at *
      clear dL dF ly smD c15 hF2 nz14 er14 e13 hr14 sm14 hD0 sm13 sl12 ea12 eb12 ec12 n112 n212 tsl15 smC ef
      -- the told lists are changed
      refine ⟨_, rfl, fr, rfl, ⟨_, SqL.of ef15⟩, for_it walk_list (fun i σ H' => ∃ (u8 : Option V), σ = [some (.ref p), some (.int (m : Int)), some (.ref l), some (.ref pl), some (.ref gn), some (.ref due), some (.ref lf), some (.ref fr), u8, none, none, none, none, none, none] ∧ Same H7 H' ∧ H' fr = some (.lst [V.ref sl, V.ref pa, V.ref pb, V.ref pc]) ∧ ∀ x ∈ [V.ref sl, V.ref pa, V.ref pb, V.ref pc], ∃ t ys, x = V.ref t ∧ H7 t = none ∧ t ≠ fr ∧ H' t = some (.lst ys) ∧ ys.length ≤ 60 + i) ⟨none, rfl, smE, ef15, ?start⟩ (fun _ _ _ _ ⟨_, _, _, z, _⟩ => SqL.of z) ?_ ?_⟩
      case start =>
        intro x hx
        simp only [List.mem_cons, List.not_mem_nil, or_false] at hx
        rcases hx with rfl | rfl | rfl | rfl
        · exact ⟨_, _, rfl, fsl, nsl, esl15, by omega⟩
        · exact ⟨_, _, rfl, fpa, npa, ea15, by omega⟩
        · exact ⟨_, _, rfl, fpb, npb, eb15, by omega⟩
        · exact ⟨_, _, rfl, fpc, npc, ec15, by omega⟩
      · rintro i x σ H16 H17 hi ⟨u8, rfl, sm16, ef16, all⟩ ⟨rfl, hx⟩
        obtain ⟨t, ys, rfl, tz, tn, ht, ly⟩ := all x (List.mem_of_getElem? hx)
        have li : i < 4 := hi
        refine ⟨_, rfl, .inl ⟨rfl, _, SqL.of ht⟩, t, ys, _, rfl, rfl, ht, by rw [sizeLine_eq]; omega, _, rfl, same_over tz sm16, by rw [upd_ne tn.symm]; exact ef16, fun y hy => ?_⟩
        obtain ⟨t2, ys2, e2, z2, n3, ht2, ly2⟩ := all y hy
        by_cases hb : t2 = t
        · exact ⟨t2, _, e2, z2, n3, by rw [hb]; exact upd_same, by rw [List.length_append]; show ys.length + 1 ≤ _; omega⟩
        · exact ⟨t2, ys2, e2, z2, n3, by rw [upd_ne hb]; exact ht2, by omega⟩
      · rintro σ H16 ⟨u8, rfl, sm16, _⟩
        have W16 := W7.same sm16
        have tl16 := tl_same tl7 sm16
        have eD16 := sm16 _ _ eD7
        have nD16 : NewL H2 H16 due zsD (natL (partsOf m (ends rows))) := newL_ext (fun t ys _ _ e => sm16 _ _ e) nD7
        have eG16 := sm16 _ _ eG7
        have smZ := smB.trans sm16
        clear W7 tl7 eD7 nD7 eG7 tlF sm16 smB smA esl15 ea15 eb15 ec15 ef15 smE fsl fpa fpb fpc nsl npa npb npc l1 l2 l3 l4
        have lD : zsD.length = (partsOf m (ends rows)).length := by
          rw [Paired.length nD16]
          unfold natL
          rw [List.length_map]
        have ie : (goneOf m (ends rows) rows.length).isEmpty = (rows.filter (bridge rows)).isEmpty := by
          have z := gone_nums (m := m) rise inm rows.length (Nat.le_refl _)
          rw [List.take_length] at z
          have y := congrArg List.isEmpty z
          rw [List.isEmpty_map, List.isEmpty_map] at y
          exact y
        refine ⟨_, rfl, p, d, m, rows, n, rfl, W16, fun can r H17 hr17 sm17 tlw => ?ok, fun cant dd b c zs H17 hdd hb hc nbd ncd nbc sm17 edd eb ec n1 => ⟨true, R.exPP, fun _ e ha => ?bad, fun z => Bool.noConfusion z⟩⟩
        case ok =>
          have eG17 := sm17 _ _ eG16
          have eD17 := sm17 _ _ eD16
          have hempty : (rows.filter (bridge rows)).isEmpty = true := by
            unfold canB at can
            rw [Bool.and_eq_true] at can
            exact can.2
          have hone : (partsOf m (ends rows)).length = 1 := by
            unfold canB at can
            rw [Bool.and_eq_true] at can
            exact of_decide_eq_true can.1
          have hg := FW.good m rows n W16.ok m1 m16 can
          refine ⟨_, rfl, (by show 0 ≤ sizeLine; decide), fun e1 he1 => ?_⟩
          have c18 := same_new (o := .lst []) he1
          refine ⟨_, _, dp_nat0 (c18 _ _ eG17), .lst (SqL.of upd_same) .nil, (lay_nat0 _).shaped (by decide), by decide, ?_⟩
          rw [eqv_nat0, ie, hempty]
          refine ⟨_, rfl, ?_⟩
          have dl : decide ((1 : Int) < (zsD.length : Int)) = false := decide_eq_false (by rw [lD, hone]; decide)
          refine ⟨_, rfl, due, zsD, rfl, .inl (SqL.of (c18 _ _ eD17)), _, _, rfl, rfl, _, rfl, if_no dl ?_⟩
          -- good ways
          have smW := sm17.trans c18
          refine ⟨_, rfl, rfl, _, rfl, ?_⟩
          refine ⟨_, rfl, _, rfl, _, rfl, m, l, r, rows, fW m rows, rfl, tl_same tl16 smW, tl_same tlw c18, good_in hg inm, m1, m16, few60, by rw [good_len hg]; exact few60, fun H19 sm19 => ?_⟩
          rw [hg]
          exact k H19 ((smZ.trans smW).trans sm19)
        case bad =>
          have ca := same_new (o := ExK (.ref (gA K "Parted")) (some dd) e) ha
          have ea := upd_same (H := H17) (a := e) (o := ExK (.ref (gA K "Parted")) (some dd) e)
          generalize upd H17 e (ExK (.ref (gA K "Parted")) (some dd) e) = H18 at *
          have smV := sm17.trans ca
          have lB : (("between" : Str) == ("apart" : Str)) = false := by decide +kernel
          refine (fun (rest : ∀ H19, Same H18 H19 → (_ : Hp → Prop) H19) => ⟨_, rfl, (by show 0 ≤ sizeLine; decide), fun e1 he1 => ⟨_, _, dp_nat0 ((same_new he1) _ _ (smV _ _ eG16)), .lst (SqL.of upd_same) .nil, (lay_nat0 _).shaped (by decide), by decide, _, rfl, if_both (fun c => rest _ (same_new he1)) (fun c0 => ⟨_, rfl, due, zsD, rfl, .inl (SqL.of ((same_new he1) _ _ (smV _ _ eD16))), _, _, rfl, rfl, _, rfl, if_both (fun c2 => rest _ (same_new he1)) (fun c2 => ?no)⟩)⟩⟩) ?rest
          case no =>
            exfalso
            rw [eqv_nat0, ie] at c0
            have ge : 1 ≤ (partsOf m (ends rows)).length := (List.getElem?_eq_some_iff.mp (heads_zero (ps := ends rows) m1)).1
            have nlt := of_decide_eq_false c2
            have hempty : (rows.filter (bridge rows)).isEmpty = true := by
              cases z : (rows.filter (bridge rows)).isEmpty with
              | true => rfl
              | false =>
                rw [z] at c0
                cases c0
            unfold canB at cant
            rw [hempty, decide_eq_true (show (partsOf m (ends rows)).length = 1 by omega)] at cant
            cases cant
          case rest =>
            intro H19 sm19
            have ea19 := sm19 _ _ ea
            have edd19 := sm19 _ _ (ca _ _ edd)
            have eb19 := sm19 _ _ (ca _ _ eb)
            have ec19 := sm19 _ _ (ca _ _ ec)
            have n19 : NewL H16 H19 c zs (natL (partsOf m (ends rows))) := newL_ext (fun t ys _ _ e => sm19 _ _ (ca _ _ e)) n1
            refine ⟨_, rfl, rfl, _, rfl, ?_⟩
            refine ⟨_, rfl, e, _, dd, _, _, rfl, R.xf, R.nb, ea19, edd19, (at_past lB).trans at_here, ?_⟩
            refine nums_lc (sm19 _ _ (smV _ _ eG16)) (tl_same (tl_same tl16 smV) sm19) rise inm few60 fun r H20 hr20 sm20 e20 => ?_
            refine ⟨_, _, dp_nat (sm20 _ _ eb19), dp_nat e20, (lay_nat _).shaped (by decide), (lay_nat _).shaped (by decide), ?_⟩
            rw [(lay_nat _).eqv]
            refine ⟨_, rfl, ?_⟩
            refine ⟨_, rfl, e, _, dd, _, _, rfl, R.xf, R.na, sm20 _ _ ea19, sm20 _ _ edd19, at_here, _, rfl, ?_⟩
            refine ⟨_, _, dp_parts (sm20 _ _ ec19) (newL_ext (fun t ys _ _ e => sm20 _ _ e) n19), dp_parts (sm20 _ _ (sm19 _ _ (smV _ _ eD16))) (newL_ext (fun t ys _ _ e => sm20 _ _ (sm19 _ _ (smV _ _ e))) nD16), (lay_parts _).shaped (by decide), (lay_parts _).shaped (by decide), ?_⟩
            rw [(lay_parts _).eqv]
            exact k H20 (((smZ.trans smV).trans sm19).trans sm20)
end
end K05

set_option Elab.async false
set_option linter.all false
set_option maxRecDepth 100000
set_option maxHeartbeats 4000000
namespace K05
open PySem PySem.Spec PyProof.Rows L2 Own
/-! ### the law, deed by deed -/
def spLaw (K : PySem.W.Frag) (T : List (Addr × Str)) : Sp := fun vs H Q _ => ∃ (a : Addr) (ns : List Int), vs = [.ref a] ∧ SqL K H a (ns.map V.int) ∧ (∀ z ∈ ns, Fit z) ∧ ns.length ≤ 63 ∧ LamX.Tabs T H ∧ ∀ H', Q (.bl true) H'
theorem seq_nat {k n : Nat} (h : k < n) : seqIndex? (k : Int) n = some k := by
  have e : (if (k : Int) < 0 then (k : Int) + (n : Int) else (k : Int)) = (k : Int) := if_neg (by omega)
  unfold seqIndex?
  dsimp only
  rw [e, if_pos (by simp [h])]
  rfl
theorem map_erase {α β : Type} (f : α → β) : ∀ (l : List α) (k : Nat), (l.eraseIdx k).map f = (l.map f).eraseIdx k
  | [], _ => rfl
  | _ :: _, 0 => rfl
  | x :: l, k + 1 => by
    show f x :: (l.eraseIdx k).map f = f x :: (l.map f).eraseIdx k
    rw [map_erase f l k]
theorem erase_filter : ∀ {rows : List TRow} {k : Nat} {r : TRow}, rows.Pairwise (fun a b => a.1 < b.1) → rows[k]? = some r → rows.eraseIdx k = rows.filter fun q => decide (q.1 ≠ r.1)
  | [], _, _, _, h => by simp at h
  | x :: rows, 0, r, p, h => by
    simp at h
    subst h
    obtain ⟨p1, p2⟩ := List.pairwise_cons.mp p
    have e : decide (x.1 ≠ x.1) = false := decide_eq_false (p := x.1 ≠ x.1) (fun y => y rfl)
    rw [List.filter_cons, e, if_neg Bool.false_ne_true]
    show rows = _
    exact (List.filter_eq_self.mpr fun q hq => by
      rw [decide_eq_true_iff]
      intro e
      have := p1 q hq
      omega).symm
  | x :: rows, k + 1, r, p, h => by
    obtain ⟨p1, p2⟩ := List.pairwise_cons.mp p
    have h : rows[k]? = some r := by simpa using h
    have ne : x.1 ≠ r.1 := fun e => by have := p1 r (List.mem_of_getElem? h); omega
    rw [List.filter_cons, if_pos (decide_eq_true ne)]
    show x :: rows.eraseIdx k = _
    rw [erase_filter p2 h]
theorem town_keeps {C : Addr} {H H' : Hp} {p d p2 d2 : Addr} {m m2 : Nat} {rows rows2 : List TRow} {n n2 : Nat} (W : TownAt C H p d m rows n) (k : Keeps H H' p d) (W2 : TownAt C H p2 d2 m2 rows2 n2) (np : p2 ≠ p) (nd : d2 ≠ d) : TownAt C H' p2 d2 m2 rows2 n2 := by
  obtain ⟨x, h1⟩ := W2.ob
  obtain ⟨kvs, h2, h3⟩ := W2.dc
  obtain ⟨y, g1⟩ := W.ob
  obtain ⟨kv, g2, _⟩ := W.dc
  exact ⟨⟨x, k _ _ h1 np (ne_of h1 g2 (by intro z; cases z))⟩, ⟨kvs, k _ _ h2 (ne_of h2 g1 (by intro z; cases z)) nd, ents_ext (fun t xs e => keeps_tups W k t xs e) h3⟩, W2.ok, W2.pm⟩
theorem eqv_rows_nil (rows : List TRow) : PyData.eqv (.list (rows.map rowD)) (.list []) = rows.isEmpty := by
  cases rows <;> rfl
abbrev s_law : Stmt := top 42
abbrev N_law : List Str := ["_law_script", "_law_seed_here", "_law_many_here", "_law_town", "_law_other_town", "_law_rows", "_law_way", "_law_had", "_law_k", "_law_cell", "_law_number", "_law_row", "_law_one", "_law_other"]
theorem sc_law : FnScope N_law ["_law_script"] (defScope s_law) := ⟨rfl, rfl, rfl, by decide +kernel, rfl, by decide +kernel, by decide +kernel⟩
section
variable {P : Program} {w : World} {K : PySem.W.Frag} {mg : Str → Option Value} {base : Heap} {f : Addr} {fd : FuncData}
theorem ok_law {T_ : List (Addr × Str)} (T : TxtL mg) (D : FnP K "law" "law" s_law f fd) (c_law_mixed : CalX P w K mg base 1 "_law_mixed" spMixed)
    (c_law_seed : CalX P w K mg base 2 "_law_seed" (spSeed K)) (c_law_many : CalX P w K mg base 2 "_law_many" spMany) (c_law_ends : CalX P w K mg base 1 "_law_ends" spEnds) (c_law_stands : CalX P w K mg base 10 "_law_stands" (spStands (gA K "Town")))
    (c_Town : MakX P w K mg base 2 "Town" (gA K "Town") (spInit K (gA K "Town"))) (c_Town_build : MetX P w K mg base 2 (gA K "Town") "build" (spBuild K (gA K "Town"))) (c_Town_dig : MetX P w K mg base 2 (gA K "Town") "dig" (spDig K (gA K "Town")))
    (c_Town_streets : MetX P w K mg base 1 (gA K "Town") "streets" (spStreets (gA K "Town"))) : FnOk P w K mg base (L2.CX P w) 12 f fd ["_law_script"] (spLaw K T_) := by
  have nd := sc_law.nd
  refine D.ok sc_law (fun vs H Q E h => ?_) (fun cdv A outer s H vs Q E hr h => ?_)
  · obtain ⟨a, ns, rfl, _⟩ := h
    rfl
  · obtain ⟨a, ns, rfl, hS, fits, few, tabs, kend⟩ := h
    obtain ⟨f_law_mixed, fd_law_mixed, ps_law_mixed, F_law_mixed, m_law_mixed, k_law_mixed, b_law_mixed⟩ := c_law_mixed.ex
    obtain ⟨f_law_seed, fd_law_seed, ps_law_seed, F_law_seed, m_law_seed, k_law_seed, b_law_seed⟩ := c_law_seed.ex
    obtain ⟨f_law_many, fd_law_many, ps_law_many, F_law_many, m_law_many, k_law_many, b_law_many⟩ := c_law_many.ex
    obtain ⟨f_law_ends, fd_law_ends, ps_law_ends, F_law_ends, m_law_ends, k_law_ends, b_law_ends⟩ := c_law_ends.ex
    obtain ⟨f_law_stands, fd_law_stands, ps_law_stands, F_law_stands, m_law_stands, k_law_stands, b_law_stands⟩ := c_law_stands.ex
    obtain ⟨f_Town, fd_Town, ps_Town, M_Town, F_Town, m_Town, b_Town⟩ := c_Town.ex
    obtain ⟨f_Town_build, fd_Town_build, ps_Town_build, c_Town_build, M_Town_build, F_Town_build, b_Town_build⟩ := c_Town_build.ex
    obtain ⟨f_Town_dig, fd_Town_dig, ps_Town_dig, c_Town_dig, M_Town_dig, F_Town_dig, b_Town_dig⟩ := c_Town_dig.ex
    obtain ⟨f_Town_streets, fd_Town_streets, ps_Town_streets, c_Town_streets, M_Town_streets, F_Town_streets, b_Town_streets⟩ := c_Town_streets.ex
    refine ⟨_, (pss_cons (ps_set (i := 1) nd rfl (Or.inl rfl) (pe_call F_law_seed (hr.mono (by decide)) rfl m_law_seed k_law_seed b_law_seed .nil passF (pa_cons (pv 0) pa_nil)))
      (pss_cons (ps_set (i := 2) nd rfl (Or.inl rfl) (pe_call F_law_many (hr.mono (by decide)) rfl m_law_many k_law_many b_law_many .nil passF (pa_cons (pv 1) (pa_cons pe_int pa_nil))))
      (pss_cons (ps_set (i := 3) nd rfl (Or.inl rfl) (pe_make M_Town F_Town (hr.mono (by decide)) rfl m_Town b_Town .nil passF (pa_cons (pv 2) pa_nil)))
      (pss_cons (ps_set (i := 4) nd rfl (Or.inl rfl) (pe_make M_Town F_Town (hr.mono (by decide)) rfl m_Town b_Town .nil passF (pa_cons (pv 2) pa_nil)))
      (pss_cons (ps_set (i := 5) nd rfl (Or.inl rfl) (pe_lst pa_nil))
      (pss_cons (ps_set (i := 6) nd rfl (Or.inl rfl) (pe_op op_mod (pe_call F_law_mixed (hr.mono (by decide)) rfl m_law_mixed k_law_mixed b_law_mixed .nil passF (pa_cons (pv 1) (pa_cons pe_int pa_nil))) pe_int))
      (pss_cons (ps_set (i := 7) nd rfl (Or.inl rfl) pe_int)
      (pss_cons (ps_for (passes_of rfl) rfl (pi_enum rfl T.f_enumerate (pa_cons (pe_slice sl_list (pv 0) po_none (po_some pe_int)) pa_nil)) (pg_tup rfl (pgs_cons (pg_name (i := 8) nd rfl (Or.inl rfl)) (pgs_cons (pg_name (i := 9) nd rfl (Or.inl rfl)) pgs_nil))) (pss_cons (ps_set (i := 10) nd rfl (Or.inl rfl) (pe_call F_law_mixed (hr.mono (by decide)) rfl m_law_mixed k_law_mixed b_law_mixed .nil passF (pa_cons (pv 9) (pa_cons (pe_op op_add pe_int (pe_op op_mod (pv 8) pe_int)) pa_nil))))
      (pss_cons (ps_if (PW.pt (pw_and (pt_cmpR (op_neD hr.units) (pv 5) (pe_lst pa_nil) (nomark _)) (pw_and1 (PW.pt (pw_or (pt_cmpR op_lt (pe_op op_mod (pv 10) pe_int) pe_int (nomark _)) (pw_or (pt_cmpR op_gt (pe_callB call_len_seq rfl T.f_len PySem.boot_len (pa_cons (pv 5) pa_nil)) pe_int (nomark _)) (pw_or1 (pt_cmpR op_eq (pv 2) pe_int (nomark _))))))))) (pss_cons (ps_set (i := 11) nd rfl (Or.inl rfl) (pe_bm PySem.F.plainAttrs_list PySem.F.slot_list_pop PySem.F.type_list_pop mt_popAt (pv 5) (pa_cons (pe_op op_mod (pe_op op_fdiv (pv 10) pe_int) (pe_callB call_len_seq rfl T.f_len PySem.boot_len (pa_cons (pv 5) pa_nil))) pa_nil)))
      (pss_one (ps_if (pt_cmpR op_notN (pe_meth (pv 3) c_Town_dig M_Town_dig F_Town_dig (hr.mono (by decide)) b_Town_dig .nil passF (pa_cons (pe_ix ix_tup (pv 11) pe_int (fun _ _ => rfl)) pa_nil)) pe_non (nomark _)) (pss_one (ps_ret pe_bl)) pss_nil))) (pss_one (ps_if (pt_cmpR op_gt (pv 2) pe_int (nomark _)) (pss_cons (ps_asg (pe_call F_law_ends (hr.mono (by decide)) rfl m_law_ends k_law_ends b_law_ends .nil passF (pa_cons (pv 2) (pa_cons (pv 6) (pa_cons (pv 8) (pa_cons (pe_op op_fdiv (pv 10) pe_int) pa_nil))))) (pg_tup rfl (pgs_cons (pg_name (i := 12) nd rfl (Or.inl rfl)) (pgs_cons (pg_name (i := 13) nd rfl (Or.inl rfl)) pgs_nil))))
      (pss_cons (ps_if (pt_cmpR op_ne (pe_meth (pv 3) c_Town_build M_Town_build F_Town_build (hr.mono (by decide)) b_Town_build .nil passF (pa_cons (pv 12) (pa_cons (pv 13) pa_nil))) (pv 7) (nomark _)) (pss_one (ps_ret pe_bl)) pss_nil)
      (pss_cons (ps_expr (pe_bm PySem.F.plainAttrs_list PySem.F.slot_list_append PySem.F.type_list_append mt_append (pv 5) (pa_cons (pe_tup (pa_cons (pv 7) (pa_cons (pv 12) (pa_cons (pv 13) pa_nil)))) pa_nil)))
      (pss_one (ps_set (i := 7) nd rfl (Or.inl rfl) (pe_op op_add (pv 7) pe_int)))))) pss_nil)))
      (pss_one (ps_if (pt_not (pt_val (pe_call F_law_stands (hr.mono (by decide)) rfl m_law_stands k_law_stands b_law_stands .nil passF (pa_cons (pv 3) (pa_cons (pv 2) (pa_cons (pv 5) pa_nil)))))) (pss_one (ps_ret pe_bl)) pss_nil)))))
      (pss_one (ps_ret (pe_and (pe_cmpR (op_eqD hr.units) (pe_meth0 (pv 4) c_Town_streets M_Town_streets F_Town_streets (hr.mono (by decide)) b_Town_streets .nil passF) (pe_lst pa_nil) (nomark _)) (pe_one (pe_call F_law_stands (hr.mono (by decide)) rfl m_law_stands k_law_stands b_law_stands .nil passF (pa_cons (pv 4) (pa_cons (pv 2) (pa_cons (pe_lst pa_nil) pa_nil)))))))))))))))), ?_⟩
    refine ⟨_, rfl, a, ns, rfl, hS, fits, fun seed H1 s0 s1 sm1 => ?_⟩
    have fseed : Fit seed := fit_range s0 (by omega)
    refine ⟨_, rfl, seed, 9, rfl, fseed, by decide, fun m H2 m1 m9 sm2 => ?_⟩
    have hS2 := sm2.seq (sm1.seq hS)
    clear hS sm1 sm2 tabs
    refine ⟨_, rfl, fun p dx np ndx nep => ?_⟩
    refine ⟨p, dx, _, rfl, upd_same, ⟨"int", rfl⟩, fun z => ?_, fun m' em _ _ d H3 hd W kp => ⟨rfl, ?_⟩⟩
    · rw [isW_true (by omega) (by omega)] at z
      cases z
    have em' : m' = m := (Int.ofNat.inj (V.int.inj em)).symm
    subst em'
    have sm3 : Same H2 H3 := Same.made np ndx kp
    have hS3 := sm3.seq hS2
    clear hS2 kp hd ndx np nep sm3 H2 H1
    refine ⟨_, rfl, fun p2 dx2 np2 ndx2 nep2 => ?_⟩
    refine ⟨p2, dx2, _, rfl, upd_same, ⟨"int", rfl⟩, fun z => ?_, fun m2 em2 _ _ d2 H4 hd2 W2 kp2 => ⟨rfl, ?_⟩⟩
    · rw [isW_true (by omega) (by omega)] at z
      cases z
    have em2' : m2 = m' := (Int.ofNat.inj (V.int.inj em2)).symm
    subst em2'
    have n22 : p2 ≠ p := fun z => by
      obtain ⟨x, e⟩ := W.ob
      rw [← z, np2] at e
      cases e
    have nd2 : d2 ≠ d := fun z => by
      obtain ⟨kv, e, _⟩ := W.dc
      obtain ⟨_, y1⟩ := upd_none hd2
      obtain ⟨_, y2⟩ := upd_none y1
      rw [← z, y2] at e
      cases e
    have sm4 : Same H3 H4 := Same.made np2 ndx2 kp2
    have hS4 := sm4.seq hS3
    have W4 := W.same sm4
    clear hS3 kp2 hd2 ndx2 np2 nep2 sm4 W H3
    refine ⟨(by show 0 ≤ sizeLine; decide), fun L hL => ?_⟩
    have cL := same_new (o := .lst []) hL
    have eL := upd_same (H := H4) (a := L) (o := .lst [])
    have hS5 := cL.seq hS4
    have W5 := W4.same cL
    have V5 := W2.same cL
    generalize upd H4 L (.lst []) = H5 at *
    clear hL cL hS4 W4 W2 H4
    dsimp only [gName]
    refine nice (σ' := [some (.ref a), some (.int seed), some (.int (m2 : Int)), some (.ref p), some (.ref p2), some (.ref L), none, none, none, none, none, none, none, none]) rfl ?_
    refine ⟨_, rfl, seed, 1, rfl, fseed, by omega, by omega, fun r r0 r1 => ⟨_, _, rfl, rfl, (by show (0 : Int) < 5; decide), ?_⟩⟩
    dsimp only [gName]
    refine ⟨_, rfl, _, rfl, a, _, rfl, hS5, fun S hS0 => ?_⟩
    have ecut : cutV (ns.map V.int) none (some 200) = ns.map V.int := by
      have z := cut_take (ns.map V.int) 200
      rw [List.take_of_length_le (by rw [List.length_map]; omega)] at z
      exact z
    rw [ecut]
    have cS := same_new (o := .lst (ns.map V.int)) hS0
    have eS := upd_same (H := H5) (a := S) (o := .lst (ns.map V.int))
    have eL6 := cS _ _ eL
    have W6 := W5.same cS
    have V6 := V5.same cS
    have nSL : S ≠ L := fun z => by
      rw [z, eL] at hS0
      cases hS0
    generalize upd H5 S (.lst (ns.map V.int)) = H6 at *
    clear hS0 cS eL W5 V5 hS5 H5
    refine ⟨S, _, rfl, SqL.of eS, for_it walk_enum (fun i σ H' => ∃ (rows : List TRow) (n : Nat) (u8 u9 u10 u11 u12 u13 : Option V), σ = [some (.ref a), some (.int seed), some (.int (m2 : Int)), some (.ref p), some (.ref p2), some (.ref L), some (.int (r % 5)), some (.int (n : Int)), u8, u9, u10, u11, u12, u13] ∧ TownAt (gA K "Town") H' p d m2 rows n ∧ TownAt (gA K "Town") H' p2 d2 m2 [] 0 ∧ TL H' L (rows.map rowV) ∧ rows.length ≤ 25 ∧ H' S = some (.lst (ns.map V.int)))
      ⟨[], 0, none, none, none, none, none, none, rfl, W6, V6, ⟨[], eL6, .nil⟩, by decide, eS⟩ (fun i σ H' _ ⟨_, _, _, _, _, _, _, _, _, _, _, _, _, z⟩ => SqL.of z) ?_ ?_⟩
    · rintro i x σ H7 H8 hi ⟨rows, n, u8, u9, u10, u11, u12, u13, rfl, W7, V7, tl7, few7, eS7⟩ ⟨t, ka, za, rfl, ht, rfl, hk, hz⟩
      cases hk
      obtain ⟨z, hz1, rfl⟩ := int_item hz
      have fz := fits z (List.mem_of_getElem? hz1)
      have ct := same_new (o := .tup [.int (i : Int), .int z]) ht
      have et := upd_same (H := H7) (a := t) (o := .tup [.int (i : Int), .int z])
      have W8 := W7.same ct
      have V8 := V7.same ct
      have tl8 := tl_same tl7 ct
      have eS8 := ct _ _ eS7
      refine ⟨t, _, rfl, SqT.of et, rfl, _, _, rfl, _, _, rfl, rfl, ?_⟩
      generalize upd H7 t (.tup [.int (i : Int), .int z]) = H9 at *
      clear ct et ht W7 V7 tl7 eS7 hz
      have r50 := emod_lt (i := (i : Int)) (m := 50) (by decide)
      refine ⟨_, rfl, _, rfl, _, _, rfl, rfl, (by show (0 : Int) < 50; decide), _, _, rfl, rfl, z, _, rfl, fz, by omega, by omega, fun num n0 n1 => ?_⟩
      dsimp only [gName]
      refine nice (σ' := [some (.ref a), some (.int seed), some (.int (m2 : Int)), some (.ref p), some (.ref p2), some (.ref L), some (.int (r % 5)), some (.int (n : Int)), some (.int (i : Int)), some (.int z), some (.int num), u11, u12, u13]) rfl ?_
      refine at_seqP (fun σ' H' => ∃ (rows : List TRow) (n : Nat) (u11 u12 u13 : Option V), σ' = [some (.ref a), some (.int seed), some (.int (m2 : Int)), some (.ref p), some (.ref p2), some (.ref L), some (.int (r % 5)), some (.int (n : Int)), some (.int (i : Int)), some (.int z), some (.int num), u11, u12, u13] ∧ TownAt (gA K "Town") H' p d m2 rows n ∧ TownAt (gA K "Town") H' p2 d2 m2 [] 0 ∧ TL H' L (rows.map rowV) ∧ rows.length ≤ 25 ∧ H' S = some (.lst (ns.map V.int))) ?rest fun N hN => ?_
      case rest =>
        rintro σ' H5 ⟨rows, n, u11, u12, u13, rfl, W5, V5, tl5, few5, eS5⟩
        refine ⟨_, rfl, _, rfl, _, rfl, p, d, L, m2, rows, n, rfl, W5, tl5, fun H6 sm6 => ⟨_, rfl, ?_⟩⟩
        exact ⟨rows, n, _, _, _, _, _, _, rfl, W5.same sm6, V5.same sm6, tl_same tl5 sm6, few5, sm6 _ _ eS5⟩
      refine at_ifP (fun b H' => (b = true → rows ≠ []) ∧ (b = false → rows.length ≤ 24) ∧ Same H9 H') ?yes ?no ?test
      case test =>
        intro M hM
        refine ⟨_, rfl, (by show 0 ≤ sizeLine; decide), fun e1 he1 => ?_⟩
        have c1 := same_new (o := .lst []) he1
        refine ⟨_, _, dp_town (tl_same tl8 c1), .lst (SqL.of upd_same) .nil, (lay_rows rows).shaped (by decide), by decide, _, rfl, ?_⟩
        rw [eqv_rows_nil]
        obtain ⟨vs, ev, tv⟩ := tl_same tl8 c1
        have lv : vs.length = rows.length := by rw [tups_len tv, List.length_map]
        refine if_both (fun c => ?_) (fun c => ?_)
        · have ne : rows ≠ [] := fun y => by
            rw [y] at c
            cases c
          have yes : ∀ b : Bool, (b = false → rows.length ≤ 24) → M b (upd H9 e1 (.lst [])) := fun b hb => hM b _ ⟨fun _ => ne, hb, c1⟩
          refine ⟨_, rfl, _, _, rfl, rfl, (by show (0 : Int) < 7; decide), _, _, rfl, rfl, _, rfl, ?_⟩
          refine if_both (fun c2 => yes true (fun y => by cases y)) (fun c2 => ?_)
          refine ⟨_, rfl, L, vs, rfl, .inl (SqL.of ev), _, _, rfl, rfl, _, rfl, ?_⟩
          refine if_both (fun c3 => yes true (fun y => by cases y)) (fun c3 => ?_)
          have l24 : rows.length ≤ 24 := by
            have := of_decide_eq_false c3
            omega
          exact ⟨_, rfl, rfl, _, rfl, yes _ fun _ => l24⟩
        · have e0 : rows = [] := by
            cases y : rows with
            | nil => rfl
            | cons _ _ =>
              rw [y] at c
              cases c
          refine hM false _ ⟨fun y => (by cases y), fun _ => (by rw [e0]; decide), c1⟩
      case yes =>
        rintro H5 ⟨ne, _, sm5⟩
        have ne := ne rfl
        have W5 := W8.same sm5
        have V5 := V8.same sm5
        obtain ⟨vs, ev, tv⟩ := tl_same tl8 sm5
        have eS5 := sm5 _ _ eS8
        have lv : vs.length = rows.length := by rw [tups_len tv, List.length_map]
        have pos : 0 < vs.length := by
          rw [lv]
          exact List.length_pos_iff.mpr ne
        have fd := Int.ediv_nonneg n0 (show (0 : Int) ≤ 7 by decide)
        have md := emod_lt (i := num / 7) (m := (vs.length : Int)) (by omega)
        obtain ⟨kk, ek⟩ := nat_of md.1
        have lk : kk < vs.length := by omega
        obtain ⟨rr, hrr⟩ : ∃ rr, rows[kk]? = some rr := ⟨_, List.getElem?_eq_getElem (by omega)⟩
        obtain ⟨y, hy⟩ : ∃ y, vs[kk]? = some y := ⟨_, List.getElem?_eq_getElem lk⟩
        obtain ⟨tr, xs, rfl, hxs, htr⟩ := tups_get tv hy
        rw [List.getElem?_map, hrr] at hxs
        cases hxs
        refine ⟨_, rfl, .inl ⟨rfl, _, SqL.of ev⟩, _, rfl, _, _, rfl, rfl, ⟨by decide, by decide⟩, _, rfl, L, vs, rfl, .inl (SqL.of ev), _, _, rfl, rfl, (by omega), L, vs, _, kk, .ref tr, rfl, rfl, ev, by omega, by omega, by rw [ek]; exact seq_nat lk, hy, ?_⟩
        dsimp only [gName]
        refine nice (σ' := [some (.ref a), some (.int seed), some (.int (m2 : Int)), some (.ref p), some (.ref p2), some (.ref L), some (.int (r % 5)), some (.int (n : Int)), some (.int (i : Int)), some (.int z), some (.int num), some (.ref tr), u12, u13]) rfl ?_
        have cut : Tups H5 (vs.eraseIdx kk) ((rows.filter fun q => decide (q.1 ≠ rr.1)).map rowV) := by
          rw [← erase_filter W5.ok.rise hrr, map_erase]
          exact tups_erase kk tv
        have W10 := town_over (o := .lst (vs.eraseIdx kk)) W5 ev
        have V10 := town_over (o := .lst (vs.eraseIdx kk)) V5 ev
        have cut10 := tups_over (o := .lst (vs.eraseIdx kk)) ev cut
        have eL10 := upd_same (H := H5) (a := L) (o := .lst (vs.eraseIdx kk))
        have eS10 : upd H5 L (.lst (vs.eraseIdx kk)) S = some (.lst (ns.map V.int)) := by rw [upd_ne nSL]; exact eS5
        have ht10 : upd H5 L (.lst (vs.eraseIdx kk)) tr = some (.tup (rowV rr)) := by rw [upd_ne (ne_of htr ev (by intro z; cases z))]; exact htr
        generalize upd H5 L (.lst (vs.eraseIdx kk)) = H10 at *
        have nL : ∀ {x o}, H10 x = some o → (∀ xs, o ≠ .lst xs) → L ≠ x := fun {x o} e ne z => by
          rw [← z, eL10] at e
          exact ne _ (Option.some.inj e).symm
        have nS : ∀ {x o}, H10 x = some o → (∀ xs, o ≠ .lst xs) → S ≠ x := fun {x o} e ne z => by
          rw [← z, eS10] at e
          exact ne _ (Option.some.inj e).symm
        obtain ⟨dx10, hp10⟩ := id W10.ob
        obtain ⟨kv10, hd10, _⟩ := id W10.dc
        refine ⟨_, rfl, p, dx10, _, rfl, hp10, tF_no _ _ _ (by decide +kernel) (by decide +kernel) (by decide +kernel), _, rfl, tr, _, _, _, rfl, rfl, SqT.of ht10, atI_nat (j := 0) rfl, p, d, m2, rows, n, _, rfl, W10, ⟨"int", rfl⟩, fun no => (no ⟨rr.1, rfl, List.mem_map.mpr ⟨rr, List.mem_of_getElem? hrr, rfl⟩⟩).elim, fun s es hs H11 W11 kp11 => ⟨rfl, _, rfl, ?_⟩⟩
        have es' : s = rr.1 := (Int.ofNat.inj (V.int.inj es)).symm
        subst es'
        refine hN _ _ ⟨_, n, _, _, _, rfl, W11, town_keeps W10 kp11 V10 n22 nd2, ⟨_, kp11 _ _ eL10 (nL hp10 (fun _ z => by cases z)) (nL hd10 (fun _ z => by cases z)), tups_ext (fun t xs e => keeps_tups W10 kp11 t xs e) cut10⟩, Nat.le_trans (List.length_filter_le _ _) few7, kp11 _ _ eS10 (nS hp10 (fun _ z => by cases z)) (nS hd10 (fun _ z => by cases z))⟩
      case no =>
        rintro H5 ⟨_, l24, sm5⟩
        have l24 := l24 rfl
        have W5 := W8.same sm5
        have V5 := V8.same sm5
        have tl5 := tl_same tl8 sm5
        have eS5 := sm5 _ _ eS8
        refine ⟨_, rfl, _, _, rfl, rfl, _, rfl, ?_⟩
        refine if_both (fun c => ?_) (fun c => hN _ _ ⟨rows, n, _, _, _, rfl, W5, V5, tl5, by omega, eS5⟩)
        have m22 := of_decide_eq_true c
        have fd := Int.ediv_nonneg n0 (show (0 : Int) ≤ 7 by decide)
        refine ⟨_, rfl, _, rfl, _, rfl, _, rfl, _, _, rfl, rfl, ⟨by decide, by decide⟩, m2, _, _, _, rfl, by omega, by omega, by omega, fd, fun tq H6 q htq sm6 etq okq => ?_⟩
        refine ⟨tq, _, rfl, SqT.of etq, rfl, _, _, rfl, _, _, rfl, rfl, ?_⟩
        have W10 := W5.same sm6
        have V10 := V5.same sm6
        obtain ⟨vs, eL10, tv⟩ := tl_same tl5 sm6
        have eS10 := sm6 _ _ eS5
        have lv : vs.length = rows.length := by rw [tups_len tv, List.length_map]
        obtain ⟨q1, q2, q3⟩ := okq
        have nL : ∀ {x o}, H6 x = some o → (∀ xs, o ≠ .lst xs) → L ≠ x := fun {x o} e ne z => by
          rw [← z, eL10] at e
          exact ne _ (Option.some.inj e).symm
        have nS : ∀ {x o}, H6 x = some o → (∀ xs, o ≠ .lst xs) → S ≠ x := fun {x o} e ne z => by
          rw [← z, eS10] at e
          exact ne _ (Option.some.inj e).symm
        obtain ⟨dx10, hp10⟩ := id W10.ob
        obtain ⟨kv10, hd10, _⟩ := id W10.dc
        refine ⟨_, rfl, p, dx10, _, rfl, hp10, tF_no _ _ _ (by decide +kernel) (by decide +kernel) (by decide +kernel), _, rfl, _, rfl, p, d, m2, rows, n, _, _, rfl, W10, ⟨"int", rfl⟩, ⟨"int", rfl⟩, fun z => ?_, fun x y ex ey _ _ _ z => ?_, fun x y ex ey hx hy ne few H11 W11 kp11 => ?_⟩
        · rcases z with z | z | z
          · rw [isW_true (by omega) (by omega)] at z
            cases z
          · rw [isW_true (by omega) (by omega)] at z
            cases z
          · exact (q3 (Int.ofNat.inj (V.int.inj z))).elim
        · omega
        · have ea' : x = q.1 := (Int.ofNat.inj (V.int.inj ex)).symm
          have eb' : y = q.2 := (Int.ofNat.inj (V.int.inj ey)).symm
          subst ea' eb'
          have eL11 := kp11 _ _ eL10 (nL hp10 (fun _ z => by cases z)) (nL hd10 (fun _ z => by cases z))
          have eS11 := kp11 _ _ eS10 (nS hp10 (fun _ z => by cases z)) (nS hd10 (fun _ z => by cases z))
          have V11 := town_keeps W10 kp11 V10 n22 nd2
          have tv11 : Tups H11 vs (rows.map rowV) := tups_ext (fun t xs e => keeps_tups W10 kp11 t xs e) tv
          refine ⟨_, rfl, rfl, _, rfl, ?_⟩
          rw [show (!decide (V.int (n : Int) = V.int (n : Int))) = false by simp]
          refine ⟨_, rfl, .inl ⟨rfl, _, SqL.of eL11⟩, _, rfl, _, rfl, _, rfl, (by show 3 ≤ sizeLine; decide), fun g hg => ?_⟩
          have cg := same_new (o := .tup (rowV (n, q.1, q.2))) hg
          have eg := upd_same (H := H11) (a := g) (o := .tup (rowV (n, q.1, q.2)))
          have eL12 := cg _ _ eL11
          have tn : Tups (upd H11 g (.tup (rowV (n, q.1, q.2)))) (vs ++ [V.ref g]) ((rows ++ [(n, q.1, q.2)]).map rowV) := by
            rw [List.map_append]
            exact tups_snoc eg (tups_ext (fun t xs e => cg _ _ e) tv11)
          refine ⟨L, vs, _, rfl, rfl, eL12, by rw [lv, sizeLine_eq]; omega, ?_⟩
          refine ⟨_, rfl, _, _, rfl, rfl, ?_⟩
          refine hN _ _ ⟨rows ++ [(n, q.1, q.2)], n + 1, _, _, _, rfl, town_over (W11.same cg) eL12, town_over (V11.same cg) eL12, ⟨_, upd_same, tups_over eL12 tn⟩, by rw [List.length_append]; show rows.length + 1 ≤ 25; omega, ?_⟩
          rw [upd_ne nSL]
          exact cg _ _ eS11
    · rintro σ H7 ⟨rows, n, u8, u9, u10, u11, u12, u13, rfl, W7, V7, tl7, few7, eS7⟩
      obtain ⟨dx2, hp2⟩ := V7.ob
      refine ⟨_, rfl, p2, dx2, _, rfl, hp2, tF_no _ _ _ (by decide +kernel) (by decide +kernel) (by decide +kernel), p2, d2, m2, [], 0, rfl, V7, fun sl H8 hsl sm8 tl8 => ?_⟩
      refine ⟨(by show 0 ≤ sizeLine; decide), fun e1 he1 => ?_⟩
      have c1 := same_new (o := .lst []) he1
      refine ⟨_, _, dp_town (rows := []) (tl_same tl8 c1), .lst (SqL.of upd_same) .nil, (lay_rows []).shaped (by decide), by decide, ?_⟩
      rw [eqv_rows_nil]
      refine ⟨_, rfl, ?_⟩
      have V9 := (V7.same sm8).same c1
      generalize upd H8 e1 (.lst []) = H9 at *
      refine ⟨_, rfl, _, rfl, (by show 0 ≤ sizeLine; decide), fun e2 he2 => ?_⟩
      exact ⟨p2, d2, e2, m2, [], 0, rfl, V9.same (same_new he2), ⟨[], upd_same, .nil⟩, fun H10 _ => kend _⟩
end
end K05

set_option Elab.async false
set_option linter.all false
set_option maxRecDepth 100000
set_option maxHeartbeats 4000000
namespace K05
open PySem PySem.Spec PyProof.Rows L2 Own
/-! ### the head -/
def gd (i : Nat) (n : Str) : He.DefD := ⟨(n, none), n, n, defArgs (top i), defBody (top i), defScope (top i), [], []⟩
def md (i j : Nat) (c n q : Str) : He.DefD := ⟨(c, some n), n, q, defArgs (inClass (top i) j), defBody (inClass (top i) j), defScope (inClass (top i) j), [], []⟩
def fn : List He.DefD := (([gd 8 "is_whole", gd 9 "both_ways", gd 10 "walks_from", gd 11 "come_to", gd 12 "parts_along", md 16 0 "Town" "__init__" "Town.__init__", md 16 1 "Town" "places" "Town.places", md 16 2 "Town" "build" "Town.build", md 16 3 "Town" "dig" "Town.dig", md 16 4 "Town" "streets" "Town.streets", gd 18 "_parts_its_ends", gd 19 "_parting_rows", gd 20 "_pieces_without", gd 21 "parting", gd 22 "pieces", gd 24 "_row_from", gd 25 "_rows_of", gd 26 "handles", gd 28 "parts", gd 30 "one_way", gd 32 "_law_mixed", gd 33 "_law_seed", gd 34 "_law_ends", gd 35 "_law_many"] : List He.DefD) ++ ([gd 36 "_law_parts", gd 37 "_law_gone", gd 38 "_law_led", gd 39 "_law_good", gd 40 "_law_steps", gd 41 "_law_stands", gd 42 "law"] : List He.DefD))
def gloNames : List Str := ((["TownError", "BadCount", "BadPlace", "BadStreet", "TooMany", "Parted", "Town", "is_whole", "both_ways", "walks_from", "come_to", "parts_along", "_parts_its_ends", "_parting_rows", "_pieces_without", "parting", "pieces", "_row_from", "_rows_of", "handles", "parts", "one_way", "_law_mixed", "_law_seed"] : List PySem.Str) ++ (["_law_ends", "_law_many", "_law_parts", "_law_gone", "_law_led", "_law_good", "_law_steps", "_law_stands", "law"] : List PySem.Str))
def freeNames : List Str := ["ValueError", "all", "any", "bool", "enumerate", "int", "isinstance", "len", "list", "max", "min", "range", "sorted", "str", "super", "tuple", "type", "zip"]
def fa : List He.Fa := gloNames.map .glo ++ (freeNames.map .free ++ [.int "MOST_PLACES" 16, .int "MOST_STREETS" 60, .cls "Town", .noat "Town" "_many", .noat "Town" "_ends", .noat "Town" "_built", .meth "Town" "build", .meth "Town" "dig", .meth "Town" "streets", .meth "Town" "places", .mkr "Town", .exc "BadCount", .exc "BadPlace", .exc "BadStreet", .exc "TooMany", .exm "Parted" "Parted" true, .exm "Parted" "TownError" true])
def tf : List He.Defn := []
abbrev P_k05 : Program := PySem.Challenge.rw_onewaytown_k05_whole_deeds.prog
def pI (K : PySem.W.Frag) : Addr := He.ma K (gA K "Parted") "__init__"
def exPar (K : PySem.W.Frag) : Bool := oexB K (gA K "Parted") && (xfB K (gA K "Parted") && (He.eqO (PySem.W.findIn K (.ref (gA K "Parted")) "between") (some none) && (He.eqO (PySem.W.findIn K (.ref (gA K "Parted")) "apart") (some none) &&
  (He.eqO (PySem.W.findIn K (.ref (gA K "Parted")) "__init__") (some (some (.ref (pI K)))) && (decide (PySem.W.typeIn K (.ref (pI K)) = some (.type "function")) && (supB K (pI K) (gA K "Parted") P_k05.main.file &&
  (He.eqO (PySem.W.nsIn K cStatics "thirdparty.any") (some none) && (He.eqO (PySem.W.ks_superIn K (gA K "Parted") (gA K "Parted") "__init__") (some (some (.builtin "ValueError.__init__"))) &&
  (decide (PySem.W.subIn K (.ref (gA K "Parted")) (.type "ValueError") = some true) && decide (PySem.W.mroIn K (gA K "Parted") (.ref (gA K "Parted")) = some true))))))))))
def ex (K : PySem.W.Frag) : Bool := exPar K && (decide (PySem.W.kitOne K (.type "int") (.type "bool") = some false) && (true))
def ss : List ((PySem.W.Frag → Addr) × Stmt) := [(pI, s_Parted_init)]
abbrev R_ : PySem.W.OpenRow := PySem.W.OpenLaw.row PySem.Challenge.rw_onewaytown_k05_whole_deeds
abbrev hk : PySem.W.Hook := hookY 7 fa fn tf ex ss
def ob (s : PySem.W.SharedT) : AlY := obsY 7 fa fn tf ex ss (HandSHeadRun.getT s)
theorem ob_eq (s : PySem.W.SharedT) : ob s = hk.obs s.abs := obsY_eq (HandSHeadRun.getT_eq s)
def looseNames : List PySem.Str := ((["TownError", "BadCount", "BadPlace", "BadStreet", "TooMany", "Parted", "Town", "is_whole", "both_ways", "walks_from", "come_to", "parts_along", "_parts_its_ends", "_parting_rows", "_pieces_without", "parting", "pieces", "_row_from", "_rows_of", "handles", "parts", "one_way", "_law_mixed", "_law_seed"] : List PySem.Str) ++ (["_law_ends", "_law_many", "_law_parts", "_law_gone", "_law_led", "_law_good", "_law_steps", "_law_stands", "MOST_PLACES", "MOST_STREETS"] : List PySem.Str))
theorem run (w : World) : HandSHeadRun.RunEq R_ (PySem.W.view R_.prog [42]) hk ob 6000 looseNames w := by
  intro os
  kernel_rfl
end K05

set_option Elab.async false
set_option linter.all false
set_option maxRecDepth 100000
set_option maxHeartbeats 4000000
namespace K05
open PySem PySem.Spec PyProof.Rows L2 Own
/-! ### the facts, the end -/
def TT_ (K : PySem.W.Frag) : List (Addr × Str) := []
section
variable {w : World} {K : PySem.W.Frag} {h base : Heap} {mg : Str → Option Value}
theorem glo_of (X : K.In h) (G : h.Ns mainGlobals mg) (d : He.SaysD fa fn K) {x : Str} (hx : x ∈ gloNames) : mg x = some (.ref (gA K x)) := He.glo_ok X G (d.facts (List.mem_append_left _ (List.mem_map_of_mem hx)))
theorem free_of (X : K.In h) (G : h.Ns mainGlobals mg) (d : He.SaysD fa fn K) {x : Str} (hx : x ∈ freeNames) : mg x = none := He.free_ok X G (d.facts (List.mem_append_right _ (List.mem_append_left _ (List.mem_map_of_mem hx))))
theorem txt_of (X : K.In h) (G : h.Ns mainGlobals mg) (d : He.SaysD fa fn K) : Txt K mg := by
  have err : ∀ {x : Str}, x ∈ gloNames → (He.Fa.exc x).ok K = true → ErrT K mg x := fun hx e => by
    obtain ⟨e1, e2, e3, e4⟩ := He.exc_ok e
    exact ⟨glo_of X G d hx, e1, e2, e3, e4⟩
  refine ⟨free_of X G d (by decide +kernel), free_of X G d (by decide +kernel), free_of X G d (by decide +kernel), ?_, ?_, He.cls_ok (d.fact 53 (f := .cls "Town") rfl), He.noat_ok (d.fact 54 (f := .noat "Town" "_many") rfl), He.noat_ok (d.fact 55 (f := .noat "Town" "_ends") rfl), He.noat_ok (d.fact 56 (f := .noat "Town" "_built") rfl),
    err (by decide +kernel) (d.fact 62 (f := .exc "BadCount") rfl), err (by decide +kernel) (d.fact 63 (f := .exc "BadPlace") rfl), err (by decide +kernel) (d.fact 64 (f := .exc "BadStreet") rfl), err (by decide +kernel) (d.fact 65 (f := .exc "TooMany") rfl)⟩
  · obtain ⟨t, e⟩ := He.int_ok X G (d.fact 51 (f := .int "MOST_PLACES" 16) rfl)
    exact ⟨_, e, t, rfl⟩
  · obtain ⟨t, e⟩ := He.int_ok X G (d.fact 52 (f := .int "MOST_STREETS" 60) rfl)
    exact ⟨_, e, t, rfl⟩
theorem par_of (X : K.In h) (G : h.Ns mainGlobals mg) (c : SaysY fa fn tf ex ss w h K) (e : exPar K = true) (base : Heap) : MakE P_k05 w K mg base 1 "Parted" (gA K "Parted") (spParted (gA K "Parted")) ∧ XfC K (gA K "Parted") ∧
    PySem.W.findIn K (.ref (gA K "Parted")) "between" = some none ∧ PySem.W.findIn K (.ref (gA K "Parted")) "apart" = some none := by
  obtain ⟨e1, e⟩ := He.ba e
  obtain ⟨e2, e⟩ := He.ba e
  obtain ⟨e3, e⟩ := He.ba e
  obtain ⟨e4, e⟩ := He.ba e
  obtain ⟨e5, e⟩ := He.ba e
  obtain ⟨e6, e⟩ := He.ba e
  obtain ⟨e7, e⟩ := He.ba e
  obtain ⟨e8, e⟩ := He.ba e
  obtain ⟨e9, e⟩ := He.ba e
  obtain ⟨e10, e11⟩ := He.ba e
  have d := c.x.t.d
  have oex := oexB_ok e1
  have eo : supObs K (pI K) = supVal s_Parted_init := by
    have z := c.s
    exact (List.cons.inj z).1
  obtain ⟨cda, cc, kV, doc, pm, ct, an, S⟩ := sup_of (P := P_k05) eo e7 oex ⟨_, rfl, rfl⟩ (free_of X G d (by decide +kernel)) (He.eqO_ok e8) (He.eqO_ok e9) (of_decide_eq_true e10) (of_decide_eq_true e11) (by decide +kernel)
  have nb := He.eqO_ok e3
  have na := He.eqO_ok e4
  exact ⟨⟨pI K, _, ["self", "between", "apart"], oex, He.eqO_ok e5, of_decide_eq_true e6, ok_Parted S (free_of X G d (by decide +kernel)) nb na, glo_of X G d (by decide +kernel), sup_binds (ps := ["self", "between", "apart"]) fun us hl => match us, hl with | [_, _, _], _ => rfl⟩, xfB_ok e2, nb, na⟩
set_option maxHeartbeats 8000000 in
theorem law_at {f : Addr} (X : K.In h) (G : h.Ns mainGlobals mg) (hfa : mg ("law" : Str) = some (.ref f)) (c : SaysY fa fn tf ex ss w h K) : LamX.LawAtS PySem.Challenge.rw_onewaytown_k05_whole_deeds w K (L2.CX P_k05 w) 12 63 "_law_script" mg f h := by
  have d := c.x.t.d
  have e0 : ex K = true := c.x.more
  obtain ⟨exp, e0⟩ := He.ba e0
  obtain ⟨ekb, e0⟩ := He.ba e0
  have T := txt_of X G d
  have fr : ∀ {x : Str}, x ∈ freeNames → mg x = none := fun hx => free_of X G d hx
  have g : ∀ {x : Str}, x ∈ gloNames → mg x = some (.ref (gA K x)) := fun hx => glo_of X G d hx
  have TL : TxtL mg := ⟨fr (by decide +kernel), fr (by decide +kernel), fr (by decide +kernel), fr (by decide +kernel)⟩
  have TM : TxtM mg := ⟨TL, fr (by decide +kernel), fr (by decide +kernel)⟩
  have TG : TxtG mg := ⟨fr (by decide +kernel), fr (by decide +kernel), fr (by decide +kernel)⟩
  have TOW : TxtOW mg := ⟨fr (by decide +kernel), fr (by decide +kernel)⟩
  have TS : TxtS K mg := ⟨fr (by decide +kernel), fr (by decide +kernel), fr (by decide +kernel), fr (by decide +kernel), fr (by decide +kernel), fr (by decide +kernel), of_decide_eq_true ekb⟩
  have ef : f = gA K "law" := by
    have z := hfa.symm.trans (g (x := "law") (by decide +kernel))
    cases z
    rfl
  subst ef
  obtain ⟨_, D_is_whole⟩ := d.def_ 0 (d := gd 8 "is_whole") rfl
  obtain ⟨_, D_both_ways⟩ := d.def_ 1 (d := gd 9 "both_ways") rfl
  obtain ⟨_, D_walks_from⟩ := d.def_ 2 (d := gd 10 "walks_from") rfl
  obtain ⟨_, D_come_to⟩ := d.def_ 3 (d := gd 11 "come_to") rfl
  obtain ⟨_, D_parts_along⟩ := d.def_ 4 (d := gd 12 "parts_along") rfl
  obtain ⟨_, D_init⟩ := d.def_ 5 (d := md 16 0 "Town" "__init__" "Town.__init__") rfl
  obtain ⟨_, D_places⟩ := d.def_ 6 (d := md 16 1 "Town" "places" "Town.places") rfl
  obtain ⟨_, D_build⟩ := d.def_ 7 (d := md 16 2 "Town" "build" "Town.build") rfl
  obtain ⟨_, D_dig⟩ := d.def_ 8 (d := md 16 3 "Town" "dig" "Town.dig") rfl
  obtain ⟨_, D_streets⟩ := d.def_ 9 (d := md 16 4 "Town" "streets" "Town.streets") rfl
  obtain ⟨_, D_parts_its_ends⟩ := d.def_ 10 (d := gd 18 "_parts_its_ends") rfl
  obtain ⟨_, D_parting_rows⟩ := d.def_ 11 (d := gd 19 "_parting_rows") rfl
  obtain ⟨_, D_pieces_without⟩ := d.def_ 12 (d := gd 20 "_pieces_without") rfl
  obtain ⟨_, D_parting⟩ := d.def_ 13 (d := gd 21 "parting") rfl
  obtain ⟨_, D_pieces⟩ := d.def_ 14 (d := gd 22 "pieces") rfl
  obtain ⟨_, D_row_from⟩ := d.def_ 15 (d := gd 24 "_row_from") rfl
  obtain ⟨_, D_rows_of⟩ := d.def_ 16 (d := gd 25 "_rows_of") rfl
  obtain ⟨_, D_handles⟩ := d.def_ 17 (d := gd 26 "handles") rfl
  obtain ⟨_, D_parts⟩ := d.def_ 18 (d := gd 28 "parts") rfl
  obtain ⟨_, D_one_way⟩ := d.def_ 19 (d := gd 30 "one_way") rfl
  obtain ⟨_, D_law_mixed⟩ := d.def_ 20 (d := gd 32 "_law_mixed") rfl
  obtain ⟨_, D_law_seed⟩ := d.def_ 21 (d := gd 33 "_law_seed") rfl
  obtain ⟨_, D_law_ends⟩ := d.def_ 22 (d := gd 34 "_law_ends") rfl
  obtain ⟨_, D_law_many⟩ := d.def_ 23 (d := gd 35 "_law_many") rfl
  obtain ⟨_, D_law_parts⟩ := d.def_ 24 (d := gd 36 "_law_parts") rfl
  obtain ⟨_, D_law_gone⟩ := d.def_ 25 (d := gd 37 "_law_gone") rfl
  obtain ⟨_, D_law_led⟩ := d.def_ 26 (d := gd 38 "_law_led") rfl
  obtain ⟨_, D_law_good⟩ := d.def_ 27 (d := gd 39 "_law_good") rfl
  obtain ⟨_, D_law_steps⟩ := d.def_ 28 (d := gd 40 "_law_steps") rfl
  obtain ⟨_, D_law_stands⟩ := d.def_ 29 (d := gd 41 "_law_stands") rfl
  obtain ⟨fd, D_law⟩ := d.def_ 30 (d := gd 42 "law") rfl
  have inT : ∀ p ∈ tf, He.cT K p ∈ tf.map (He.cT K) := fun p hp => List.mem_map_of_mem hp
  refine ⟨fd, tf.map (He.cT K), spLaw K (TT_ K), fun p hp => ?_, fun p hp => ?_, fun p hp => ?_, fun s u => ?_, fun H a ns hl hbits hT hS => ⟨a, ns, rfl, hS, fun z hz => fit_bits (hbits z hz), hl, ?_, fun _ => rfl⟩, fun base KB GB TB => ?_⟩
  · obtain ⟨q, hq, rfl⟩ := List.mem_map.mp hp
    exact c.x.empty q hq
  · obtain ⟨q, hq, rfl⟩ := List.mem_map.mp hp
    exact c.x.out q hq
  · obtain ⟨q, hq, rfl⟩ := List.mem_map.mp hp
    exact PySem.W.codeHd_of_K X (c.x.hd q hq)
  · exact D_law.bindsA (ps := ["_law_script"]) (fun _ _ _ _ _ _ us hl => match us, hl with | [_], _ => rfl) s [u] rfl
  · intro q hq
    exact absurd hq List.not_mem_nil
  · obtain ⟨c_Parted, xf, nb, na⟩ := par_of X G c exp base
    have tb : ∀ p ∈ tf, LamX.TabB base mg (He.cT K p).1 (He.cT K p).2 := fun p hp => TB _ (inT p hp)
    have TR : TxtR K mg := ⟨TS, g (by decide +kernel), He.exm_ok (d.fact 66 (f := .exm "Parted" "Parted" true) rfl), xf, nb, na⟩
    have c_is_whole : CalX P_k05 w K mg base 1 "is_whole" spWhole := ⟨_, _, _, ok_is_whole T D_is_whole, g (by decide +kernel), D_is_whole.kp, D_is_whole.bindsN fun _ _ _ _ _ _ us hl => match us, hl with | [_, _, _], _ => rfl⟩
    have c_Town : MakX P_k05 w K mg base 2 "Town" (gA K "Town") (spInit K (gA K "Town")) := ⟨_, _, _, He.mkr_ok (d.fact 61 (f := .mkr "Town") rfl), ok_init T D_init c_is_whole, g (by decide +kernel), D_init.bindsN fun _ _ _ _ _ _ us hl => match us, hl with | [_, _], _ => rfl⟩
    have c_build : MetX P_k05 w K mg base 2 (gA K "Town") "build" (spBuild K (gA K "Town")) := ⟨_, _, _, T.cl, He.meth_ok (d.fact 57 (f := .meth "Town" "build") rfl), ok_build T D_build c_is_whole, D_build.bindsN fun _ _ _ _ _ _ us hl => match us, hl with | [_, _, _], _ => rfl⟩
    have c_dig : MetX P_k05 w K mg base 2 (gA K "Town") "dig" (spDig K (gA K "Town")) := ⟨_, _, _, T.cl, He.meth_ok (d.fact 58 (f := .meth "Town" "dig") rfl), ok_dig T D_dig c_is_whole, D_dig.bindsN fun _ _ _ _ _ _ us hl => match us, hl with | [_, _], _ => rfl⟩
    have c_streets : MetX P_k05 w K mg base 1 (gA K "Town") "streets" (spStreets (gA K "Town")) := ⟨_, _, _, T.cl, He.meth_ok (d.fact 59 (f := .meth "Town" "streets") rfl), ok_streets T D_streets, D_streets.bindsN fun _ _ _ _ _ _ us hl => match us, hl with | [_], _ => rfl⟩
    have c_places : MetX P_k05 w K mg base 1 (gA K "Town") "places" (spPlaces (gA K "Town")) := ⟨_, _, _, T.cl, He.meth_ok (d.fact 60 (f := .meth "Town" "places") rfl), ok_places T D_places, D_places.bindsN fun _ _ _ _ _ _ us hl => match us, hl with | [_], _ => rfl⟩
    have c_both_ways : CalX P_k05 w K mg base 1 "both_ways" spBoth := ⟨_, _, _, ok_both_ways D_both_ways, g (by decide +kernel), D_both_ways.kp, D_both_ways.bindsN fun _ _ _ _ _ _ us hl => match us, hl with | [_], _ => rfl⟩
    have c_walks_from : CalX P_k05 w K mg base 1 "walks_from" spWalks := ⟨_, _, _, ok_walks_from D_walks_from, g (by decide +kernel), D_walks_from.kp, D_walks_from.bindsN fun _ _ _ _ _ _ us hl => match us, hl with | [_, _], _ => rfl⟩
    have c_come_to : CalX P_k05 w K mg base 2 "come_to" spCome := ⟨_, _, _, ok_come TG D_come_to c_both_ways c_walks_from, g (by decide +kernel), D_come_to.kp, D_come_to.bindsN fun _ _ _ _ _ _ us hl => match us, hl with | [_, _], _ => rfl⟩
    have c_parts_along : CalX P_k05 w K mg base 3 "parts_along" spPartsAlong := ⟨_, _, _, ok_parts_along TG D_parts_along c_come_to, g (by decide +kernel), D_parts_along.kp, D_parts_along.bindsN fun _ _ _ _ _ _ us hl => match us, hl with | [_, _], _ => rfl⟩
    have c_parts_its_ends : CalX P_k05 w K mg base 3 "_parts_its_ends" spApart := ⟨_, _, _, ok_apart D_parts_its_ends c_come_to, g (by decide +kernel), D_parts_its_ends.kp, D_parts_its_ends.bindsN fun _ _ _ _ _ _ us hl => match us, hl with | [_, _], _ => rfl⟩
    have c_parting_rows : CalX P_k05 w K mg base 4 "_parting_rows" (spPartingRows (gA K "Town")) := ⟨_, _, _, ok_parting_rows D_parting_rows c_parts_its_ends c_streets, g (by decide +kernel), D_parting_rows.kp, D_parting_rows.bindsN fun _ _ _ _ _ _ us hl => match us, hl with | [_], _ => rfl⟩
    have c_pieces_without : CalX P_k05 w K mg base 4 "_pieces_without" (spWithout (gA K "Town")) := ⟨_, _, _, ok_without D_pieces_without c_parts_along c_places c_streets, g (by decide +kernel), D_pieces_without.kp, D_pieces_without.bindsN fun _ _ _ _ _ _ us hl => match us, hl with | [_, _], _ => rfl⟩
    have c_parting : CalX P_k05 w K mg base 5 "parting" (spParting (gA K "Town")) := ⟨_, _, _, ok_parting D_parting c_parting_rows, g (by decide +kernel), D_parting.kp, D_parting.bindsN fun _ _ _ _ _ _ us hl => match us, hl with | [_], _ => rfl⟩
    have c_pieces : CalX P_k05 w K mg base 5 "pieces" (spPieces (gA K "Town")) := ⟨_, _, _, ok_pieces D_pieces c_parting_rows c_pieces_without, g (by decide +kernel), D_pieces.kp, D_pieces.bindsN fun _ _ _ _ _ _ us hl => match us, hl with | [_], _ => rfl⟩
    have c_row_from : CalX P_k05 w K mg base 2 "_row_from" spRowFrom := ⟨_, _, _, ok_row_from D_row_from c_walks_from, g (by decide +kernel), D_row_from.kp, D_row_from.bindsN fun _ _ _ _ _ _ us hl => match us, hl with | [_, _], _ => rfl⟩
    have c_rows_of : CalX P_k05 w K mg base 3 "_rows_of" spRowsOf := ⟨_, _, _, ok_rows_of D_rows_of c_row_from, g (by decide +kernel), D_rows_of.kp, D_rows_of.bindsN fun _ _ _ _ _ _ us hl => match us, hl with | [_, _], _ => rfl⟩
    have c_handles : CalX P_k05 w K mg base 6 "handles" (spHandles (gA K "Town")) := ⟨_, _, _, ok_handles D_handles c_parting c_pieces c_both_ways c_rows_of c_streets, g (by decide +kernel), D_handles.kp, D_handles.bindsN fun _ _ _ _ _ _ us hl => match us, hl with | [_], _ => rfl⟩
    have c_parts : CalX P_k05 w K mg base 4 "parts" (spPartsT (gA K "Town")) := ⟨_, _, _, ok_parts D_parts c_parts_along c_places c_streets, g (by decide +kernel), D_parts.kp, D_parts.bindsN fun _ _ _ _ _ _ us hl => match us, hl with | [_], _ => rfl⟩
    have c_one_way : CalX P_k05 w K mg base 8 "one_way" (spOneWay fW K (gA K "Town")) := ⟨_, _, _, ok_one_way TOW D_one_way c_parting c_parts c_handles c_Parted, g (by decide +kernel), D_one_way.kp, D_one_way.bindsN fun _ _ _ _ _ _ us hl => match us, hl with | [_], _ => rfl⟩
    have c_law_mixed : CalX P_k05 w K mg base 1 "_law_mixed" spMixed := ⟨_, _, _, ok_mixed D_law_mixed, g (by decide +kernel), D_law_mixed.kp, D_law_mixed.bindsN fun _ _ _ _ _ _ us hl => match us, hl with | [_, _], _ => rfl⟩
    have c_law_seed : CalX P_k05 w K mg base 2 "_law_seed" (spSeed K) := ⟨_, _, _, ok_seed TL D_law_seed c_law_mixed, g (by decide +kernel), D_law_seed.kp, D_law_seed.bindsN fun _ _ _ _ _ _ us hl => match us, hl with | [_], _ => rfl⟩
    have c_law_ends : CalX P_k05 w K mg base 1 "_law_ends" spEnds := ⟨_, _, _, ok_ends TL D_law_ends, g (by decide +kernel), D_law_ends.kp, D_law_ends.bindsN fun _ _ _ _ _ _ us hl => match us, hl with | [_, _, _, _], _ => rfl⟩
    have c_law_many : CalX P_k05 w K mg base 2 "_law_many" spMany := ⟨_, _, _, ok_many TL D_law_many c_law_mixed, g (by decide +kernel), D_law_many.kp, D_law_many.bindsN fun _ _ _ _ _ _ us hl => match us, hl with | [_, _], _ => rfl⟩
    have c_law_parts : CalX P_k05 w K mg base 1 "_law_parts" spLawParts := ⟨_, _, _, ok_law_parts TM D_law_parts, g (by decide +kernel), D_law_parts.kp, D_law_parts.bindsN fun _ _ _ _ _ _ us hl => match us, hl with | [_, _], _ => rfl⟩
    have c_law_gone : CalX P_k05 w K mg base 2 "_law_gone" spGone := ⟨_, _, _, ok_gone TM D_law_gone c_law_parts, g (by decide +kernel), D_law_gone.kp, D_law_gone.bindsN fun _ _ _ _ _ _ us hl => match us, hl with | [_, _], _ => rfl⟩
    have c_law_led : CalX P_k05 w K mg base 1 "_law_led" spLed := ⟨_, _, _, ok_led TG D_law_led, g (by decide +kernel), D_law_led.kp, D_law_led.bindsN fun _ _ _ _ _ _ us hl => match us, hl with | [_, _], _ => rfl⟩
    have c_law_good : CalX P_k05 w K mg base 2 "_law_good" spGood := ⟨_, _, _, ok_good TM D_law_good c_law_led, g (by decide +kernel), D_law_good.kp, D_law_good.bindsN fun _ _ _ _ _ _ us hl => match us, hl with | [_, _, _], _ => rfl⟩
    have c_law_steps : CalX P_k05 w K mg base 1 "_law_steps" spSteps := ⟨_, _, _, ok_steps TS D_law_steps, g (by decide +kernel), D_law_steps.kp, D_law_steps.bindsN fun _ _ _ _ _ _ us hl => match us, hl with | [_], _ => rfl⟩
    have c_law_stands : CalX P_k05 w K mg base 10 "_law_stands" (spStands (gA K "Town")) := ⟨_, _, _, ok_stands ways_fW TR TL D_law_stands c_law_parts c_law_gone c_law_good c_parts c_pieces c_parting c_one_way c_streets, g (by decide +kernel), D_law_stands.kp, D_law_stands.bindsN fun _ _ _ _ _ _ us hl => match us, hl with | [_, _, _], _ => rfl⟩
    exact ok_law (T_ := TT_ K) TL D_law c_law_mixed c_law_seed c_law_many c_law_ends c_law_stands c_Town c_build c_dig c_streets
end
end K05

set_option Elab.async false
set_option linter.all false
set_option maxRecDepth 100000
set_option maxHeartbeats 4000000
namespace K05
open PySem PySem.Spec PyProof.Rows L2 Own
end K05
open PySem PySem.W PySem.Calls PyProof.Rows
theorem PySem.Challenge.cw_onewaytown_k05_whole_deeds_holds : PySem.Challenge.rw_onewaytown_k05_whole_deeds.Holds := by
  w_on; o_law
  refine HandSHeadRun.head_any (r := OpenLaw.row PySem.Challenge.rw_onewaytown_k05_whole_deeds) (q := view (OpenLaw.row PySem.Challenge.rw_onewaytown_k05_whole_deeds).prog [42]) (H := K05.hk) (ob := K05.ob) (M := 6000) (loose := K05.looseNames) (d := HandSHeadRun.topDef (OpenLaw.row PySem.Challenge.rw_onewaytown_k05_whole_deeds).prog 42) (kwd := []) K05.ob_eq
    (by kernel_rfl) (fun s => by kernel_rfl) K05.run (by kernel_rfl) (by kernel_rfl) (by kernel_rfl) (by rfl) (by first | assumption | decide +kernel) (by decide +kernel) ⟨rfl, rfl, rfl, rfl, rfl, by decide +kernel⟩ ?hw ?hc
  case hw => w_witness2
  case hc =>
    refine LamX.walk_ofTsE (l := PySem.Challenge.rw_onewaytown_k05_whole_deeds) (n := 63) (k := 12) (x := "_law_script") (CX := fun w => L2.CX K05.P_k05 w) rfl (by decide) (by kernel_rfl) ⟨rfl, by decide, by decide⟩ ?F (fun w H s e s' z => by
      obtain ⟨_, _, _, _, _, _, _, _, _, _, _, _, q⟩ := z
      exact q)
    intro w mg fa h Y G hmg0
    obtain ⟨K, KX, c⟩ := Y
    have hmg : mg ("law" : PySem.Str) = some (.ref fa) := by
      have e : (HandSHeadRun.topDef (OpenLaw.row PySem.Challenge.rw_onewaytown_k05_whole_deeds).prog 42).name = ("law" : PySem.Str) := by kernel_rfl
      rw [← e]
      exact hmg0
    exact ⟨K, KX, K05.law_at KX G hmg c⟩

