import PyProof.Rows.All
import Wide.All
import OpenK.AllK
import Wide.FinOn
import HandS.ForMost
import HandS.Star
import HandS.IsInst
import HandS.Codes
import HandS.FStr
import HandS.Zip
import HandS.RaiseMore
import HandS.Style
import HandS.Walk
import HandS.TupAny
import KE.KCallOwn
import KE.KFmtOwn
import KE.KOpsOwn
import OpenK.KMeth
import PyProof.StrOps2
import HandS.Set
import HandS.Strs
import HandS.SetFor
import PyProof.Rows.SortStr
import HandS.More
import PyProof.Rows.StrInSeq3
import KE.KIndexOf
import PyProof.CollectIter
import KE.KStar
import HandS.MakeKwOnly
import HandS.ClsMeth
import KE.GoesEnum
import KE.GoesMore
import HandS.Exc
import HandS.ExcOwn
import HandS.ExcInit
import HandS.ExcField
import HandS.WordsExc
import KE.KExcIs
import KE.RegKIsAll
import HandS.Dict
import HandS.DictComp
import KE.KDictCopyH
import HandS.Iter
import HandS.TryMany
import HandS.Deep
import KE.DataFind
import KE.KStateDown
import HandS.Base
import HandS.Call
import HandS.Defaults
import HandS.HeadHook1
import HandS.HeadHook2
import HandS.HeadHook3
import HandS.HeadNt
import HandS.Head0
import HandS.Head1
import HandS.Head2
import HandS.HeadEnd
import PyProof.ReprRoads
import PyProof.Rows.RegFStrParts
import HandS.SortRule
import HandS.SortInts
import PyProof.EqAt
import PySem.Challenge.RW_newestrow_k59_databases_refused
set_option Elab.async false
set_option linter.all false
set_option maxRecDepth 100000
set_option maxHeartbeats 8000000
/-! Own layer: stable parts of the abstract heap, data, draws. -/
namespace Nw
open PySem L2

/-- from (H, G) to (H', G'): G is the stable part of H (never written), b the one old object that may change -/
structure Xt (b : Option Addr) (H G H' G' : Hp) : Prop where
  sub0 : Same G H
  gg : Same G G'
  sub : Same G' H'
  hh : ∀ a o, b ≠ some a → H a = some o → H' a = some o
  th : ∀ a, H a ≠ none → H' a ≠ none
  nw : ∀ a o, G' a = some o → G a = some o ∨ H a = none
section
variable {b : Option Addr} {H G H1 G1 H2 G2 : Hp} {p l : Addr} {o o' : HO}
theorem Xt.refl (s : Same G H) : Xt b H G H G := ⟨s, fun _ _ h => h, s, fun _ _ _ h => h, fun _ h => h, fun _ _ h => .inl h⟩
theorem Xt.trans (x : Xt b H G H1 G1) (y : Xt b H1 G1 H2 G2) : Xt b H G H2 G2 :=
  ⟨x.sub0, fun a o h => y.gg a o (x.gg a o h), y.sub, fun a o n h => y.hh a o n (x.hh a o n h), fun a h => y.th a (x.th a h), fun a o h => by
    rcases y.nw a o h with h | h
    · exact x.nw a o h
    · cases e : H a with
      | none => exact .inr rfl
      | some u => exact absurd h (x.th a (by rw [e]; exact fun z => by cases z))⟩
theorem Xt.of (x : Xt none H G H1 G1) : Xt b H G H1 G1 := ⟨x.sub0, x.gg, x.sub, fun a o _ h => x.hh a o (fun z => by cases z) h, x.th, x.nw⟩
theorem upd_same_ {H : Hp} {p : Addr} {o : HO} (h : H p = none) : Same H (upd H p o) := fun a u e => by rw [upd_ne (ne_of_none e h)]; exact e
theorem Xt.fresh (x : Xt b H G H1 G1) (h : H1 p = none) : H p = none := by
  cases e : H p with
  | none => rfl
  | some u => exact absurd h (x.th p (by rw [e]; exact fun z => by cases z))
/-- a new object, stable from now on -/
theorem Xt.new (s : Same G H) (h : H p = none) : Xt b H G (upd H p o) (upd G p o) := by
  have hg : G p = none := s.free h
  refine ⟨s, upd_same_ hg, fun a u e => ?_, fun a u _ e => upd_same_ h a u e, fun a e => ?_, fun a u e => ?_⟩
  · by_cases q : a = p
    · subst q; rw [upd_same] at e ⊢; exact e
    · rw [upd_ne q] at e ⊢; exact s a u e
  · by_cases q : a = p
    · subst q; rw [upd_same]; exact fun z => by cases z
    · rw [upd_ne q]; exact e
  · by_cases q : a = p
    · subst q; exact .inr h
    · rw [upd_ne q] at e; exact .inl e
/-- a new object that may change yet -/
theorem Xt.tmp (s : Same G H) (h : H p = none) : Xt b H G (upd H p o) G := by
  refine ⟨s, fun _ _ h => h, fun a u e => upd_same_ h a u (s a u e), fun a u _ e => upd_same_ h a u e, fun a e => ?_, fun a u e => .inl e⟩
  by_cases q : a = p
  · subst q; rw [upd_same]; exact fun z => by cases z
  · rw [upd_ne q]; exact e
/-- an own object (made behind H) is changed -/
theorem Xt.set (x : Xt b H G H1 G1) (h : H l = none) (hg : G1 l = none) : Xt b H G (upd H1 l o) G1 := by
  refine ⟨x.sub0, x.gg, fun a u e => ?_, fun a u n e => ?_, fun a e => ?_, x.nw⟩
  · rw [upd_ne (ne_of_none e hg)]; exact x.sub a u e
  · rw [upd_ne (ne_of_none e h)]; exact x.hh a u n e
  · by_cases q : a = l
    · subst q; rw [upd_same]; exact fun z => by cases z
    · rw [upd_ne q]; exact x.th a e
/-- the one old object is changed -/
theorem Xt.put {b : Addr} (x : Xt (some b) H G H1 G1) (hg : G1 b = none) : Xt (some b) H G (upd H1 b o) G1 := by
  refine ⟨x.sub0, x.gg, fun a u e => ?_, fun a u n e => ?_, fun a e => ?_, x.nw⟩
  · rw [upd_ne (ne_of_none e hg)]; exact x.sub a u e
  · rw [upd_ne (fun q => n (by rw [q]))]; exact x.hh a u n e
  · by_cases q : a = b
    · subst q; rw [upd_same]; exact fun z => by cases z
    · rw [upd_ne q]; exact x.th a e
/-- an own object becomes stable -/
theorem Xt.fix (x : Xt b H G H1 G1) (h : H l = none) (hl : H1 l = some o) : Xt b H G H1 (upd G1 l o) := by
  have g1 : Same G1 (upd G1 l o) := fun a u e => by
    by_cases q : a = l
    · subst q; rw [upd_same, ← hl]; exact x.sub a u e
    · rw [upd_ne q]; exact e
  refine ⟨x.sub0, fun a u e => g1 a u (x.gg a u e), fun a u e => ?_, x.hh, x.th, fun a u e => ?_⟩
  · by_cases q : a = l
    · subst q; rw [upd_same] at e; rw [hl]; exact e
    · rw [upd_ne q] at e; exact x.sub a u e
  · by_cases q : a = l
    · subst q; exact .inr h
    · rw [upd_ne q] at e; exact x.nw a u e
/-- what is not stable and old stays so -/
theorem Xt.non (x : Xt b H G H1 G1) (h : H l ≠ none) (hg : G l = none) : G1 l = none := by
  cases e : G1 l with
  | none => rfl
  | some u =>
    rcases x.nw l u e with z | z
    · rw [hg] at z; cases z
    · exact absurd z h
theorem Xt.alloc (x : Xt b H G H1 G1) (h : H1 p = none) : Xt b H G (upd H1 p o) (upd G1 p o) := x.trans (Xt.new x.sub h)
theorem Xt.allocT (x : Xt b H G H1 G1) (h : H1 p = none) : Xt b H G (upd H1 p o) G1 := x.trans (Xt.tmp x.sub h)
end
theorem ne_none_of {H : Hp} {a : Addr} {o : HO} (h : H a = some o) : H a ≠ none := by rw [h]; exact fun z => by cases z
theorem none_of_ne {G : Hp} {l p : Addr} {o : HO} (h : G l = none) (n : l ≠ p) : upd G p o l = none := by rw [upd_ne n]; exact h

/-! ### data in the stable part -/
mutual
inductive D (G : Hp) : V → PyData → Prop
  | non : D G .non .none
  | bl (b : Bool) : D G (.bl b) (.bool b)
  | int (i : Int) : D G (.int i) (.int i)
  | str (x : Str) : D G (.str x) (.str x)
  | lst {a : Addr} {xs : List V} {ds : List PyData} : G a = some (.lst xs) → DA G xs ds → D G (.ref a) (.list ds)
  | tup {a : Addr} {xs : List V} {ds : List PyData} : G a = some (.tup xs) → DA G xs ds → D G (.ref a) (.tuple ds)
inductive DA (G : Hp) : List V → List PyData → Prop
  | nil : DA G [] []
  | cons {v : V} {vs : List V} {d : PyData} {ds : List PyData} : D G v d → DA G vs ds → DA G (v :: vs) (d :: ds)
end
section
variable {G G' H : Hp} {K : PySem.W.Frag}
mutual
theorem D.mono (s : Same G G') : ∀ {d : PyData} {v : V}, D G v d → D G' v d
  | _, _, .non => .non
  | _, _, .bl b => .bl b
  | _, _, .int i => .int i
  | _, _, .str x => .str x
  | _, _, .lst h a => .lst (s _ _ h) (DA.mono s a)
  | _, _, .tup h a => .tup (s _ _ h) (DA.mono s a)
theorem DA.mono (s : Same G G') : ∀ {ds : List PyData} {vs : List V}, DA G vs ds → DA G' vs ds
  | _, _, .nil => .nil
  | _, _, .cons h a => .cons (D.mono s h) (DA.mono s a)
end
mutual
theorem D.dp (s : Same G H) : ∀ {d : PyData} {v : V}, D G v d → Dp K H v d
  | _, _, .non => .non
  | _, _, .bl b => .bl b
  | _, _, .int i => .int i
  | _, _, .str x => .str x
  | _, _, .lst h a => .lst (SqL.of (s _ _ h)) (DA.dp s a)
  | _, _, .tup h a => .tup (SqT.of (s _ _ h)) (DA.dp s a)
theorem DA.dp (s : Same G H) : ∀ {ds : List PyData} {vs : List V}, DA G vs ds → DpAll K H vs ds
  | _, _, .nil => .nil
  | _, _, .cons h a => .cons (D.dp s h) (DA.dp s a)
end
theorem DA.length : ∀ {ds : List PyData} {vs : List V}, DA G vs ds → vs.length = ds.length
  | _, _, .nil => rfl
  | _, _, .cons _ a => by rw [List.length_cons, List.length_cons, DA.length a]
theorem DA.get : ∀ {ds : List PyData} {vs : List V} {i : Nat} {v : V}, DA G vs ds → vs[i]? = some v → ∃ d, ds[i]? = some d ∧ D G v d
  | _, _, i, v, .nil, h => by simp at h
  | _, _, 0, v, .cons h a, e => by simp at e; subst e; exact ⟨_, rfl, h⟩
  | _, _, i + 1, v, .cons h a, e => by
    obtain ⟨d, h1, h2⟩ := DA.get (i := i) (v := v) a (by simpa using e)
    exact ⟨d, by simpa using h1, h2⟩
theorem DA.at : ∀ {ds : List PyData} {vs : List V} {i : Nat} {d : PyData}, DA G vs ds → ds[i]? = some d → ∃ v, vs[i]? = some v ∧ D G v d
  | _, _, i, v, .nil, h => by simp at h
  | _, _, 0, v, .cons h a, e => by simp at e; subst e; exact ⟨_, rfl, h⟩
  | _, _, i + 1, v, .cons h a, e => by
    obtain ⟨d, h1, h2⟩ := DA.at (i := i) (d := v) a (by simpa using e)
    exact ⟨d, by simpa using h1, h2⟩
theorem DA.append : ∀ {ds es : List PyData} {vs ws : List V}, DA G vs ds → DA G ws es → DA G (vs ++ ws) (ds ++ es)
  | _, _, _, _, .nil, b => b
  | _, _, _, _, .cons h a, b => .cons h (DA.append a b)
theorem DA.one {v : V} {d : PyData} (h : D G v d) : DA G [v] [d] := .cons h .nil
theorem DA.take : ∀ {ds : List PyData} {vs : List V} (n : Nat), DA G vs ds → DA G (vs.take n) (ds.take n)
  | _, _, 0, _ => .nil
  | _, _, _ + 1, .nil => .nil
  | _, _, n + 1, .cons h a => .cons h (DA.take n a)
theorem DA.drop : ∀ {ds : List PyData} {vs : List V} (n : Nat), DA G vs ds → DA G (vs.drop n) (ds.drop n)
  | _, _, 0, r => r
  | _, _, _ + 1, .nil => .nil
  | _, _, n + 1, .cons _ a => DA.drop n a
theorem DA.reverse {ds : List PyData} {vs : List V} (a : DA G vs ds) : DA G vs.reverse ds.reverse := by
  induction vs generalizing ds with
  | nil => cases a; exact .nil
  | cons v vs ih =>
    cases a with
    | cons h a => rw [List.reverse_cons, List.reverse_cons]; exact (ih a).append (.one h)
theorem DA.ints : ∀ {ns : List Int} {vs : List V}, DA G vs (ns.map .int) → vs = ns.map V.int
  | [], _, .nil => rfl
  | n :: ns, _, .cons h a => by
    cases h
    rw [DA.ints a] <;> rfl
theorem DA.ofInts : ∀ (ns : List Int), DA G (ns.map V.int) (ns.map .int)
  | [] => .nil
  | n :: ns => .cons (.int n) (DA.ofInts ns)
theorem DA.strs : ∀ {ns : List Str} {vs : List V}, DA G vs (ns.map .str) → vs = ns.map V.str
  | [], _, .nil => rfl
  | n :: ns, _, .cons h a => by
    cases h
    rw [DA.strs a] <;> rfl
theorem DA.ofStrs : ∀ (ns : List Str), DA G (ns.map V.str) (ns.map .str)
  | [] => .nil
  | n :: ns => .cons (.str n) (DA.ofStrs ns)
theorem D.list_inv {v : V} {ds : List PyData} (h : D G v (.list ds)) : ∃ a xs, v = .ref a ∧ G a = some (.lst xs) ∧ DA G xs ds := by
  cases h with
  | lst h a => exact ⟨_, _, rfl, h, a⟩
theorem D.tup_inv {v : V} {ds : List PyData} (h : D G v (.tuple ds)) : ∃ a xs, v = .ref a ∧ G a = some (.tup xs) ∧ DA G xs ds := by
  cases h with
  | tup h a => exact ⟨_, _, rfl, h, a⟩
end

/-! ### the bag of draws -/
/-- the bag at b, from which at most c numbers were drawn -/
def Bag (H : Hp) (b : Addr) (c : Int) : Prop := ∃ x y z : Int, H b = some (.lst [.int x, .int y, .int z]) ∧ 0 ≤ y ∧ y < 8000000000000000000 ∧ 0 ≤ z ∧ z ≤ c
theorem Bag.mono {H : Hp} {b : Addr} {c d : Int} (h : Bag H b c) (e : c ≤ d) : Bag H b d := by
  obtain ⟨x, y, z, h1, h2, h3, h4, h5⟩ := h
  exact ⟨x, y, z, h1, h2, h3, h4, Int.le_trans h5 e⟩
theorem Bag.ne {H : Hp} {b : Addr} {c : Int} (h : Bag H b c) : H b ≠ none := by
  obtain ⟨x, y, z, h1, _⟩ := h
  exact ne_none_of h1
theorem Bag.keep {H G H' G' : Hp} {b : Addr} {c : Int} (h : Bag H b c) (x : Xt none H G H' G') : Bag H' b c := by
  obtain ⟨x1, y, z, h1, h2⟩ := h
  exact ⟨x1, y, z, x.hh b _ (fun z => by cases z) h1, h2⟩
theorem Bag.new {H : Hp} {b p : Addr} {c : Int} {o : HO} (h : Bag H b c) (hp : H p = none) : Bag (upd H p o) b c := by
  obtain ⟨x1, y, z, h1, h2⟩ := h
  exact ⟨x1, y, z, upd_same_ hp _ _ h1, h2⟩
theorem Bag.upd {H : Hp} {b p : Addr} {c : Int} {o : HO} (h : Bag H b c) (hp : b ≠ p) : Bag (upd H p o) b c := by
  obtain ⟨x1, y, z, h1, h2⟩ := h
  exact ⟨x1, y, z, by rw [upd_ne hp]; exact h1, h2⟩

/-- the law's helpers that draw -/
def spTake : Sp := fun vs H Q _ => ∃ (b : Addr) (n c : Int), vs = [.ref b, .int n] ∧ 0 < n ∧ n ≤ 1000000 ∧ Bag H b c ∧ c ≤ 1000000 ∧
  ∀ r x y z : Int, 0 ≤ r → r < n → Bag (upd H b (.lst [.int x, .int y, .int z])) b (c + 1) → Q (.int r) (upd H b (.lst [.int x, .int y, .int z]))
/-- _law_of: an item -/
def spOf : Sp := fun vs H Q _ => ∃ (b a : Addr) (xs : List V) (c : Int), vs = [.ref b, .ref a] ∧ H a = some (.lst xs) ∧ a ≠ b ∧ xs ≠ [] ∧ xs.length ≤ 1000000 ∧ Bag H b c ∧ c ≤ 1000000 ∧
  ∀ (v : V) (i : Nat) (x y z : Int), xs[i]? = some v → Bag (upd H b (.lst [.int x, .int y, .int z])) b (c + 1) → Q v (upd H b (.lst [.int x, .int y, .int z]))
/-- _law_bag: a new bag -/
def spBag (K : PySem.W.Frag) : Sp := fun vs H Q _ => ∃ (a : Addr) (ns : List Int) (i : Int), vs = [.ref a, .int i] ∧ SqL K H a (ns.map V.int) ∧ 0 ≤ i ∧ i ≤ 1000 ∧
  ∀ (p : Addr) (x y z : Int), H p = none → Bag (upd H p (.lst [.int x, .int y, .int z])) p 0 → Q (.ref p) (upd H p (.lst [.int x, .int y, .int z]))
end Nw
/-! Own layer: an own class's len, repr, in, ==, !=. -/
namespace PySem.W
open PySem PySem.Calls PyProof.Rows Builtin
section
variable {prog : Program} {w : World} {A : Around} {E : Value → Shared → Prop} {s : Shared} {K : Frag} {x C L f : Addr} {h₀ : Heap} {m : Str → Option Value} {ox : Obj} {od : Option Obj} {b tb : Value}
theorem nw_ifBoundB {M : Model} {name : Str} {id : String} {args : List Value} {Q : Option Value → Shared → Prop} (X : K.In s.heap) (I : InstAt s.heap x ox C od) (hs : findIn K (.ref C) name = some (some (.builtin id)))
    (hb : ∀ self, bindSpecial (.builtin id) self = pure (.builtin id, [self])) (h : wpAny M A (call (.builtin id) (.ref x :: args)) (fun v => Q (some v)) E s) : wpAny M A (callSpecialIfBound? (.ref x) name args) Q E s := by
  simp only [callSpecialIfBound?, bindSpecialIfBound?]
  refine wpAny_holding (wpAny_bind (wpAny_bind (wpAny_bind (I.type.here ((looks_findIn X hs).here ?_)))))
  refine wpAny_bind (wpAny_askSetting (wpAny_ite ?_))
  have fin : wpAny M A (call (.builtin id) ([.ref x] ++ args) >>= fun v => pure (some v)) Q E s := wpAny_bind (wpAny_mono h (fun v s' h' => wpAny_pure h') fun _ _ h' => h')
  split
  · exact wpAny_bind ((Looks.of_pure (hb _)).here (wpAny_pure (by exact fin)))
  · exact wpAny_tryCatch (wpAny_bind ((Looks.of_pure (hb _)).here (wpAny_pure (by exact fin))))
theorem nw_objNe {Q : Value → Shared → Prop} (hu : A.in1.units < cLine) (X : K.In s.heap) (I : InstAt s.heap x ox C od) (hm : mroIn K C (.type "object") = some true) (hs : findIn K (.ref C) "__eq__" = some (some (.ref f))) (hf : isFn K (.ref f) = true)
    (h : wpAny (model prog w) A.in1 (call (.ref f) [.ref x, b]) (fun v s' => ∃ r, v = .bool r ∧ Q (.bool (!r)) s') E s) : wpAny (model prog w) A (call (.builtin "object.__ne__") [.ref x, b]) Q E s := by
  refine wpAny_call (codeAny_call_builtin PySem.F.cmp_object.ne.plain PySem.F.cmpEntry_ne (check_slot (i := "object.__ne__") (owner := "object") (n := "__ne__") PySem.F.cmpKind_ne PySem.F.cmpSplit_ne (I.type.andThen (looks_mroIn X hm)) (PySem.F.cmpArgs_ne _ _) ?_))
  unfold Builtin.«object.__ne__»
  repeat (first
    | with_reducible refine wpAny_cRoomFor hu ?_
    | (refine wpAny_bind (m := callSpecialIfBound? (.ref x) (Str.ofString "__eq__") [b])
        (ifBound_K X I hs hf (wpAny_mono h (fun r s' hr => by
          obtain ⟨r, rfl, hq⟩ := hr
          repeat (first | exact hq | exact wpAny_pure hq | exact wpAny_truthy_bool hq | (refine wpAny_bind (m := truthy (.bool _)) (wpAny_truthy_bool ?_)) | wp_step)) fun _ _ e => e)))
    | wp_step)
theorem nw_ne {Q : Value → Shared → Prop} (hu : A.in1.units < cLine) (F : Fr h₀ L s.heap m) (X₀ : K.In h₀) (I : InstAt s.heap x ox C od) (hb : Looks (model prog w) s.heap (typeOf b) tb) (hn : notFirst K C tb = true)
    (hne : findIn K (.ref C) "__ne__" = some (some (.builtin "object.__ne__"))) (hm : mroIn K C (.type "object") = some true) (hs : findIn K (.ref C) "__eq__" = some (some (.ref f))) (hf : isFn K (.ref f) = true)
    (h : wpAny (model prog w) A.in1 (call (.ref f) [.ref x, b]) (fun v s' => ∃ r, v = .bool r ∧ Q (.bool (!r)) s') E s) : wpAny (model prog w) A (richCompare .NotEq (.ref x) b) Q E s := by
  have X := X₀.keeps F.keep
  have hu0 : A.units < cLine := Nat.lt_of_le_of_lt (Nat.le_succ _) hu
  have one : wpAny (model prog w) A (tryCompare (.ref x) (cmpInfo .NotEq).2.1 b) (fun r s' => ∃ v, r = some v ∧ Q v s') E s := by
    unfold tryCompare
    refine wpAny_bind (nw_ifBoundB X I hne PySem.F.cmp_object.ne.bind (nw_objNe hu X I hm hs hf (wpAny_mono h (fun v s' hv => ?_) fun _ _ e => e)))
    obtain ⟨r, rfl, hq⟩ := hv
    exact ⟨r, rfl, wpAny_pure ⟨_, rfl, hq⟩⟩
  unfold richCompare
  simp only [oneThing_ref]
  refine wpAny_holding (wpAny_bind (wpAny_cRoomFor hu0 ?_))
  refine wpAny_bind (I.type.here (wpAny_bind (hb.here ?_)))
  split
  · rename_i q
    have e : subIn K tb (.ref C) = some false := by
      rcases Bool.or_eq_true_iff.mp hn with e | e
      · rw [beq_iff_eq.mp e] at q; simp at q
      · exact beq_iff_eq.mp e
    refine wpAny_bind ((looks_subIn X e).here ?_)
    simp only [Bool.false_eq_true, if_false]
    refine wpAny_bind (wpAny_mono one (fun r s' z => ?_) fun _ _ e => e)
    obtain ⟨v, rfl, hq⟩ := z
    exact wpAny_pure hq
  · refine wpAny_bind (wpAny_pure ?_)
    simp only [Bool.false_eq_true, if_false]
    refine wpAny_bind (wpAny_mono one (fun r s' z => ?_) fun _ _ e => e)
    obtain ⟨v, rfl, hq⟩ := z
    exact wpAny_pure hq
end
end PySem.W
namespace Nw
open PySem L2 PySem.Spec PyProof.Rows
/-- a special method of the class at C, by its promise -/
structure Own (P : Program) (w : World) (K : PySem.W.Frag) (mg : Str → Option Value) (base : Heap) (k : Nat) (C : Addr) (m : Str) (sp : Sp) : Prop where
  ex : ∃ (f : Addr) (fd : FuncData) (ps : List Str), FnOk P w K mg base CX0 k f fd ps sp ∧ PySem.W.findIn K (.ref C) m = some (some (.ref f)) ∧ PySem.W.isFn K (.ref f) = true ∧ Binds K fd ps []
section
variable {X : Cx} {k : Nat} {C : Addr} {sp : Sp}
theorem Env0.at {X : Cx} {pins : List (Addr × Obj)} {σ : L2.St} {H : Hp} {s : Shared} (I : Inv X pins σ H s) {A : Around} (h : A.frames = X.A.frames) : Env0 X.prog X.w X.K X.mg X.base A X.stack s H := by
  have e := I.env0
  exact ⟨by rw [h]; exact e.frames, e.mod, e.bs, e.bsz, e.funs, e.frf, e.hok, e.bare⟩
/-- the method's call, somewhere below X -/
theorem own_call {m : Str} (O : Own X.prog X.w X.K X.mg X.base k C m sp) {A : Around} (hr : Room k A) (hfr : A.frames = X.A.frames) {pins : List (Addr × Obj)} {σ : L2.St} {H : Hp} {s : Shared} (I : Inv X pins σ H s) {us : List Value} {vs : List V} {Q : VK} {R : Value → Shared → Prop} (r : Vals vs us)
    (h : sp vs H Q E0) (hq : ∀ u s', EP X pins σ Q u s' → R u s') :
    ∃ f, PySem.W.findIn X.K (.ref C) m = some (some (.ref f)) ∧ PySem.W.isFn X.K (.ref f) = true ∧ wpAny (model X.prog X.w) A (call (.ref f) us) R X.xe s := by
  obtain ⟨f, fd, ps, F, h1, h2, hb⟩ := O.ex
  refine ⟨f, h1, h2, ?_⟩
  have hl : us.length = ps.length := by rw [← r.length]; exact F.len _ _ _ _ h
  have b := hb s us I.kIn (by rw [List.append_nil]; exact hl)
  rw [List.append_nil] at b
  refine wpAny_call (codeAny_mono (F.run A X.stack s H ⟨us, []⟩ us vs Q E0 hr (Env0.at I hfr) b r h) fun r s' hq' => ?_)
  cases r with
  | error e => exact hq'.elim
  | ok fl =>
    cases fl with
    | ret u => exact hq u s' (I.after hq')
    | next => exact False.elim hq'
    | brk => exact False.elim hq'
    | cont => exact False.elim hq'
def rLenO (C : Addr) (sp : Sp) : List V → Hp → VK → Prop := fun xs H Q => ∃ (a dx : Addr) (fs : List (Str × V)), xs = [.ref a] ∧ H a = some (.ins C dx fs) ∧ sp [.ref a] H (fun v H' => ∃ n : Int, v = .int n ∧ 0 ≤ n ∧ n < 2 ^ 63 ∧ Q (.int n) H') E0
theorem call_lenO (O : Own X.prog X.w X.K X.mg X.base k C "__len__" sp) (hr : Room (k + 1) X.A) : CallR X (.builtin "len") (rLenO C sp) := by
  intro pins s σ H xs us Q I r h
  obtain ⟨a, dx, fs, rfl, ha, hsp⟩ := h
  obtain ⟨u, rfl, r1⟩ := vals1 r
  cases r1
  obtain ⟨mA, J, _⟩ := ins_get I.hok ha
  obtain ⟨od, J, _⟩ := J.look
  obtain ⟨m, hF⟩ := I.fr
  obtain ⟨f, h1, h2, h3⟩ := own_call (A := X.A.in1) (us := [Value.ref a]) (vs := [V.ref a]) (R := PySem.W.LenBack (EP X pins σ Q)) O hr.in1 rfl I (.cons rfl .nil) hsp fun u s' hu => by
    obtain ⟨v, H', I', rv, n, rfl, n0, n1, q⟩ := hu
    obtain ⟨t, rfl⟩ := rv
    exact ⟨⟨n0, n1⟩, .int n, H', I'.tok _, ⟨_, rfl⟩, q⟩
  exact PySem.W.len_K hF I.ok.mod.kin J h1 h2 h3
def rReprO (C : Addr) (sp : Sp) : List V → Hp → VK → Prop := fun xs H Q => ∃ (a dx : Addr) (fs : List (Str × V)), xs = [.ref a] ∧ H a = some (.ins C dx fs) ∧ sp [.ref a] H (fun v H' => ∃ z : Str, v = .str z ∧ Q (.str z) H') E0
theorem call_reprO (O : Own X.prog X.w X.K X.mg X.base k C "__repr__" sp) (hr : Room (k + 1) X.A) : CallR X (.builtin "repr") (rReprO C sp) := by
  intro pins s σ H xs us Q I r h
  obtain ⟨a, dx, fs, rfl, ha, hsp⟩ := h
  obtain ⟨u, rfl, r1⟩ := vals1 r
  cases r1
  obtain ⟨mA, J, _⟩ := ins_get I.hok ha
  obtain ⟨od, J, _⟩ := J.look
  obtain ⟨m, hF⟩ := I.fr
  obtain ⟨f, h1, h2, h3⟩ := own_call (A := X.A.in1) (us := [Value.ref a]) (vs := [V.ref a]) (R := PySem.W.StrBack (EP X pins σ Q)) O hr.in1 rfl I (.cons rfl .nil) hsp fun u s' hu => by
    obtain ⟨v, H', I', rv, z, rfl, q⟩ := hu
    obtain ⟨t, rfl⟩ := rv
    exact ⟨.str z, H', I', ⟨_, rfl⟩, q⟩
  exact PySem.W.repr_K (hr.in1).units0 hF I.ok.mod.kin J h1 h2 h3
/-- y in x, x an instance -/
def rInO (C : Addr) (sp : Sp) (neg : Bool) : R2 := fun y x H Q => ∃ (a dx : Addr) (fs : List (Str × V)), x = .ref a ∧ H a = some (.ins C dx fs) ∧ sp [.ref a, y] H (fun v H' => ∃ r : Bool, v = .bl r ∧ Q (.bl (if neg then !r else r)) H') E0
theorem op_inO (O : Own X.prog X.w X.K X.mg X.base k C "__contains__" sp) (hr : Room k X.A) : OpR X (compareOp .In) (rInO C sp false) := by
  intro pins s σ H y x v u Q I ry rx h
  obtain ⟨a, dx, fs, rfl, ha, hsp⟩ := h
  cases rx
  obtain ⟨mA, J, _⟩ := ins_get I.hok ha
  obtain ⟨od, J, _⟩ := J.look
  obtain ⟨m, hF⟩ := I.fr
  obtain ⟨f, h1, h2, h3⟩ := own_call (A := X.A) (us := [Value.ref a, v]) (vs := [V.ref a, y]) (R := fun r s' => wpAny (model X.prog X.w) X.A (truthy r) (fun b => EP X pins σ Q (.bool b)) X.xe s') O hr rfl I (.cons rfl (.cons ry .nil)) hsp fun u s' hu => by
    obtain ⟨v, H', I', rv, z, rfl, q⟩ := hu
    cases rv
    exact wpAny_truthy_bool ⟨.bl z, H', I', rfl, q⟩
  exact PySem.W.in_K hF I.ok.mod.kin J h1 h2 h3
/-- x == y, x != y by an own __eq__ -/
def rEqO (C : Addr) (sp : Sp) (neg : Bool) : R2 := fun x y H Q => ∃ (a dx : Addr) (fs : List (Str × V)), x = .ref a ∧ H a = some (.ins C dx fs) ∧ sp [.ref a, y] H (fun v H' => ∃ r : Bool, v = .bl r ∧ Q (.bl (if neg then !r else r)) H') E0
/-- the right side's type: none that C is a base of -/
structure NoFirst (K : PySem.W.Frag) (C : Addr) : Prop where
  non : PySem.W.notFirst K C (.type "NoneType") = true
  bl : PySem.W.notFirst K C (.type "bool") = true
  int : PySem.W.notFirst K C (.type "int") = true
  str : PySem.W.notFirst K C (.type "str") = true
  lst : PySem.W.notFirst K C (.type "list") = true
  tup : PySem.W.notFirst K C (.type "tuple") = true
  ne : PySem.W.findIn K (.ref C) "__ne__" = some (some (.builtin "object.__ne__"))
  mro : PySem.W.mroIn K C (.type "object") = some true
def plainV (K : PySem.W.Frag) (C : Addr) (H : Hp) : V → Prop
  | .non => True
  | .bl _ => True
  | .int _ => True
  | .str _ => True
  | .ref a => (∃ xs, H a = some (.lst xs)) ∨ (∃ xs, H a = some (.tup xs)) ∨ ∃ dx fs, H a = some (.ins C dx fs)
  | _ => False
theorem looks_plain (N : NoFirst X.K C) {pins : List (Addr × Obj)} {σ : L2.St} {H : Hp} {s : Shared} (I : Inv X pins σ H s) {y : V} {v : Value} (ry : RelV y v) (h : plainV X.K C H y) {M : Model} :
    ∃ tb, PySem.W.Looks M s.heap (typeOf v) tb ∧ PySem.W.notFirst X.K C tb = true := by
  have go : ∀ {t : Value}, TyX X.K H y t → PySem.W.Looks M s.heap (typeOf v) t := fun {t} ty => by
    obtain ⟨P, Z, p, _⟩ := kit_of I ry ty
    exact Z.ty M s.heap I.kIn p
  cases y with
  | non => exact ⟨_, go (.base .non), N.non⟩
  | bl b => exact ⟨_, go (.base (.bl b)), N.bl⟩
  | int i => exact ⟨_, go (.base (.int i)), N.int⟩
  | str z => exact ⟨_, go (.base (.str z)), N.str⟩
  | ref a =>
    rcases h with ⟨xs, h⟩ | ⟨xs, h⟩ | ⟨dx, fs, h⟩
    · exact ⟨_, go (.base (.lst h)), N.lst⟩
    · exact ⟨_, go (.base (.tup h)), N.tup⟩
    · cases ry
      obtain ⟨mA, J, _⟩ := ins_get I.hok h
      obtain ⟨od, J, _⟩ := J.look
      exact ⟨.ref C, J.type, by simp [PySem.W.notFirst]⟩
  | byt b => exact h.elim
  | flt b => exact h.elim
  | ty n => exact h.elim
theorem op_eqO (O : Own X.prog X.w X.K X.mg X.base k C "__eq__" sp) (N : NoFirst X.K C) (hr : Room k X.A) : OpR X (compareOp .Eq) (fun x y H Q => plainV X.K C H y ∧ rEqO C sp false x y H Q) := by
  intro pins s σ H x y v u Q I rx ry h
  obtain ⟨hy, a, dx, fs, rfl, ha, hsp⟩ := h
  cases rx
  obtain ⟨mA, J, _⟩ := ins_get I.hok ha
  obtain ⟨od, J, _⟩ := J.look
  obtain ⟨m, hF⟩ := I.fr
  obtain ⟨tb, l1, l2⟩ := looks_plain (M := model X.prog X.w) N I ry hy
  obtain ⟨f, h1, h2, h3⟩ := own_call (A := X.A) (us := [Value.ref a, u]) (vs := [V.ref a, y]) (R := PySem.W.CmpBack (EP X pins σ Q)) O hr rfl I (.cons rfl (.cons ry .nil)) hsp fun u s' hu => by
    obtain ⟨v, H', I', rv, z, rfl, q⟩ := hu
    cases rv
    exact ⟨.bl z, H', I', rfl, q⟩
  show wpAny (model X.prog X.w) X.A (richCompare .Eq _ _) _ _ _
  exact PySem.W.cmp_K (op := .Eq) hr.units0 hF I.ok.mod.kin J l1 l2 h1 h2 h3
theorem op_neO (O : Own X.prog X.w X.K X.mg X.base k C "__eq__" sp) (N : NoFirst X.K C) (hr : Room (k + 1) X.A) : OpR X (compareOp .NotEq) (fun x y H Q => plainV X.K C H y ∧ rEqO C sp true x y H Q) := by
  intro pins s σ H x y v u Q I rx ry h
  obtain ⟨hy, a, dx, fs, rfl, ha, hsp⟩ := h
  cases rx
  obtain ⟨mA, J, _⟩ := ins_get I.hok ha
  obtain ⟨od, J, _⟩ := J.look
  obtain ⟨m, hF⟩ := I.fr
  obtain ⟨tb, l1, l2⟩ := looks_plain (M := model X.prog X.w) N I ry hy
  obtain ⟨f, h1, h2, h3⟩ := own_call (A := X.A.in1) (us := [Value.ref a, u]) (vs := [V.ref a, y]) (R := fun v s' => ∃ r, v = .bool r ∧ EP X pins σ Q (.bool (!r)) s') O hr.in1 rfl I (.cons rfl (.cons ry .nil)) hsp fun u s' hu => by
    obtain ⟨v, H', I', rv, z, rfl, q⟩ := hu
    cases rv
    exact ⟨z, rfl, .bl (!z), H', I', rfl, q⟩
  show wpAny (model X.prog X.w) X.A (richCompare .NotEq _ _) _ _ _
  exact PySem.W.nw_ne (hr.in1).units0 hF I.ok.mod.kin J l1 l2 N.ne N.mro h1 h2 h3
end
end Nw
/-! Own layer: comprehensions that make data. -/
namespace Nw
open PySem L2 PySem.Spec PyProof.Rows RZ
theorem small_line {n : Nat} (h : n ≤ 100000) : n ≤ sizeLine := Nat.le_trans h (by decide)
theorem small_lt {n : Nat} (h : n < 100000) : n < sizeLine := Nat.lt_of_lt_of_le h (by decide)
theorem getElem?_lt {α : Type} {l : List α} {i : Nat} {x : α} (h : l[i]? = some x) : i < l.length := (List.getElem?_eq_some_iff.mp h).1
theorem take_succ_of {α : Type} {l : List α} {i : Nat} {x : α} (h : l[i]? = some x) : l.take (i + 1) = l.take i ++ [x] := by
  rw [List.take_add_one, h]; rfl
theorem walk_zipT {K : PySem.W.Frag} {a b : Addr} {xs ys : List V} {n : Nat} (hn : n = min xs.length ys.length) : Walk (ItzT K a b) n (fun H => SqT K H a xs ∧ SqT K H b ys) (YPair (fun i => xs[i]?) (fun i => ys[i]?)) := by
  subst hn
  refine ⟨fun i _ hi q => ?_, fun _ q => ⟨xs, ys, q.1, q.2, by omega⟩, fun i H v H' _ q y => ?_⟩
  · have h1 : i < xs.length := by omega
    have h2 : i < ys.length := by omega
    exact ⟨xs, ys, xs[i], ys[i], q.1, q.2, by simp [h1], by simp [h2]⟩
  · obtain ⟨T, x, z, h1, h2, h3, h4, h5⟩ := y
    exact ⟨T, x, z, h1, h2, h3, h4 xs q.1, h5 ys q.2⟩
theorem map_eraseIdx {α β : Type} (f : α → β) : ∀ (l : List α) (i : Nat), (l.map f).eraseIdx i = (l.eraseIdx i).map f
  | [], _ => rfl
  | _ :: _, 0 => rfl
  | a :: l, i + 1 => by
    show f a :: (l.map f).eraseIdx i = f a :: (l.eraseIdx i).map f
    rw [map_eraseIdx f l i]
theorem perm_eraseIdx {α : Type} : ∀ {l : List α} {i : Nat} {x : α}, l[i]? = some x → (x :: l.eraseIdx i).Perm l
  | [], i, x, h => by simp at h
  | a :: l, 0, x, h => by simp at h; subst h; exact .refl _
  | a :: l, i + 1, x, h => by
    have ih := perm_eraseIdx (l := l) (i := i) (x := x) (by simpa using h)
    exact (List.Perm.swap a x (l.eraseIdx i)).trans (ih.cons a)
/-- a comprehension without a test whose i-th item is the datum ds[i]; b: what may change meanwhile, R: what is kept of that by turns -/
theorem lc_data {J : It} {n : Nat} {Gp : Hp → Prop} {Y : Nat → Hp → V → Hp → Prop} (w : Walk J n Gp Y) {b : Option Addr} {R : Nat → Hp → Prop} {g : TG} {te : TE} {vs : List Nat} {σ : L2.St} {H G : Hp} {Dl : Addr} {Qd : Hp → Prop}
    (ds : List PyData) (hn : ds.length = n) (hz : n < 100000) (hD : H Dl = none) (s : Same G H) (hb : b ≠ some Dl) (hR0 : R 0 H) (hR : ∀ i H o, R i H → R i (upd H Dl o))
    (hG : ∀ i H1 G1, Xt b H G H1 G1 → R i H1 → Gp H1)
    (hs : ∀ i x H1 G1 H2 d, ds[i]? = some d → Xt b H G H1 G1 → R i H1 → Y i H1 x H2 → ∀ Qy : VK, (∀ y H4 G4, Xt b H1 G1 H4 G4 → R (i + 1) H4 → D G4 y d → Qy y H4) → g x (wipe σ vs) H2 fun σ2 H3 => wipe σ2 vs = wipe σ vs ∧ te σ2 H3 Qy)
    (hd : ∀ H1 G1 xs, Xt b H G H1 G1 → R n H1 → H1 Dl = some (.lst xs) → G1 Dl = none → DA G1 xs ds → Qd H1) :
    ∃ W : Nat → Nat → Hp → Prop, (∃ m, W 0 m (upd H Dl (.lst []))) ∧ ∀ i m H, W i m H →
      (J.stop i H ∧ Qd H) ∨ (J.go i H ∧ ∃ Nx : Hp → Prop, (∀ H', Nx H' → ∃ m', m' < m ∧ W (i + 1) m' H') ∧ ∀ x H', J.yld i H x H' → g x (wipe σ vs) H' fun σ2 H2 => wipe σ2 vs = wipe σ vs ∧ tYes σ2 H2 fun b H3 =>
        if b = true then te σ2 H3 fun y H4 => ∃ acc, H4 Dl = some (.lst acc) ∧ acc.length < sizeLine ∧ Nx (upd H4 Dl (.lst (acc ++ [y]))) else Nx H3) := by
  have hgD : G Dl = none := s.free hD
  refine lc_it w (Qd := Qd) (fun i H1 => ∃ G1 xs, Xt b H G H1 G1 ∧ R i H1 ∧ H1 Dl = some (.lst xs) ∧ G1 Dl = none ∧ DA G1 xs (ds.take i)) ⟨G, [], Xt.tmp s hD, hR 0 H _ hR0, upd_same, hgD, .nil⟩ (fun i H1 hi ⟨G1, xs, x, r, _⟩ => hG i H1 G1 x r) ?_ ?_
  · rintro i x H1 H2 hi ⟨G1, xs, X1, r, hl, hg, da⟩ hy
    have hi' : i < ds.length := by omega
    have hdi : ds[i]? = some ds[i] := List.getElem?_eq_getElem hi'
    have hl0 : H1 Dl ≠ none := ne_none_of hl
    refine hs i x H1 G1 H2 ds[i] hdi X1 r hy (fun y H4 => ∃ acc, H4 Dl = some (.lst acc) ∧ acc.length < sizeLine ∧ ∃ G1 xs, Xt b H G (upd H4 Dl (.lst (acc ++ [y]))) G1 ∧ R (i + 1) (upd H4 Dl (.lst (acc ++ [y]))) ∧ upd H4 Dl (.lst (acc ++ [y])) Dl = some (.lst xs) ∧ G1 Dl = none ∧ DA G1 xs (ds.take (i + 1))) fun y H4 G4 X4 r4 d4 => ?_
    have l1 : xs.length < sizeLine := by
      have := da.length
      rw [List.length_take] at this
      exact small_lt (by omega)
    refine ⟨xs, X4.hh Dl _ hb hl, l1, G4, xs ++ [y], (X1.trans X4).set hD (X4.non hl0 hg), hR _ _ _ r4, upd_same, X4.non hl0 hg, ?_⟩
    rw [take_succ_of hdi]
    exact (da.mono X4.gg).append (.one d4)
  · rintro H1 ⟨G1, xs, X1, r, hl, hg, da⟩
    rw [show ds.take n = ds from List.take_of_length_le (by omega)] at da
    exact hd H1 G1 xs X1 r hl hg da
/-! ### rules whose reading speaks of K, told with K itself (within a comprehension) -/
section
variable {X : Cx} {K : PySem.W.Frag}
theorem pa_starK {e : Expr} {es : List Expr} {te : TE} {t : TA} {p : Pos} (hK : X.K = K) (he : PE X e te) (hr : PA X es t) (hs : starEach (.Starred e p :: es) X.env = (true, eval e X.env) :: starEach es X.env := by rfl) : PA X (.Starred e p :: es) (StX.tStar K te t) := by
  subst hK; exact StX.pa_star he hr hs
theorem pe_fldK {e : Expr} {f : Str} {ta : TE} {pos : Pos} (hK : X.K = K) (he : PE X e ta) (hb : attributeBase e f X.env (eval e X.env) = eval e X.env) : PE X (.Attribute e f pos) (tFld K ta f) := by
  subst hK; exact pe_fld he hb
theorem ix_tupK (hK : X.K = K) : IxR X (rIxT K) := by subst hK; exact ix_tup
theorem ix_listK (hK : X.K = K) : IxR X (rIxL K) := by subst hK; exact ix_list
theorem op_in_seqK (hK : X.K = K) : OpR X (compareOp .In) (rIn K false) := by subst hK; exact op_in_seq
theorem op_notIn_seqK (hK : X.K = K) : OpR X (compareOp .NotIn) (rIn K true) := by subst hK; exact op_notIn_seq
theorem op_catTK (hK : X.K = K) : OpR X (binaryOp .Add) (rCatT K) := by subst hK; exact op_catT
theorem op_eqDK (hK : X.K = K) (hu : X.A.units + 64 < cLine) : OpR X (compareOp .Eq) (rEqD K) := by subst hK; exact op_eqD hu
theorem op_neDK (hK : X.K = K) (hu : X.A.units + 64 < cLine) : OpR X (compareOp .NotEq) (rNeD K) := by subst hK; exact op_neD hu
end
end Nw
namespace Nw
open PySem L2 PySem.Spec PyProof.Rows RZ
/-- a comprehension of two loops without tests: the i-th turn of the outer one gives the data dss[i] -/
theorem lc2_data {J : It} {n : Nat} {Gp : Hp → Prop} {Y : Nat → Hp → V → Hp → Prop} (w : Walk J n Gp Y) {g g1 : TG} {wi1 : TI} {te : TE} {vs vs1 : List Nat} {σ : L2.St} {H G : Hp} {Dl : Addr} {Qd : Hp → Prop}
    (dss : List (List PyData)) (hn : dss.length = n) (hz : dss.flatten.length < 100000) (hD : H Dl = none) (s : Same G H)
    (hG : ∀ H1 G1, Xt none H G H1 G1 → Gp H1)
    (hs : ∀ i x H1 G1 H2 ds, dss[i]? = some ds → Xt none H G H1 G1 → Y i H1 x H2 → ∀ Qi : L2.St → It → Hp → Prop,
      (∀ (σ2 : L2.St) (J1 : It) (H4 G4 : Hp) (Gp1 : Hp → Prop) (Y1 : Nat → Hp → V → Hp → Prop), Xt none H1 G1 H4 G4 → Walk J1 ds.length Gp1 Y1 → (∀ H5 G5, Xt (some Dl) H4 G4 H5 G5 → Gp1 H5) →
        (∀ j y H5 G5 H6 d, ds[j]? = some d → Xt (some Dl) H4 G4 H5 G5 → Y1 j H5 y H6 → ∀ Qy : VK, (∀ z H7 G7, Xt none H5 G5 H7 G7 → D G7 z d → Qy z H7) → g1 y (wipe σ2 vs1) H6 fun σ3 H7 => wipe σ3 vs1 = wipe σ2 vs1 ∧ te σ3 H7 Qy) → Qi σ2 J1 H4) →
      g x (wipe σ vs) H2 fun σ2 H3 => wipe σ2 vs = wipe σ vs ∧ wi1 σ2 H3 (Qi σ2))
    (hd : ∀ H1 G1 xs, Xt none H G H1 G1 → H1 Dl = some (.lst xs) → G1 Dl = none → DA G1 xs dss.flatten → Qd H1) :
    ∃ W : Nat → Nat → Hp → Prop, (∃ m, W 0 m (upd H Dl (.lst []))) ∧ ∀ i m H, W i m H →
      (J.stop i H ∧ Qd H) ∨ (J.go i H ∧ ∃ Nx : Hp → Prop, (∀ H', Nx H' → ∃ m', m' < m ∧ W (i + 1) m' H') ∧ ∀ x H', J.yld i H x H' → g x (wipe σ vs) H' fun σ2 H2 => wipe σ2 vs = wipe σ vs ∧ tYes σ2 H2 fun b H3 =>
        if b = true then wi1 σ2 H3 fun J1 H4 => ∃ W1 : Nat → Nat → Hp → Prop, (∃ m, W1 0 m H4) ∧ ∀ j k H, W1 j k H →
          (J1.stop j H ∧ Nx H) ∨ (J1.go j H ∧ ∃ Nx1 : Hp → Prop, (∀ H', Nx1 H' → ∃ k', k' < k ∧ W1 (j + 1) k' H') ∧ ∀ x H', J1.yld j H x H' → g1 x (wipe σ2 vs1) H' fun σ3 H5 => wipe σ3 vs1 = wipe σ2 vs1 ∧ tYes σ3 H5 fun b H6 =>
            if b = true then te σ3 H6 fun y H7 => ∃ acc, H7 Dl = some (.lst acc) ∧ acc.length < sizeLine ∧ Nx1 (upd H7 Dl (.lst (acc ++ [y]))) else Nx1 H6)
        else Nx H3) := by
  have hgD : G Dl = none := s.free hD
  have nb : ∀ a : Addr, (none : Option Addr) ≠ some a := fun a q => by cases q
  let Pv : Nat → Hp → Prop := fun i H1 => ∃ G1 xs, Xt none H G H1 G1 ∧ H1 Dl = some (.lst xs) ∧ G1 Dl = none ∧ DA G1 xs (dss.take i).flatten
  have sub : ∀ i, i ≤ dss.length → (dss.take i).flatten.length ≤ dss.flatten.length := fun i _ => by
    have e : (dss.take i).flatten ++ (dss.drop i).flatten = dss.flatten := by rw [← List.flatten_append, List.take_append_drop]
    rw [← e, List.length_append]; omega
  refine ⟨fun i m H1 => m = n - i ∧ i ≤ n ∧ Pv i H1, ⟨n, by simp, Nat.zero_le _, G, [], Xt.tmp s hD, upd_same, hgD, .nil⟩, ?_⟩
  rintro i m H1 ⟨rfl, hi, G1, xs, X1, hl, hg, da⟩
  by_cases hlt : i < n
  · refine .inr ⟨w.goes i H1 hlt (hG H1 G1 X1), Pv (i + 1), fun H' p' => ⟨n - (i + 1), by omega, rfl, hlt, p'⟩, fun x H2 hy => ?_⟩
    have hi' : i < dss.length := by omega
    have hdi : dss[i]? = some dss[i] := List.getElem?_eq_getElem hi'
    have et : (dss.take (i + 1)).flatten = (dss.take i).flatten ++ dss[i] := by rw [take_succ_of hdi, List.flatten_append]; simp
    have hlen := sub (i + 1) hi'
    rw [et, List.length_append] at hlen
    refine hs i x H1 G1 H2 dss[i] hdi X1 (w.yields i H1 x H2 hlt (hG H1 G1 X1) hy) (fun σ2 J1 H4 => ∃ W1 : Nat → Nat → Hp → Prop, (∃ m, W1 0 m H4) ∧ ∀ j k H, W1 j k H →
          (J1.stop j H ∧ Pv (i + 1) H) ∨ (J1.go j H ∧ ∃ Nx1 : Hp → Prop, (∀ H', Nx1 H' → ∃ k', k' < k ∧ W1 (j + 1) k' H') ∧ ∀ x H', J1.yld j H x H' → g1 x (wipe σ2 vs1) H' fun σ3 H5 => wipe σ3 vs1 = wipe σ2 vs1 ∧ tYes σ3 H5 fun b H6 =>
            if b = true then te σ3 H6 fun y H7 => ∃ acc, H7 Dl = some (.lst acc) ∧ acc.length < sizeLine ∧ Nx1 (upd H7 Dl (.lst (acc ++ [y]))) else Nx1 H6)) ?_
    intro σ2 J1 H4 G4 Gp1 Y1 X4 w1 hG1 hs1
    have hl4 := X4.hh Dl _ (nb _) hl
    have hg4 := X4.non (ne_none_of hl) hg
    refine ⟨fun j k H5 => k = dss[i].length - j ∧ j ≤ dss[i].length ∧ ∃ G5 ys, Xt (some Dl) H4 G4 H5 G5 ∧ Xt none H G H5 G5 ∧ H5 Dl = some (.lst (xs ++ ys)) ∧ G5 Dl = none ∧ DA G5 ys (dss[i].take j), ⟨dss[i].length, by simp, Nat.zero_le _, G4, [], Xt.refl X4.sub, X1.trans X4, by rw [hl4, List.append_nil], hg4, .nil⟩, ?_⟩
    rintro j k H5 ⟨rfl, hj, G5, ys, X5, X5', h5, g5, da5⟩
    by_cases hjl : j < dss[i].length
    · refine .inr ⟨w1.goes j H5 hjl (hG1 H5 G5 X5), fun H' => j + 1 ≤ dss[i].length ∧ ∃ G5 ys, Xt (some Dl) H4 G4 H' G5 ∧ Xt none H G H' G5 ∧ H' Dl = some (.lst (xs ++ ys)) ∧ G5 Dl = none ∧ DA G5 ys (dss[i].take (j + 1)), fun H' p' => ⟨dss[i].length - (j + 1), by omega, rfl, p'.1, p'.2⟩, fun y H6 hy1 => ?_⟩
      have hdj : dss[i][j]? = some dss[i][j] := List.getElem?_eq_getElem hjl
      refine hs1 j y H5 G5 H6 dss[i][j] hdj X5 (w1.yields j H5 y H6 hjl (hG1 H5 G5 X5) hy1) (fun z H7 => ∃ acc, H7 Dl = some (.lst acc) ∧ acc.length < sizeLine ∧ j + 1 ≤ dss[i].length ∧ ∃ G5 ys, Xt (some Dl) H4 G4 (upd H7 Dl (.lst (acc ++ [z]))) G5 ∧ Xt none H G (upd H7 Dl (.lst (acc ++ [z]))) G5 ∧ upd H7 Dl (.lst (acc ++ [z])) Dl = some (.lst (xs ++ ys)) ∧ G5 Dl = none ∧ DA G5 ys (dss[i].take (j + 1))) fun z H7 G7 X7 dz => ?_
      have h7 := X7.hh Dl _ (nb _) h5
      have g7 := X7.non (ne_none_of h5) g5
      have l1 := da.length
      have l2 := da5.length
      rw [List.length_take] at l2
      refine ⟨xs ++ ys, h7, small_lt (by rw [List.length_append]; omega), hjl, G7, ys ++ [z], (X5.trans X7.of).put g7, (X5'.trans X7).set hD g7, by rw [upd_same, List.append_assoc], g7, ?_⟩
      rw [take_succ_of hdj]
      exact (da5.mono X7.gg).append (.one dz)
    · have e : j = dss[i].length := by omega
      subst e
      rw [List.take_length] at da5
      refine .inl ⟨w1.stops H5 (hG1 H5 G5 X5), G5, xs ++ ys, X5', h5, g5, ?_⟩
      rw [et]
      exact (da.mono (Xt.gg (X4.of.trans X5 : Xt (some Dl) H1 G1 H5 G5))).append da5
  · have e : i = n := by omega
    subst e
    refine .inl ⟨w.stops H1 (hG H1 G1 X1), hd H1 G1 xs X1 hl hg ?_⟩
    rw [show dss.take i = dss from List.take_of_length_le (by omega)] at da
    exact da
end Nw
namespace Nw
open PySem L2 PySem.Spec PyProof.Rows RZ
section
variable {X : Cx} {K : PySem.W.Frag}
theorem op_catAK (hK : X.K = K) : OpR X (binaryOp .Add) (rCatA K) := by subst hK; exact op_catA
theorem op_eqOK {k : Nat} {C : Addr} {sp : Sp} (hK : X.K = K) (O : Own X.prog X.w X.K X.mg X.base k C "__eq__" sp) (N : NoFirst X.K C) (hr : Room k X.A) : OpR X (compareOp .Eq) (fun x y H Q => plainV K C H y ∧ rEqO C sp false x y H Q) := by subst hK; exact op_eqO O N hr
theorem op_neOK {k : Nat} {C : Addr} {sp : Sp} (hK : X.K = K) (O : Own X.prog X.w X.K X.mg X.base k C "__eq__" sp) (N : NoFirst X.K C) (hr : Room (k + 1) X.A) : OpR X (compareOp .NotEq) (fun x y H Q => plainV K C H y ∧ rEqO C sp true x y H Q) := by subst hK; exact op_neO O N hr
theorem sl_tupAK (hK : X.K = K) : SlR X (rSlA K) := by subst hK; exact sl_tupA
theorem sl_listK (hK : X.K = K) : SlR X (rSlL K) := by subst hK; exact sl_list
end
theorem flat_take_le {α β : Type} (f : α → List β) (l : List α) (j : Nat) : ((l.take j).map f).flatten.length ≤ (l.map f).flatten.length := by
  have e : ((l.take j).map f).flatten ++ ((l.drop j).map f).flatten = (l.map f).flatten := by rw [← List.flatten_append, ← List.map_append, List.take_append_drop]
  rw [← e, List.length_append]; omega
/-- a part of a list or tuple of data -/
def cutD (ds : List PyData) (lo hi : Option Int) : List PyData := (ds.drop (HT.sIx ds.length 0 lo)).take (HT.sIx ds.length ds.length hi - HT.sIx ds.length 0 lo)
section
variable {K : PySem.W.Frag} {G H : Hp} {x y : V} {ds es : List PyData} {xs : List V} {Q : VK} {lo hi : Option Int}
theorem DA.cut (h : DA G xs ds) (lo hi : Option Int) : DA G (cutV xs lo hi) (cutD ds lo hi) := by
  unfold cutV cutD
  rw [h.length]
  exact (h.drop _).take _
theorem cat_data (hx : D G x (.tuple ds)) (hy : D G y (.tuple es)) (s : Same G H) (hl : ds.length + es.length ≤ 100000) (k : ∀ q H' G', Xt none H G H' G' → D G' q (.tuple (ds ++ es)) → Q q H') : rCatA K x y H Q := by
  obtain ⟨a, xs, rfl, ha, da⟩ := hx.tup_inv
  obtain ⟨b, ys, rfl, hb, db⟩ := hy.tup_inv
  refine ⟨a, b, xs, ys, rfl, rfl, SqT.of (s _ _ ha), SqT.of (s _ _ hb), by rw [da.length, db.length]; exact small_line hl, fun e => ?_, fun n e => ?_, fun n n2 p hp => ?_⟩
  · subst e
    cases da
    exact k _ H G (Xt.refl s) (by simpa using hy)
  · subst e
    cases db
    exact k _ H G (Xt.refl s) (by simpa using hx)
  · exact k _ _ _ (Xt.new s hp) (.tup upd_same ((da.append db).mono (upd_same_ (s.free hp))))
theorem slT_data (hx : D G x (.tuple ds)) (s : Same G H) (k : ∀ q H' G', Xt none H G H' G' → D G' q (.tuple (cutD ds lo hi)) → Q q H') : rSlA K x lo hi H Q := by
  obtain ⟨a, xs, rfl, ha, da⟩ := id hx.tup_inv
  refine ⟨a, xs, rfl, SqT.of (s _ _ ha), fun e => ?_, fun _ p hp => k _ _ _ (Xt.new s hp) (.tup upd_same ((da.cut lo hi).mono (upd_same_ (s.free hp))))⟩
  have e2 : cutD ds lo hi = ds := by
    unfold cutD
    rw [← da.length, e.1, e.2, List.drop_zero, da.length]
    simp
  refine k _ H G (Xt.refl s) ?_
  rw [e2]
  exact hx
theorem slL_data (hx : D G x (.list ds)) (s : Same G H) (k : ∀ q H' G', Xt none H G H' G' → D G' q (.list (cutD ds lo hi)) → Q q H') : rSlL K x lo hi H Q := by
  obtain ⟨a, xs, rfl, ha, da⟩ := hx.list_inv
  exact ⟨a, xs, rfl, SqL.of (s _ _ ha), fun p hp => k _ _ _ (Xt.new s hp) (.lst upd_same ((da.cut lo hi).mono (upd_same_ (s.free hp))))⟩
theorem catL_data (hx : D G x (.list ds)) (hy : D G y (.list es)) (s : Same G H) (hl : ds.length + es.length ≤ 100000) (k : ∀ q H' G', Xt none H G H' G' → D G' q (.list (ds ++ es)) → Q q H') : rCat x y H Q := by
  obtain ⟨a, xs, rfl, ha, da⟩ := hx.list_inv
  obtain ⟨b, ys, rfl, hb, db⟩ := hy.list_inv
  exact ⟨a, b, xs, ys, rfl, rfl, s _ _ ha, s _ _ hb, by rw [da.length, db.length]; exact small_line hl, fun p hp => k _ _ _ (Xt.new s hp) (.lst upd_same ((da.append db).mono (upd_same_ (s.free hp))))⟩
/-- a tuple, a list that is made of data -/
theorem D.newT {p : Addr} (da : DA G xs ds) (s : Same G H) (hp : H p = none) : D (upd G p (.tup xs)) (.ref p) (.tuple ds) := .tup upd_same (da.mono (upd_same_ (s.free hp)))
theorem D.newL {p : Addr} (da : DA G xs ds) (s : Same G H) (hp : H p = none) : D (upd G p (.lst xs)) (.ref p) (.list ds) := .lst upd_same (da.mono (upd_same_ (s.free hp)))
end
end Nw
/-! str(x) by an own __str__. -/
namespace Nw
open PySem L2 PySem.Spec PyProof.Rows RZ
section
variable {X : Cx} {k : Nat} {C : Addr} {sp : Sp}
theorem call_strO (O : Own X.prog X.w X.K X.mg X.base k C "__str__" sp) (hr : Room (k + 2) X.A) : CallR X (.type "str") (rReprO C sp) := by
  intro pins s σ H xs us Q I r h
  obtain ⟨a, dx, fs, rfl, ha, hsp⟩ := h
  obtain ⟨u, rfl, r1⟩ := vals1 r
  cases r1
  obtain ⟨mA, J, _⟩ := ins_get I.hok ha
  obtain ⟨od, J, _⟩ := J.look
  obtain ⟨m, hF⟩ := I.fr
  obtain ⟨f, h1, h2, h3⟩ := own_call (A := X.A.in1.in1) (us := [Value.ref a]) (vs := [V.ref a]) (R := PySem.W.StrBack (EP X pins σ Q)) O hr.in1.in1 rfl I (.cons rfl .nil) hsp fun u s' hu => by
    obtain ⟨v, H', I', rv, z, rfl, q⟩ := hu
    obtain ⟨t, rfl⟩ := rv
    exact ⟨.str z, H', I', ⟨_, rfl⟩, q⟩
  exact PySem.W.kso_call (hr.in1.in1).units0 I.kIn J h1 h2 h3
end
end Nw
/-! x & y, x | y, ~x by own methods, and {x} in an f-string. -/
namespace Nw
open PySem L2 PySem.Spec PyProof.Rows RZ
section
variable {X : Cx} {k : Nat} {C : Addr} {sp : Sp}
def rBinO (C : Addr) (sp : Sp) : R2 := fun x y H Q => ∃ (a b dx dy : Addr) (fs gs : List (Str × V)), x = .ref a ∧ y = .ref b ∧ H a = some (.ins C dx fs) ∧ H b = some (.ins C dy gs) ∧ sp [.ref a, .ref b] H (fun v H' => ∃ p : Addr, v = .ref p ∧ Q (.ref p) H') E0
theorem op_binO {op : Operator} {m : Str} (hm : PySem.dunder op.info.2 = m) (O : Own X.prog X.w X.K X.mg X.base k C m sp) (hf : PySem.W.selfFirst X.K C = true) (hr : Room k X.A) : OpR X (binaryOp op) (rBinO C sp) := by
  intro pins s σ H x y v u Q I rx ry h
  obtain ⟨a, b, dx, dy, fs, gs, rfl, rfl, ha, hb, hsp⟩ := h
  cases rx
  cases ry
  obtain ⟨mA, J, _⟩ := ins_get I.hok ha
  obtain ⟨od, J, _⟩ := J.look
  obtain ⟨mB, L, _⟩ := ins_get I.hok hb
  obtain ⟨oe, L, _⟩ := L.look
  obtain ⟨mm, hF⟩ := I.fr
  obtain ⟨f, h1, h2, h3⟩ := own_call (A := X.A) (us := [Value.ref a, Value.ref b]) (vs := [V.ref a, V.ref b]) (R := PySem.W.CmpBack (EP X pins σ Q)) O hr rfl I (.cons rfl (.cons rfl .nil)) hsp fun u s' hu => by
    obtain ⟨v, H', I', rv, p, rfl, q⟩ := hu
    cases rv
    exact ⟨.ref p, H', I', rfl, q⟩
  subst hm
  exact PySem.W.binop_K hF I.ok.mod.kin J L.type hf h1 h2 h3
def rUnO (C : Addr) (sp : Sp) : V → Hp → VK → Prop := fun x H Q => ∃ (a dx : Addr) (fs : List (Str × V)), x = .ref a ∧ H a = some (.ins C dx fs) ∧ sp [.ref a] H Q E0
theorem un_invO (O : Own X.prog X.w X.K X.mg X.base k C "__invert__" sp) (hr : Room k X.A) : UnR X (unaryOp .Invert) (rUnO C sp) := by
  intro pins s σ H x v Q I rx h
  obtain ⟨a, dx, fs, rfl, ha, hsp⟩ := h
  cases rx
  obtain ⟨mA, J, _⟩ := ins_get I.hok ha
  obtain ⟨od, J, _⟩ := J.look
  obtain ⟨mm, hF⟩ := I.fr
  obtain ⟨f, h1, h2, h3⟩ := own_call (A := X.A) (us := [Value.ref a]) (vs := [V.ref a]) (R := EP X pins σ Q) O hr rfl I (.cons rfl .nil) hsp fun u s' hu => hu
  exact PySem.W.ksp_inv hF I.ok.mod.kin J h1 h2 h3
def tFmtO (C : Addr) (sp : Sp) (te : TE) : TE := fun σ H Q => te σ H fun x H1 => rReprO C sp [x] H1 Q
theorem pe_fmtO {e : Expr} {te : TE} {pos : Pos} (O : Own X.prog X.w X.K X.mg X.base k C "__str__" sp) (hr : Room (k + 1) X.A) (hfm : PySem.W.findIn X.K (.ref C) "__format__" = some (some (.builtin "object.__format__"))) (hmr : PySem.W.mroIn X.K C (.type "object") = some true) (he : PE X e te) : PE X (.FormattedValue e (-1) none pos) (tFmtO C sp te) := by
  refine ⟨fun pins s σ H Q I h => ?_⟩
  refine wpAny_FormattedValue_plain (thn (he.run pins s σ H _ I h) fun v s1 hv => ?_)
  obtain ⟨x, H1, I1, r1, a, dx, fs, e1, ha, hsp⟩ := hv
  obtain rfl : x = V.ref a := by injection e1
  cases r1
  have I2 := I1.tok (s1.toks + 1)
  obtain ⟨mA, J, _⟩ := ins_get I1.hok ha
  obtain ⟨od, J, _⟩ := J.look
  obtain ⟨f, h1, h2, h3⟩ := own_call (A := X.A.in1) (us := [Value.ref a]) (vs := [V.ref a]) (R := PySem.W.StrBack (EP X pins σ Q)) O hr.in1 rfl I2 (.cons rfl .nil) hsp fun u s' hu => by
    obtain ⟨v, H', I', rv, z, rfl, q⟩ := hu
    obtain ⟨t, rfl⟩ := rv
    exact ⟨.str z, H', I', ⟨_, rfl⟩, q⟩
  exact PySem.W.kfo_fieldS (hr.in1).units0 I1.kIn J hfm hmr h1 h2 h3
end
end Nw
namespace Nw
open PySem L2 PySem.Spec PyProof.Rows RZ
/-- n spaces -/
def spS (n : Nat) : Str := ⟨(List.replicate n 32).toArray⟩
section
variable {X : Cx}
/-- ' ' * n -/
theorem op_spc : OpR X (binaryOp .Mult) (fun x y H Q => ∃ n : Nat, n ≤ 2 ∧ x = .str " " ∧ y = .int (n : Int) ∧ Q (.str (spS n)) H) := by
  intro pins s σ H x y v u Q I rx ry h
  obtain ⟨n, hn, rfl, rfl, q⟩ := h
  obtain ⟨t, rfl⟩ := rx
  obtain ⟨t', rfl⟩ := ry
  have h3 : n = 0 ∨ n = 1 ∨ n = 2 := by omega
  rcases h3 with rfl | rfl | rfl
  · refine PySem.P.mul_str (by decide) (by decide +kernel) (by decide +kernel) ?_
    exact ⟨by decide +kernel, .str (spS 0), H, I.tok _, ⟨_, rfl⟩, q⟩
  · refine PySem.P.mul_str (by decide) (by decide +kernel) (by decide +kernel) ?_
    exact ⟨.str (spS 1), H, I, ⟨_, rfl⟩, q⟩
  · refine PySem.P.mul_str (by decide) (by decide +kernel) (by decide +kernel) ?_
    exact ⟨by decide +kernel, .str (spS 2), H, I.tok _, ⟨_, rfl⟩, q⟩
end
end Nw
/-! Own layer: set(xs) of a list of texts, sorted of it. -/
namespace Nw
open PySem L2 PySem.Spec PyProof.Rows RZ
/-- the text of an entry -/
def keyS (e : Int × Value) : Str := match e.2 with
  | .str k _ => k
  | _ => Str.empty
def GoodS (w : World) (e : Int × Value) : Prop := ∃ k tk, e.2 = Value.str k tk ∧ e.1 = hashStr w k
/-- what is known of the entries and of the table -/
structure TabS (w : World) (S : Str → Bool) (es : Array (Int × Value)) (t : SetTable) : Prop where
  good : ∀ e ∈ es.toList, GoodS w e
  nd : (es.toList.map keyS).Nodup
  mem : ∀ k, S k = true ↔ k ∈ es.toList.map keyS
  few : es.size < scanBound
  fits : t.fits es.size = true
  ris : Ris t.place.toList
  led : w.params.followText "set-order" = true ∨ t.led = true
/-- the set of texts at a, n of them -/
def SetS (w : World) (h : Heap) (a : Addr) (S : Str → Bool) (n : Nat) : Prop := ∃ o es ep t, h.get? a = some o ∧ o.ExactSet ∧ o.data = .set es ep t ∧ TabS w S es t ∧ es.size = n
section
variable {P : Program} {w : World} {h h' : Heap} {a : Addr} {S : Str → Bool} {n : Nat}
theorem SetS.at (R : SetS w h a S n) (k : ∀ o, h.get? a = some o → h'.get? a = some o) : SetS w h' a S n := by
  obtain ⟨o, es, ep, t, ho, r⟩ := R
  exact ⟨o, es, ep, t, k o ho, r⟩
theorem SetS.congr {S' : Str → Bool} (R : SetS w h a S n) (e : ∀ k, S' k = S k) : SetS w h a S' n := by
  rw [show S' = S from funext e]; exact R
theorem goodS_is {e : Int × Value} (g : GoodS w e) (k : Str) : (PySem.strKind P w).is k e.2 = true ↔ keyS e = k := by
  obtain ⟨z, tk, h1, _⟩ := g
  unfold keyS
  rw [h1]
  show Value.isStrOf k (.str z tk) = true ↔ z = k
  constructor
  · intro q
    obtain ⟨t, e⟩ := Value.isStrOf_shape q
    injection e
  · rintro rfl
    exact PySem.strKind_is P w z tk
theorem goodS_mem {l : List (Int × Value)} (g : ∀ e ∈ l, GoodS w e) (k : Str) : k ∈ l.map keyS ↔ ∃ e ∈ l, (PySem.strKind P w).is k e.2 = true := by
  rw [List.mem_map]
  exact ⟨fun ⟨e, he, q⟩ => ⟨e, he, (goodS_is (g e he) k).2 q⟩, fun ⟨e, he, q⟩ => ⟨e, he, (goodS_is (g e he) k).1 q⟩⟩
theorem goodS_elems {l : List (Int × Value)} (g : ∀ e ∈ l, GoodS w e) : ElemsOf (PySem.strKind P w) l := fun e he => by
  obtain ⟨k, tk, h1, h2⟩ := g e he
  refine ⟨⟨k, by rw [h1]; exact PySem.strKind_is P w k tk, h2⟩, by rw [h1]; rfl⟩
/-- a permuted table of the same entries -/
theorem TabS.perm {es es2 : Array (Int × Value)} {t t2 : SetTable} (T : TabS w S es t) (pm : es2.toList.Perm es.toList) (hf : t2.fits es2.size = true) (hr : Ris t2.place.toList) (hl : t2.led = t.led) : TabS w S es2 t2 ∧ es2.size = es.size := by
  have hz : es2.size = es.size := by rw [← Array.length_toList, pm.length_eq, Array.length_toList]
  exact ⟨⟨fun e he => T.good e (pm.mem_iff.mp he), (pm.map keyS).nodup_iff.mpr T.nd, fun k => (T.mem k).trans (pm.map keyS).mem_iff.symm, by rw [hz]; exact T.few, hf, hr, T.led.imp id fun z => by rw [hl]; exact z⟩, hz⟩
/-- the table with one entry more -/
theorem TabS.more {es es2 : Array (Int × Value)} {t t2 : SetTable} {k : Str} {tk : Tok} (T : TabS w S es t) (hk : k ∉ es.toList.map keyS) (pm : es2.toList.Perm ((hashStr w k, Value.str k tk) :: es.toList)) (room : es.size + 1 < scanBound) (hf : t2.fits es2.size = true) (hr : Ris t2.place.toList) (hl : t2.led = t.led) :
    TabS w (fun j => S j || decide (j = k)) es2 t2 ∧ es2.size = es.size + 1 := by
  have hz : es2.size = es.size + 1 := by rw [← Array.length_toList, pm.length_eq, List.length_cons, Array.length_toList]
  have pk : (es2.toList.map keyS).Perm (k :: es.toList.map keyS) := pm.map keyS
  refine ⟨⟨fun e he => ?_, pk.nodup_iff.mpr (List.nodup_cons.mpr ⟨hk, T.nd⟩), fun j => ?_, by rw [hz]; exact room, hf, hr, T.led.imp id fun z => by rw [hl]; exact z⟩, hz⟩
  · rcases List.mem_cons.mp (pm.mem_iff.mp he) with z | z
    · rw [z]; exact ⟨k, tk, rfl, rfl⟩
    · exact T.good e z
  · rw [Bool.or_eq_true, decide_eq_true_eq, T.mem j, pk.mem_iff, List.mem_cons]
    exact Or.comm
end
section
variable {P : Program} {w : World} {A : Around} {E : Value → Shared → Prop} {s : Shared} {a : Addr} {S : Str → Bool} {n : Nat}
/-- what stands behind the new entry: stored, and laid anew where it is too full -/
theorem setS_tail {g : Bool → Sem Unit} (hg : ∀ (b : Bool) (s₁ : Shared) (Q' : Unit → Shared → Prop), Q' () s₁ → wpAny (model P w) A (g b) Q' E s₁)
    {o : Obj} {es es1 : Array (Int × Value)} {ep : Nat} {t t2 : SetTable} (ho : s.heap.get? a = some o) (hex : o.ExactSet) (hd : o.data = .set es ep t) (T : TabS w S es1 t2) {was : Bool} {R : Option Bool → Shared → Prop}
    (hR : ∀ h', Heap.SameBut a s.heap h' → SetS w h' a S es1.size → R (some true) { s with heap := h' }) :
    wpAny (model P w) A (storeSet a es1 t2 >>= fun _ => if (!was && t2.tooFull) = true then (do
        g (relayAll t2 es1 (SetTable.grown es1.size)).2.2
        storeSet a (relayAll t2 es1 (SetTable.grown es1.size)).1 (relayAll t2 es1 (SetTable.grown es1.size)).2.1
        pure (some true)) else pure (some true)) R E s := by
  have sb1 := Heap.SameBut.update s.heap a (Obj.putSet es1 t2)
  have ho1 := store_at (es' := es1) (t' := t2) ho hd
  refine wpAny_bind (wpAny_storeSet_of ho hd ?_ (fits_of_scanBound T.few))
  by_cases c : (!was && t2.tooFull) = true
  · rw [if_pos c]
    obtain ⟨T3, hz⟩ := T.perm (relayAll_perm t2 es1 (SetTable.grown es1.size)) (relayAll_fits t2 es1 (SetTable.grown es1.size)) (relayAll_ris t2 es1 (SetTable.grown es1.size)) (relayAll_led t2 es1 (SetTable.grown es1.size))
    refine wpAny_bind (hg _ _ _ (wpAny_bind (wpAny_storeSet_of ho1 rfl ?_ (fits_of_scanBound T3.few))))
    exact wpAny_pure (hR _ (sb1.trans (Heap.SameBut.update _ a _)) ⟨_, _, _, _, store_at ho1 rfl, hex, rfl, T3, hz⟩)
  · rw [if_neg c]
    exact wpAny_pure (hR _ sb1 ⟨_, _, _, _, ho1, hex, rfl, T, rfl⟩)
/-- a text is added -/
theorem setS_add {k : Str} {tk : Tok} {Q : Bool → Shared → Prop} (R : SetS w s.heap a S n) (room : n + 1 < scanBound)
    (hQ : ∀ h' b, Heap.SameBut a s.heap h' → SetS w h' a (fun j => S j || decide (j = k)) (if S k = true then n else n + 1) → Q b { s with heap := h' }) :
    wpAny (model P w) A (setAddHashed a (.str k tk) (hashStr w k)) Q E s := by
  obtain ⟨o, es, ep, t, ho, hex, hd, T, hn⟩ := R
  have hel : ElemsOf (PySem.strKind P w) es.toList := goodS_elems T.good
  unfold setAddHashed setAddHashedIn
  refine wpAny_holding (wpAny_bind (wpAny_setState_of ho hd T.fits ?_))
  dsimp only
  rw [byScan_of (x := .str k tk) rfl T.few hel]
  simp only [↓reduceIte]
  unfold setAddByScan
  refine wpAny_bind (wpAny_bind (wpAny_rule (wpAny_bind (wpAny_setScan_of (PySem.strKind_is P w k tk) ho hd T.fits hel ?_))))
  cases hfi : List.findIdx? (fun e => (PySem.strKind P w).is k e.2) es.toList with
  | some j =>
    dsimp only
    obtain ⟨hj, pj, _⟩ := List.findIdx?_eq_some_iff_getElem.mp hfi
    have hSk : S k = true := (T.mem k).2 ((goodS_mem (P := P) T.good k).2 ⟨es.toList[j], List.getElem_mem hj, pj⟩)
    refine wpAny_pure (wpAny_pure (hQ s.heap _ (Heap.SameBut.refl a s.heap) ?_))
    rw [if_pos hSk]
    refine SetS.congr (S := S) ⟨o, es, ep, t, ho, hex, hd, T, hn⟩ fun i => ?_
    by_cases c : i = k
    · rw [c, hSk]; rfl
    · rw [decide_eq_false c, Bool.or_false]
  | none =>
    dsimp only
    have hnk : k ∉ es.toList.map keyS := fun z => by
      obtain ⟨e, he, q⟩ := (goodS_mem (P := P) T.good k).1 z
      have c := List.findIdx?_eq_none_iff.mp hfi e he
      rw [q] at c
      cases c
    have hSk : S k = false := by
      cases q : S k with
      | false => rfl
      | true => exact absurd ((T.mem k).1 q) hnk
    have give : ∀ (b : Bool) {s₁ : Shared} {Q' : Unit → Shared → Prop}, Q' () s₁ → wpAny (model P w) A (match b with | true => rule "set.scan.the-table-gave-way" | false => pure ()) Q' E s₁ :=
      fun b s₁ Q' q => by cases b <;> first | exact wpAny_pure q | exact wpAny_rule q
    have pm := layNew_perm t es (hashStr w k) (.str k tk)
    have hf1 := layNew_fits t es (hashStr w k) (.str k tk)
    have hr1 := layNew_ris t es (hashStr w k) (.str k tk) T.ris
    have hl1 := layNew_led t es (hashStr w k) (.str k tk)
    show wpAny _ _ (have Z := layNew t es (hashStr w k) (.str k tk); _) _ _ _
    generalize layNew t es (hashStr w k) (.str k tk) = Z at pm hf1 hr1 hl1 ⊢
    obtain ⟨es1, t1, was, gave⟩ := Z
    dsimp only at pm hf1 hr1 hl1 ⊢
    rw [Array.toList_push] at pm
    have room' : es.size + 1 < scanBound := by rw [hn]; exact room
    have pc := pm.trans (List.perm_append_singleton _ _)
    have fin : ∀ h', Heap.SameBut a s.heap h' → SetS w h' a (fun j => S j || decide (j = k)) es1.size → Q true { s with heap := h' } := fun h' sb r => by
      obtain ⟨_, hz⟩ := T.more (tk := tk) hnk pc room' hf1 hr1 hl1
      rw [hz, hn] at r
      refine hQ h' true sb ?_
      rw [hSk]
      exact r
    refine wpAny_bind (give _ ?_)
    obtain ⟨T1, _⟩ := T.more (tk := tk) hnk pc room' hf1 hr1 hl1
    have tail : ∀ t2 : SetTable, t2.fits es1.size = true → t2.place = t1.place → t2.led = t1.led → TabS w (fun j => S j || decide (j = k)) es1 t2 := fun t2 f p l => ⟨T1.good, T1.nd, T1.mem, T1.few, f, by rw [p]; exact hr1, T1.led.imp id fun z => by rw [l]; exact z⟩
    have hg : ∀ (b : Bool) (s₁ : Shared) (Q' : Unit → Shared → Prop), Q' () s₁ → wpAny (model P w) A (match b with | true => rule "set.scan.the-table-gave-way" | false => pure ()) Q' E s₁ := fun b s₁ Q' q => give b q
    split
    · refine wpAny_bind ?_
      rw [hashByValue_scannable 8 (x := .str k tk) rfl]
      refine wpAny_pure ?_
      refine setS_tail hg ho hex hd (tail _ ?_ ?_ ?_) fun h' sb r => ?_
      · first | (split <;> first | exact hf1 | exact SetTable.fits_plain_off hf1) | exact hf1
      · first | (split <;> rfl) | rfl
      · first | (split <;> rfl) | rfl
      · dsimp only; exact wpAny_pure (fin h' sb r)
    · refine wpAny_bind (wpAny_pure ?_)
      simp only [↓reduceIte]
      refine setS_tail hg ho hex hd T1 fun h' sb r => ?_
      dsimp only
      exact wpAny_pure (fin h' sb r)
/-- the empty set, as it is made -/
def newS (w : World) : Obj := { cls := .type "set", dict := none, data := .set #[] 0 (.fresh 0 0 (!w.params.followText "set-order")) }
theorem setS_zero {h : Heap} (ho : h.get? a = some (newS w)) (zs : List Str) : SetS w h a (fun j => decide (j ∈ zs.take 0)) 0 := by
  refine ⟨_, #[], 0, _, ho, ⟨rfl, rfl, rfl⟩, rfl, ⟨fun e he => by simp at he, by simp, fun k => by simp, by decide, by rfl, List.Pairwise.nil, ?_⟩, rfl⟩
  show _ ∨ (!w.params.followText "set-order") = true
  cases w.params.followText "set-order" <;> simp
/-- set.update walks over texts -/
theorem setS_walk {I : Addr} {fp wr : List Addr} {G : Array GenState → Array GenState → Prop} {m : Nat} {Pv : Nat → Value → Prop} {St : Nat → Shared → Prop} {R : Result → Shared → Prop}
    (W : WalksS P w A.in1 I fp wr G m Pv St) (S : Addr) (out : S ∉ fp) (zs : List Str) (hm : m = zs.length) (few : zs.length + 1 < scanBound) (val : ∀ i v, Pv i v → ∃ z t, zs[i]? = some z ∧ v = .str z t) :
    ∀ (left i : Nat) (s : Shared), m - i = left → i ≤ m → St i s → (∃ c, c ≤ i ∧ SetS w s.heap S (fun j => decide (j ∈ zs.take i)) c) →
      (∀ s' c, Moved (S :: wr) G s s' → c ≤ m → SetS w s'.heap S (fun j => decide (j ∈ zs)) c → R (.ok (.ret .none)) s') → codeAny (model P w) A (.builtin "set.update.loop" ⟨[.ref S, .ref I], []⟩) R s := by
  have out2 : S ∉ wr := fun h => out (W.sub _ h)
  have inn : ∀ b ∈ wr, b ∈ S :: wr := fun b hb => List.mem_cons_of_mem _ hb
  intro left
  induction left with
  | zero =>
    rintro i s el hi st ⟨c, hc, hS⟩ fin
    obtain rfl : i = m := by omega
    refine codeAny_builtin F.entry_set_update_loop ?_
    rw [Around.under_plainId F.plain_set_update_loop _]
    refine wpAny_bind (m := pyNext (.ref I)) (W.done s _ _ st fun s' mv => ?_)
    rw [List.take_of_length_le (by omega)] at hS
    exact wpAny_pure (fin s' c (mv.mono inn) hc (hS.at fun o e => mv.heap S o out2 e))
  | succ left ih =>
    rintro i s el hi st ⟨c, hc, hS⟩ fin
    have lt : i < m := by omega
    refine codeAny_builtin F.entry_set_update_loop ?_
    rw [Around.under_plainId F.plain_set_update_loop _]
    refine wpAny_bind (m := pyNext (.ref I)) (W.item i s _ _ lt st fun v s' pv st' mv => ?_)
    obtain ⟨z, t, hz, rfl⟩ := val i v pv
    show wpAny _ A.in1 (holding [Value.str z t] (setAdd S (.str z t)) >>= _) _ _ s'
    refine wpAny_bind (wpAny_holding ?_)
    unfold setAdd
    refine wpAny_holding (wpAny_bind ((PySem.strKind P w).pyHash (PySem.strKind_is P w z t) ?_))
    refine setS_add (hS.at fun o e => mv.heap S o out2 e) (by omega) fun h' b sb hS2 => ?_
    have hS3 : SetS w h' S (fun j => decide (j ∈ zs.take (i + 1))) (if decide (z ∈ zs.take i) = true then c else c + 1) := hS2.congr fun j => by
      rw [List.take_add_one, hz]
      simp [List.mem_append]
    have oth : ∀ q, q ≠ S → ∀ o, s'.heap.get? q = some o → h'.get? q = some o := fun q hq o e => by rw [sb.2 q hq]; exact e
    refine wpAny_pure ⟨plainId_quiet F.plain_set_update_loop _, ih (i + 1) _ (by omega) lt (W.frame _ s' _ _ st' (Nat.le_add_right _ _) fun q hq o e => oth q (fun h => out (h ▸ hq)) o e) ⟨_, by split <;> omega, hS3⟩ fun s2 c2 mv2 hc2 hS4 => ?_⟩
    exact fin s2 c2 (Moved.trans W.gtrans ((mv.mono inn).then_heap (Nat.le_add_right _ _) fun q o hq e => oth q (fun h => hq (by rw [h]; exact List.mem_cons_self)) o e) mv2) hc2 hS4
end
end Nw
namespace Nw
open PySem L2 PySem.Spec PyProof.Rows RZ
section
variable {P : Program} {w : World} {A : Around} {E : Value → Shared → Prop} {s : Shared} {a : Addr} {S : Str → Bool} {n : Nat}
/-- set(xs) of a list of texts -/
theorem setS_call {l : Addr} {items : Array Value} (zs : List Str) {Q : Value → Shared → Prop} (hh : A.handled = none) (hl : s.heap.IsList l items) (hit : StrsAre items.toList zs) (few : zs.length + 1 < scanBound)
    (h : ∀ (h' : Heap) (tk c : Nat), SetS w h' s.heap.objs.size (fun j => decide (j ∈ zs)) c → c ≤ zs.length → (∀ b o, s.heap.get? b = some o → h'.get? b = some o) → Q (.ref s.heap.objs.size) { s with heap := h', toks := tk }) :
    wpAny (model P w) A (call (.type "set") [.ref l]) Q E s := by
  have isz : items.size = zs.length := by
    have q := StrsAre.len_eq hit
    rwa [Array.length_toList] at q
  obtain ⟨mc, mt, hmro⟩ := PySem.F.called_set.mro
  have hmade := PySem.F.called_set.made
  have hsub := PySem.F.called_set.sub
  refine wpAny_call (codeAny_of_tree ?_)
  show wpAny _ _ (callAny (.type "set") _) _ _ _
  refine wpAny_pure ⟨Code.quiet_builtin _ (by decide +kernel), codeAny_builtin PySem.F.entry_type_call ?_⟩
  rw [Around.under_plain (weight_type_call_type "set" [.ref l] []) rfl]
  have f1 := PySem.F.called_set.notType
  have f2 := PySem.F.called_set.canCreate
  have f3 := PySem.F.typeCall_set_1 (.ref l)
  repeat (any_goals (first | assumption | wp_step))
  refine codeAny_mono (code_set_led1 (.ref l) (E := E) (Q₁ := fun x s₁ => x = .ref s.heap.objs.size ∧ s₁ = { s with heap := s.heap.push (newS w) }) ⟨rfl, rfl⟩) fun r s₁ hr => ?_
  cases r with
  | error e => exact hr
  | ok fl =>
    cases fl with
    | next => exact hr.elim
    | brk => exact hr.elim
    | cont => exact hr.elim
    | ret x =>
      obtain ⟨rfl, rfl⟩ := hr
      have new : (s.heap.push (newS w)).get? s.heap.objs.size = some (newS w) := Heap.get?_push_size _ rfl
      have isS : Shared.TypeIs { s with heap := s.heap.push (newS w) } (.ref s.heap.objs.size) "set" := ⟨_, new, rfl⟩
      have g1 := PySem.F.called_set.init.lookup
      have g2 := PySem.F.called_set.init.bind (.ref s.heap.objs.size)
      repeat (any_goals (first | assumption | wp_step))
      refine codeAny_mono (codeAny_call_builtin (R := wants (fun r s₂ => r = .none ∧ ∃ h' tk c, s₂ = { s with heap := h', toks := tk } ∧ SetS w h' s.heap.objs.size (fun j => decide (j ∈ zs)) c ∧ c ≤ zs.length ∧
          (∀ b o, s.heap.get? b = some o → h'.get? b = some o)) E) PySem.F.called_set.init.plain PySem.F.entry_set_init (check_set_init_1 isS ?_)) fun r₂ s₂ hr₂ => ?_
      · obtain ⟨⟨ocls, odict, odata, oslots⟩, hol, hcl, nl, hdl⟩ := hl
        simp only at hcl hdl
        subst hcl
        subst hdl
        have old : (s.heap.push (newS w)).get? l = some { cls := .type "list", dict := odict, data := .seq items nl, slots := oslots } := Heap.get?_push_of_some _ hol
        have k1 := PySem.F.sub_list_set
        have k2 := PySem.F.sub_list_frozenset
        have k3 : (Value.type "list" == Value.type "dict") = false := by decide
        have isL : (s.heap.push (newS w)).IsList l items := ⟨_, old, rfl, nl, rfl⟩
        unfold Builtin.«set.__init__» noKeywords Builtin.Frozenset.updateFrom
        generalize hPI : pyIter = PI
        wp_walk
        subst hPI
        refine wpAny_pyIter_list isL ?_
        refine wpAny_bind (wpAny_runValue ?_)
        have ls : l < s.heap.objs.size := Heap.lt_size hol
        have h3 : A.in1.in1.in1.handled = none := by simp [hh]
        have neI : l ≠ (s.heap.push (newS w)).objs.size := by
          rw [Heap.size_push]; exact Nat.ne_of_lt (Nat.lt_succ_of_lt ls)
        have outS : s.heap.objs.size ∉ [(s.heap.push (newS w)).objs.size, l] := by
          rw [Heap.size_push]; simp only [List.mem_cons, List.not_mem_nil, or_false, not_or]
          exact ⟨Nat.ne_of_lt (Nat.lt_succ_self _), Nat.ne_of_gt ls⟩
        have val : ∀ (i : Nat) (v : Value), items[i]? = some v → ∃ z t, zs[i]? = some z ∧ v = .str z t := fun i v hv => by
          obtain ⟨z, t, e1, e2⟩ := StrsAre.item hit i v (by rw [Array.getElem?_toList]; exact hv)
          exact ⟨z, t, e2, e1⟩
        refine setS_walk ((Walks.list h3 _ l neI items).toS) s.heap.objs.size outS zs isz few val (items.size - 0) 0 _ (by omega) (Nat.zero_le _) ⟨⟨_, Heap.get?_push_size _ rfl, rfl, rfl⟩, (isL.push _)⟩ ?_ ?_
        · exact ⟨0, Nat.le_refl 0, setS_zero (Heap.get?_push_of_some _ new) zs⟩
        · rintro ⟨h', g4, d', tk', os'⟩ c' mv hc' hS'
          have eg : g4 = s.gens := mv.gens
          have ed : d' = s.drawn := mv.drawn
          have eo : os' = s.os := mv.os
          subst eg ed eo
          show wpAny _ _ _ _ _ _
          refine wpAny_pure ?_
          show wpAny _ _ (ret Value.none) _ _ _
          rw [isz] at hc'
          refine wpAny_pure ⟨rfl, h', tk', c', rfl, hS', hc', fun b o e => ?_⟩
          have b0 : b < s.heap.objs.size := Heap.lt_size e
          refine mv.heap b o (fun hm => ?_) (Heap.get?_push_of_some _ (Heap.get?_push_of_some _ e))
          rcases List.mem_cons.mp hm with q | q
          · exact absurd b0 (by rw [q]; exact Nat.lt_irrefl _)
          · have q := List.mem_singleton.mp q
            rw [q, Heap.size_push] at b0
            exact absurd (Nat.lt_of_succ_lt b0) (Nat.lt_irrefl _)
      · cases r₂ with
        | error e => exact hr₂
        | ok fl₂ =>
          cases fl₂ with
          | next => exact hr₂.elim
          | brk => exact hr₂.elim
          | cont => exact hr₂.elim
          | ret r =>
            obtain ⟨rfl, h', tk, c', rfl, hS', hc', hk'⟩ := hr₂
            repeat (any_goals (first | assumption | wp_step))
            exact h _ _ _ hS' hc' hk'
end
end Nw
namespace Nw
open PySem L2 PySem.Spec PyProof.Rows RZ
section
variable {P : Program} {w : World} {A : Around} {E : Value → Shared → Prop} {s : Shared} {a : Addr} {S : Str → Bool} {n : Nat}
/-- sorted(s) of a set of texts -/
theorem setS_sorted {Q : Value → Shared → Prop} (R : SetS w s.heap a S n) (hh : A.handled = none) (h64 : n < 64)
    (hQ : ∀ s' p (out : Array Value) (c : Nat) (zs : List Str), (∀ b o, s.heap.get? b = some o → s'.heap.get? b = some o) → s'.gens = s.gens → s'.os = s.os → s.heap.objs.size ≤ p →
      s'.heap.get? p = some (seqObj "list" out c) → StrsAre out.toList zs → sortedS zs = true → zs.Nodup → (∀ k, k ∈ zs ↔ S k = true) → zs.length = n → Q (.ref p) s') :
    wpAny (model P w) A (call (.builtin "sorted") [.ref a]) Q E s := by
  obtain ⟨o, es, ep, t, ho, hex, hd, T, hn⟩ := R
  refine Calls.call_function_entry kind_sorted plain_sorted entry_sorted (args_sorted1 _) ?_
  unfold Builtin.«sorted»
  refine wpAny_bind (m := checkCount "sorted" 1 1 _) (wpAny_pure ?_)
  refine wpAny_bind (collect_set (A := A.in1) hh ⟨o, ho, hex.1, hd⟩ T.fits T.few T.ris T.led fun s1 vs k1 hz g1 o1 pm => ?_)
  have lv : vs.length = n := by rw [pm.length_eq, List.length_map, Array.length_toList]; exact hn
  have mk_ : ∀ (us : List Value), (∀ v ∈ us, ∃ e ∈ es.toList, v = e.2) → StrsAre us (us.map fun v => keyS (0, v)) := by
    intro us
    induction us with
    | nil => intro _; exact .nil
    | cons v us ih =>
      intro hu
      obtain ⟨e, he, rfl⟩ := hu v List.mem_cons_self
      obtain ⟨k, tk, q, _⟩ := T.good e he
      have r := ih fun x hx => hu x (List.mem_cons_of_mem _ hx)
      rw [q]
      exact .cons k tk r
  have hI := mk_ vs fun v hv => by
    obtain ⟨e, he, q⟩ := List.mem_map.mp (pm.mem_iff.mp hv)
    exact ⟨e, he, q.symm⟩
  have pk : (vs.map fun v => keyS (0, v)).Perm (es.toList.map keyS) := by
    have q := pm.map fun v => keyS (0, v)
    rw [List.map_map] at q
    exact q
  generalize vs.map (fun v => keyS (0, v)) = ks at hI pk
  refine wpAny_bind (wpAny_newList ?_ (by rw [lv, sizeLine_eq]; omega))
  have hoL : (s1.heap.push (seqObj "list" vs.toArray 0)).get? s1.heap.objs.size = some (seqObj "list" vs.toArray 0) := Heap.get?_push_size _ rfl
  refine wpAny_bind (wpAny_holding (wpAny_call_entry slot_list_sort ⟨_, hoL, rfl⟩ entry_list_sort (list_sort_treeK strKind_oneLt hoL hI.keysOf (fun v₁ v₂ rest e => keyKind_strs (by rw [← e]; exact hI)) (by rw [lv]; exact h64) fun st' hp hs => ⟨_, rfl, ?_⟩) (args_list_sort _)))
  obtain ⟨zs, z1, z2, z3⟩ := sorted_out_str hI hp hs
  obtain ⟨c, hc⟩ := sortedHeap_at (vs := vs) (out := (arrOf st').map (·.2)) hoL
  have pn := z2.trans pk
  refine wpAny_pure ⟨_, rfl, hQ _ s1.heap.objs.size _ c zs (fun b u e => ?_) g1 o1 hz hc z1 z3 (pn.nodup_iff.mpr T.nd) (fun k => by rw [pn.mem_iff, ← T.mem k]) ?_⟩
  · have q := k1 b u e
    have lt := Heap.lt_size q
    show (sortedHeap (s1.heap.push (seqObj "list" vs.toArray 0)) s1.heap.objs.size vs _).get? b = some u
    rw [sortedHeap_old (Nat.ne_of_lt lt) (by rw [size_push']; exact Nat.lt_succ_of_lt lt)]
    exact Heap.get?_push_of_some _ q
  · rw [pn.length_eq, List.length_map, Array.length_toList]; exact hn
end
end Nw
namespace Nw
open PySem L2 PySem.Spec PyProof.Rows RZ
/-- the set of these texts -/
def SetSO (w : World) (a : Addr) (zs : List Str) (n : Nat) : HO := .ext fun h => SetS w h a (fun j => decide (j ∈ zs)) n
theorem setSO_new {w : World} {P : Program} {H : Hp} {h : Heap} {a : Addr} {zs : List Str} {n : Nat} (R : SetS w h a (fun j => decide (j ∈ zs)) n) : ObjOk P w H h a (SetSO w a zs n) := by
  have ⟨o, _, _, _, ho, _⟩ := R
  exact ⟨R, ⟨o, ho⟩, fun h1 h2 p k => SetS.at p k⟩
section
variable {X : Cx}
def rSetOfS (K : PySem.W.Frag) (w : World) : List V → Hp → VK → Prop := fun xs H Q => ∃ (l : Addr) (zs : List Str), xs = [V.ref l] ∧ SqL K H l (zs.map V.str) ∧ zs.length < 60 ∧ ∀ a n, H a = none → n ≤ zs.length → Q (.ref a) (upd H a (SetSO w a zs n))
theorem cr_setOfS (hc : X.calm = true) : CallR X (.type "set") (rSetOfS X.K X.w) := by
  intro pins s σ H xs us Q I r h
  obtain ⟨l, zs, rfl, hl, hf, q⟩ := h
  rw [Vals.ref1 r]
  obtain ⟨its, rv, pl, hz⟩ := I.list hl
  have hn : H s.heap.objs.size = none := I.hok.fresh (Nat.le_refl _)
  refine setS_call (P := X.prog) (w := X.w) zs (I.ok.hd hc) pl.isList (by simpa using rv.strs) (by unfold scanBound; omega) fun h' tk c R hc' k => ?_
  exact ⟨.ref s.heap.objs.size, upd H s.heap.objs.size (SetSO X.w s.heap.objs.size zs c), I.laid (t' := tk) k (Nat.le_refl _) (setSO_new R), rfl, q _ c hn hc'⟩
def rSortedSS (w : World) : List V → Hp → VK → Prop := fun vs H Q => ∃ (a : Addr) (zs : List Str) (n : Nat), vs = [V.ref a] ∧ H a = some (SetSO w a zs n) ∧ n < 64 ∧
  ∀ (ys : List Str) (p : Addr), sortedS ys = true → ys.Nodup → (∀ k, k ∈ ys ↔ k ∈ zs) → ys.length = n → H p = none → Q (.ref p) (upd H p (.lst (ys.map V.str)))
theorem cr_sortedSS (hc : X.calm = true) : CallR X (.builtin "sorted") (rSortedSS X.w) := by
  intro pins s σ H vs us Q I r h
  obtain ⟨a, zs, n, rfl, ha, h64, q⟩ := h
  have R : SetS X.w s.heap a (fun j => decide (j ∈ zs)) n := (I.hok a _ ha).1
  rw [Vals.ref1 r]
  refine setS_sorted R (I.ok.hd hc) h64 fun s' p out c ys k g o hp hg hi hs nd hm hl => ?_
  have hlen : (ys.map V.str).length ≤ sizeLine := by rw [List.length_map, hl, sizeLine_eq]; omega
  have hn : H p = none := I.hok.fresh hp
  have J : Inv X pins σ (upd H p (.lst (ys.map V.str))) { s with heap := s'.heap, gens := s'.gens, drawn := s'.drawn, toks := s'.toks } :=
    I.call (ch := []) (Un.laid k hp hn) (I.hok.laid k hp ⟨hlen, out.toList, c, vals_of_strs hi, hg⟩) (by rw [g]; exact I.bare) (fun _ z => nomatch z)
  have e : s' = { s with heap := s'.heap, gens := s'.gens, drawn := s'.drawn, toks := s'.toks } := by
    cases s'
    cases s
    cases o
    rfl
  rw [e]
  refine ⟨.ref p, _, J, rfl, q ys p hs nd (fun z => ?_) hl hn⟩
  rw [hm z, decide_eq_true_eq]
end
end Nw
/-! a written dict's get; list.remove of texts. -/
namespace Nw
open PySem L2 PySem.Spec PyProof.Rows RZ
section
variable {X : Cx} {o e : Expr} {apos cpos : Pos} {td ty : TE} {d : Addr} {es : Array DictEntry} {n : Nat}
/-- MODES.get(x) -/
def tKGet (K : PySem.W.Frag) (d : Addr) (td ty : TE) : TE := fun σ H Q => td σ H fun x H1 => x = .ref d ∧ ty σ H1 fun y H2 => ∃ (z : Str) (r : Option Value) (v : V), y = .str z ∧ PySem.W.nsIn K d z = some r ∧ RelV v (r.getD .none) ∧ Q v H2
theorem pe_kget (D : KDict X.K X.w d es n) (ho : PE X o td) (he : PE X e ty) (m : M1 X o "get" apos e cpos) : PE X (.Call (.Attribute o "get" apos) [e] [] cpos) (tKGet X.K d td ty) := by
  refine ⟨fun pins s σ H Q I h => ?_⟩
  refine wpAny_Call_method m.base m.few m.line PySem.F.plainAttrs_dict PySem.F.slot_dict_get PySem.F.type_dict_get (thn (ho.run pins s σ H _ I h) fun u s1 ⟨x, H1, I1, rx, ex, q1⟩ => ?_)
  subst ex
  obtain rfl : u = Value.ref d := rx
  refine ⟨kd_type D I1, fun b q => ?_, ?_⟩
  · cases q
    exact ⟨_, I1.kIn _ _ D.at_, rfl⟩
  rw [m.trees]
  refine Calls.callWith_builtin rfl (Calls.evalArgs_plain (Calls.spliced_cons (thn (he.run pins s1 σ H1 _ I1 q1) fun iv s2 ⟨y, H2, I2, ry, z, r, v, ey, er, rv, q2⟩ => Calls.spliced_nil ?_)))
  subst ey
  obtain ⟨t, rfl⟩ := ry
  refine call_meetsIn PySem.F.slot_dict_get (kd_type D I2) PySem.F.entry_dict_get (PySem.F.args_dict_get_2 _ _) (meets_dict_get (PySem.strKind X.prog X.w) d (PySem.strKind_is X.prog X.w z t) D.low) ⟨_, PySem.W.mapOf_K (prog := X.prog) I2.kIn D.at_ D.lit, ?_⟩
  rw [PySem.W.find_K D.at_ er]
  exact ⟨v, H2, I2.tok _, rv, q2⟩
end
theorem erase_mapS : ∀ (l : List Str) (j : Nat), (l.map V.str).eraseIdx j = (l.eraseIdx j).map V.str
  | [], j => by simp
  | a :: r, 0 => by simp
  | a :: r, j + 1 => by
    have ih := erase_mapS r j
    simp [ih]
section
variable {X : Cx}
def rRemS : V → List V → Hp → VK → Prop := fun x xs H Q => ∃ (l : Addr) (ns : List Str) (k : Str) (j : Nat), x = .ref l ∧ xs = [.str k] ∧ H l = some (.lst (ns.map V.str)) ∧ ns[j]? = some k ∧ (∀ m : Nat, m < j → ns[m]? ≠ some k) ∧ Q .non (upd H l (.lst ((ns.eraseIdx j).map V.str)))
theorem mt_removeS : MtM X "list.remove" rRemS := by
  intro pins s σ H x xs v us Q I rx rxs h
  obtain ⟨l, ns, k, j, rfl, rfl, hH, hj, hno, q⟩ := h
  cases rx
  obtain ⟨u, rfl, ru⟩ := rxs.one
  obtain ⟨t, rfl⟩ := ru
  obtain ⟨z, its, n, r, hl, e⟩ := I.lstM hH
  have hi : StrsAre its ns := by simpa using r.strs
  rw [List.length_map] at hl z
  have hjn : j < ns.length := (List.getElem?_eq_some_iff.mp hj).1
  have hjl : j < its.toArray.size := by rw [List.size_toArray]; omega
  refine call_meets PySem.F.slot_list_remove ⟨_, e, rfl⟩ PySem.F.entry_list_remove (PySem.F.args_list_remove_2 _ _)
    (MeetsSeq.list_remove l its.toArray n (.str k t) (isStrOf k) (fun y hy => eq_isStrOf k t hi y (by simpa using hy)) j hjl ?_ ?_ (by rw [List.size_toArray]; omega)) ⟨e, ?_⟩
  · have := PySem.SeqAt.isStrOf_at k hi j (by omega) hjn
    rw [(List.getElem?_eq_some_iff.mp hj).2] at this
    simpa using this
  · intro m hm hmj
    have hmn : m < ns.length := by omega
    have := PySem.SeqAt.isStrOf_at k hi m (by omega) hmn
    have ne : ns[m] ≠ k := fun e2 => hno m hmj (by rw [List.getElem?_eq_getElem hmn, e2])
    rw [show (ns[m] == k) = false from beq_eq_false_iff_ne.mpr ne] at this
    simpa using this
  · have rr := r.eraseIdx j
    rw [erase_mapS] at rr
    refine ⟨.non, _, I.lset (its' := its.eraseIdx j) (t' := s.toks) hH e ?_ rr ?_, rfl, q⟩
    · show its.toArray.eraseIdxIfInBounds j = (its.eraseIdx j).toArray
      rw [List.eraseIdxIfInBounds_toArray]
    · rw [List.length_map]
      have := List.length_eraseIdx_le ns j
      omega
end
end Nw
namespace Nw
open PySem L2 PySem.Spec PyProof.Rows RZ
/-- tuple(x) within a comprehension: K told -/
theorem call_tuple_ofC {X : Cx} {K : PySem.W.Frag} (h : X.K = K) : CallR X (.type "tuple") (fun xs H Q => ∃ p ys, xs = [V.ref p] ∧ ((SqL K H p ys ∧ ∀ l, H l = none → Q (.ref l) (upd H l (.tup ys))) ∨ (SqT K H p ys ∧ Q (.ref p) H))) := by
  subst h; exact call_tuple_of
end Nw
namespace Nw
open PySem L2 PySem.Spec PyProof.Rows RZ
theorem call_len_seqC {X : Cx} {K : PySem.W.Frag} (h : X.K = K) : CallR X (.builtin "len") (fun xs H Q => ∃ p ys, xs = [V.ref p] ∧ (SqL K H p ys ∨ SqT K H p ys) ∧ Q (V.int ((ys.length : Nat) : Int)) H) := by
  subst h; exact call_len_seq
end Nw
/-! x, *y = a list. -/
namespace Nw
open PySem L2 PySem.Spec PyProof.Rows RZ
/-- a walk from a later place -/
theorem walks_drop {prog : Program} {w : World} {A : Around} {I : Addr} {fp wr : List Addr} {n k : Nat} {P : Nat → Value → Prop} {St : Nat → Heap → Prop} (W : Walks prog w A I fp wr (k + n) P St) :
    Walks prog w A I fp wr n (fun i => P (k + i)) (fun i => St (k + i)) where
  sub := W.sub
  frame := fun i h h' st hk => W.frame (k + i) h h' st hk
  item := fun i s Q E hi st hQ => W.item (k + i) s Q E (by omega) st hQ
  done := fun s Q E st hQ => W.done s Q E st hQ
  self := fun i s Q E st hQ => W.self (k + i) s Q E st hQ
/-- x, *y = a list of one item at least -/
def gStar (K : PySem.W.Frag) (t u : TG) : TG := fun v σ H Q => ∃ (a : Addr) (x : V) (xs : List V), v = .ref a ∧ SqL K H a (x :: xs) ∧ ∀ l, H l = none → t x σ (upd H l (.lst xs)) fun σ1 H1 => u (.ref l) σ1 H1 Q
theorem pg_star {X : Cx} {e1 e2 : Expr} {p : Pos} {k : Nat} {pos : Pos} {t u : TG} (hc : X.calm = true) (h1 : PG X e1 t) (h2 : PG X e2 u)
    (hs : assignEach [e1, .Starred e2 p] X.env = [(false, assign e1 X.env), (true, assign e2 X.env)] := by rfl) : PG X (.Tuple [e1, .Starred e2 p] k pos) (gStar X.K t u) := by
  refine ⟨fun pins s σ H v u_ Q I r hw => ?_⟩
  obtain ⟨a, x, xs, rfl, hq, hw⟩ := hw
  cases r
  obtain ⟨its, rv, hl, hz⟩ := I.list hq
  obtain ⟨ux, uxs, rfl, r1, rr⟩ : ∃ ux uxs, its = ux :: uxs ∧ RelV x ux ∧ Vals xs uxs := by
    cases rv with
    | cons a b => exact ⟨_, _, rfl, a, b⟩
  have hh := I.ok.hd hc
  have hlist := hl.isList
  rw [assign_Tuple, hs]
  refine wpAny_bind (wpAny_standAt ?_)
  unfold unpack
  show wpAny _ _ (do assignInOrder [assign e1 X.env, assign e2 X.env] (← holding [.ref a] (unpackItems (.ref a) 2 (some 1)))) _ _ s
  refine wpAny_bind (wpAny_holding ?_)
  unfold unpackItems notIterableAtAll
  refine wpAny_bind (wpAny_bind (wpAny_specialOf hlist.typeIs PySem.F.slot_list_iter.lookup (wpAny_pure ?_)))
  simp only [Bool.false_eq_true, if_false]
  refine wpAny_bind (wpAny_holding (wpAny_pyIter_list hlist ?_))
  have hne : a ≠ s.heap.objs.size := by
    obtain ⟨o, ho, _⟩ := hlist
    exact Nat.ne_of_lt (Heap.lt_size ho)
  refine wpAny_bind (wpAny_holding ?_)
  show wpAny _ _ (pyNext (.ref s.heap.objs.size) >>= _) _ _ _
  refine wpAny_bind (wpAny_pyNext_list_item (l := a) (i := 0) (items := (ux :: uxs).toArray) (x := ux) ⟨_, Heap.get?_push_size _ rfl, rfl, rfl⟩ (hlist.push _) rfl fun h1' hit1 sb1 => ?_)
  refine wpAny_bind (wpAny_holding ?_)
  refine wpAny_pure (wpAny_pure ?_)
  rw [if_neg (by simp)]
  have lz : uxs.length ≤ sizeLine := by
    have := rr.length
    rw [List.length_cons] at hz
    omega
  have W := walks_drop (k := 1) (n := uxs.length) (by rw [show 1 + uxs.length = (ux :: uxs).toArray.size by simp; omega]; exact Walks.list (prog := X.prog) (w := X.w) (A := X.A.in1) hh s.heap.objs.size a hne (ux :: uxs).toArray)
  have hlist1 : h1'.IsList a (ux :: uxs).toArray := (hlist.push _).extBut sb1.extBut hne
  have keep1 : ∀ b o, s.heap.get? b = some o → h1'.get? b = some o := fun b o e => sb1.extBut b o (Nat.ne_of_lt (Heap.lt_size e)) (Heap.get?_push_of_some _ e)
  have szI : s.heap.objs.size < h1'.objs.size := by
    obtain ⟨o, ho, _⟩ := hit1
    exact Heap.lt_size ho
  have sza : a < h1'.objs.size := by
    obtain ⟨o, ho, _⟩ := hlist1
    exact Heap.lt_size ho
  refine wpAny_bind (wpAny_holding (wpAny_collect_iter (T := "list_iterator") (.inr (.inr (.inl rfl))) W.toS (fun i s' st => Heap.IsListIter.typeIs st.1) ⟨hit1, hlist1⟩ (fun b hb => ?_) (by simp) (fun s2 acc mv io => ?_) lz))
  · rcases List.mem_cons.mp hb with rfl | hb
    · exact szI
    · rw [List.mem_singleton.mp hb]; exact sza
  have eacc : acc.toList = uxs := by
    refine List.ext_getElem? fun j => ?_
    rcases Nat.lt_or_ge j uxs.length with lt | ge
    · have lj : j < acc.size := by rw [io.1]; exact lt
      have e1 : acc[j]? = some acc[j] := by simp [lj]
      have e2 := io.2 j _ e1
      have e3 : uxs[j]? = some acc[j] := by
        have e2 : (ux :: uxs).toArray[1 + j]? = some acc[j] := e2
        rw [List.getElem?_toArray, show 1 + j = j + 1 by omega, List.getElem?_cons_succ] at e2
        exact e2
      rw [Array.getElem?_toList, e1, e3]
    · rw [List.getElem?_eq_none ge, List.getElem?_eq_none (by rw [Array.length_toList, io.1]; exact ge)]
  rw [eacc]
  have es2 : s2 = { s with heap := s2.heap, toks := s2.toks } := by
    obtain ⟨m1, m2, m3, m4, m5⟩ := mv
    cases s2
    have m2 : _ = s.gens := m2
    have m3 : _ = s.drawn := m3
    have m4 : _ = s.os := m4
    subst m2 m3 m4
    rfl
  have keep2 : ∀ b o, s.heap.get? b = some o → s2.heap.get? b = some o := fun b o e => mv.heap b o (by simp; exact Nat.ne_of_lt (Heap.lt_size e)) (keep1 b o e)
  rw [if_neg (by simp)]
  generalize hD : s2.heap.objs.size = Dl
  have I2 : Inv X pins σ H s2 := by rw [es2]; exact I.kept keep2
  have hDn : H Dl = none := I2.hok.fresh (Nat.le_of_eq hD)
  refine wpAny_bind (wpAny_newObj_type (wpAny_pure ?_) (by show (uxs.take (uxs.length - 0)).toArray.size ≤ sizeLine; rw [Nat.sub_zero, List.take_length, List.size_toArray]; exact lz))
  have I3 : Inv X pins σ (upd H Dl (.lst xs)) { s2 with heap := s2.heap.push { cls := .type "list", data := .seq (uxs.take (uxs.length - 0)).toArray } } := by
    refine I2.laid (t' := s2.toks) (fun b o e => Heap.get?_push_of_some _ e) (Nat.le_of_eq hD) ⟨by rw [rr.length]; exact lz, uxs, 0, rr, ?_⟩
    rw [← hD]
    have := Heap.get?_push_size s2.heap (o := { cls := .type "list", data := .seq (uxs.take (uxs.length - 0)).toArray }) rfl
    rw [this, Nat.sub_zero, List.take_length]
  have e0 : ([ux] ++ [Value.ref s2.heap.objs.size] ++ uxs.drop (uxs.length - (2 - 1 - 1)) : List Value) = [ux, .ref Dl] := by
    rw [hD]; simp
  rw [e0]
  refine assignInOrder_cons (thn (h1.run pins _ σ _ x ux _ I3 r1 (hw Dl hDn)) fun _ s4 ⟨σ4, H4, I4, q4⟩ => ?_)
  exact assignInOrder_cons (thn (h2.run pins s4 σ4 H4 (V.ref Dl) (.ref Dl) Q I4 rfl q4) fun _ s5 ⟨σ5, H5, I5, q5⟩ => assignInOrder_nil ⟨σ5, H5, I5, q5⟩)
end Nw
/-! a class held by a local name called; a comprehension within a comprehension. -/
namespace Nw
open PySem L2 PySem.Spec PyProof.Rows RZ
def tMakeL (i : Nat) (C : Addr) (sp : Sp) (dvs : List V) (E : XK) (t : TA) : TE := fun σ H Q => σ[i]? = some (some (.ref C)) ∧ tMake C sp dvs E t σ H Q
section
variable {X : Cx} {CX : CXT} {k i : Nat} {f C : Addr} {fd : FuncData} {ps : List Str} {sp : Sp} {dvs : List V} {ds : List Value} {E : XK} {x : Str} {p pos : Pos} {e : Expr} {es : List Expr} {t : TA}
theorem pe_makeL (M : Mk X.K C f) (F : FnOk X.prog X.w X.K X.mg X.base CX k f fd ps sp) (hr : Room (k + 1) X.A) (hN : X.N[i]? = some x) (hv : Vis X.env.scope x) (hb : Binds X.K fd ps ds) (hd : Vals dvs ds) (hx : Passes CX X E) (ha : PA X (e :: es) t)
    (hdb : (x == ("__debug__" : Str)) = false := by decide) (hcd : (x == ("__classdict__" : Str)) = false := by decide)
    (he : starEach (e :: es) X.env = (false, eval e X.env) :: starEach es X.env := by rfl) (hpl : (backTo pos (starEach es X.env)).any (·.1) = false := by rfl) : PE X (.Call (.Name x p) (e :: es) [] pos) (tMakeL i C sp dvs E t) := by
  refine ⟨fun pins s σ H Q I h => ?_⟩
  obtain ⟨hs, ht⟩ := h
  refine wpAny_Call_Name_kw (thn ((pe_var (pos := p) hN hv hdb hcd).run pins s σ H (fun v H1 => v = .ref C ∧ H1 = H) I ⟨.ref C, hs, rfl, rfl⟩) fun u s1 ⟨v, H1, I1, r1, q1⟩ => ?_)
  obtain ⟨rfl, rfl⟩ := q1
  cases r1
  refine PySem.W.callWith_K (h₀ := X.base) I.ok.mod.kin M.kp (thn (ha.run pos pins s1 σ _ _ I1 ht) fun us s2 ⟨vs, H2, I2, r, q⟩ => ⟨I2.kIn, ?_⟩) he hpl
  exact run_make M F hr hb hd hx I2 r q
end
/-- the names of a block that captures none -/
theorem blkOk_nf {N : List Str} {sc scope : Scope} {own : List (Str × Nat)} (h : blkC N scope scope own = true) (hf : (scope.names.all fun y => match y.2 with | .free => false | _ => true) = true) : BlkOk N sc scope own := by
  have b := blkOk_by h
  refine ⟨b.kind, b.uniq, b.ix, fun y hy e => ?_, b.own⟩
  have q := List.all_eq_true.mp hf y hy
  rw [e] at q
  cases q
end Nw
namespace Nw
open PySem L2 PySem.Spec PyProof.Rows RZ
section
variable {X : Cx}
/-- ' repeatable' * n, n 0 or 1 -/
theorem op_rpt : OpR X (binaryOp .Mult) (fun x y H Q => ∃ n : Nat, n ≤ 1 ∧ x = .str " repeatable" ∧ y = .int (n : Int) ∧ Q (.str (if n = 0 then "" else " repeatable")) H) := by
  intro pins s σ H x y v u Q I rx ry h
  obtain ⟨n, hn, rfl, rfl, q⟩ := h
  obtain ⟨t, rfl⟩ := rx
  obtain ⟨t', rfl⟩ := ry
  have h3 : n = 0 ∨ n = 1 := by omega
  rcases h3 with rfl | rfl
  · refine PySem.P.mul_str (by decide) (by decide +kernel) (by decide +kernel) ?_
    exact ⟨by decide +kernel, .str "", H, I.tok _, ⟨_, rfl⟩, q⟩
  · refine PySem.P.mul_str (by decide) (by decide +kernel) (by decide +kernel) ?_
    exact ⟨.str " repeatable", H, I, ⟨_, rfl⟩, q⟩
end
end Nw
/-! zip of a tuple and a list. -/
namespace Nw
open PySem L2 PySem.Spec PyProof.Rows RZ
/-- the pairs of a tuple at a and a list at b -/
def ItzM (K : PySem.W.Frag) (a b : Addr) : It :=
  ⟨fun i H => ∃ xs ys : List V, SqT K H a xs ∧ SqL K H b ys ∧ i < xs.length ∧ i < ys.length,
   fun i H v H' => ∃ T x y, v = .ref T ∧ H T = none ∧ H' = upd H T (.tup [x, y]) ∧ (∀ xs, SqT K H a xs → xs[i]? = some x) ∧ ∀ ys, SqL K H b ys → ys[i]? = some y,
   fun i H => ∃ xs ys : List V, SqT K H a xs ∧ SqL K H b ys ∧ i = min xs.length ys.length⟩
/-- the iterator and its parts at turn i -/
def zipSt (a b z TI TO i1 i2 : Addr) (i : Nat) (h : Heap) : Prop := IsZip h z TI TO .none ∧ IsTupOf2 h TI (.ref i1) (.ref i2) ∧ (∃ p q, IsTupOf2 h TO p q) ∧ h.IsTupleIter i1 a i ∧ h.IsListIter i2 b i
theorem turn_zipM {P : Program} {w : World} {K : PySem.W.Frag} {elts : List Expr} {kk : Nat} {tpos : Pos} {a b z TI TO i1 i2 : Addr} (S : ZipSep2 z TI TO i1 i2 [i1, a] [i2, b]) (n1 : a ≠ i1) (n2 : b ≠ i2) :
    Turn P w K (.Tuple elts kk tpos) (ItzM K a b) [z, TI, TO, i1, i2] z (zipSt a b z TI TO i1 i2) where
  mem := .head _
  self := fun A i s Q E st q => wpAny_pyIter_zip st.1 q
  keep := fun i h h' ⟨c1, c2, ⟨p, q, c3⟩, c4, c5⟩ k => ⟨k _ (by simp) _ c1, k _ (by simp) _ c2, ⟨p, q, k _ (by simp) _ c3⟩, c4.at fun o e => k _ (by simp) o e, c5.at fun o e => k _ (by simp) o e⟩
  obj := by
    rintro i h ⟨c1, c2, ⟨p, q, c3⟩, ⟨o4, c4, -, d4⟩, ⟨o5, c5, -, d5⟩⟩ c hc
    simp only [List.mem_cons, List.not_mem_nil, or_false] at hc
    rcases hc with rfl | rfl | rfl | rfl | rfl
    · exact ⟨_, c1, fun v => nofun⟩
    · exact ⟨_, c2, fun v => nofun⟩
    · exact ⟨_, c3, fun v => nofun⟩
    · exact ⟨o4, c4, fun v e => by rw [d4] at e; cases e⟩
    · exact ⟨o5, c5, fun v e => by rw [d5] at e; cases e⟩
  item := by
    rintro X rfl rfl rfl calm i pins s σ H E I hf ⟨c1, c2, c3, c4, c5⟩ ⟨xs, ys, hx, hy, l1, l2⟩
    obtain ⟨us, ru, tup, -⟩ := I.tuple hx
    obtain ⟨vs, rv, lst, -⟩ := I.list hy
    have W := WalksT.zipD2 (prog := X.prog) (w := X.w) (A := X.A) S (Draws.tuple (A := X.A.in1) (I.ok.hd calm) i1 a n1 us.toArray) (Draws.list (A := X.A.in1) (I.ok.hd calm) i2 b n2 vs.toArray)
    have e1 := ru.length
    have e2 := rv.length
    refine W.item i s _ E (by simp; omega) ⟨c1, c2, c3, ⟨c4, tup⟩, ⟨c5, lst.isList⟩⟩ fun T vals h1 tk pt big isT mid kp => ⟨_, rfl, ?_⟩
    obtain ⟨u, v, hu, hv, rfl⟩ := pt
    have apart := W.apart i T h1 mid
    refine W.go elts kk tpos i T _ _ E mid fun h2 st2 kp2 => ?_
    obtain ⟨d1, d2, d3, d4, d5⟩ := st2
    have gx : xs[i]? = some xs[i] := List.getElem?_eq_getElem l1
    have gy : ys[i]? = some ys[i] := List.getElem?_eq_getElem l2
    obtain ⟨u', eu, ru'⟩ := ru.get gx
    obtain ⟨v', ev, rv'⟩ := rv.get gy
    obtain rfl : u' = u := by simpa [eu] using hu
    obtain rfl : v' = v := by simpa [ev] using hv
    obtain ⟨o, ho, hcls, n, hdat⟩ := isT
    have kept : ∀ c o, c ∉ [z, TI, TO, i1, i2] → s.heap.get? c = some o → h2.get? c = some o := fun c o hc e => by
      have : c ∉ [z, TO, i1, i2] := fun h => hc (by simp only [List.mem_cons, List.not_mem_nil, or_false] at h ⊢; rcases h with h | h | h | h <;> simp [h])
      exact kp2 c o this (kp c o this e)
    refine ⟨.ref T, _, I.turnedNew (t' := tk) (ob := .tup [xs[i], ys[i]]) kept hf big ⟨by show 2 ≤ sizeLine; decide, [u', v'], .cons ru' (.cons rv' .nil), o, kp2 T o apart ho, hcls, n, hdat⟩, rfl,
      ⟨T, _, _, rfl, I.hok.fresh big, rfl, fun l hl => by rw [I.tuple_inj hl hx]; exact gx, fun l hl => by rw [I.list_inj hl hy]; exact gy⟩, ⟨d1, d2, d3, d4.1, d5.1⟩, fun c hc => ?_⟩
    have lt : c < s.heap.objs.size := by
      obtain ⟨p, q, c3⟩ := c3
      simp only [List.mem_cons, List.not_mem_nil, or_false] at hc
      rcases hc with rfl | rfl | rfl | rfl | rfl
      · exact Heap.lt_size c1
      · exact Heap.lt_size c2
      · exact Heap.lt_size c3
      · obtain ⟨_, c4, _⟩ := c4; exact Heap.lt_size c4
      · obtain ⟨_, c5, _⟩ := c5; exact Heap.lt_size c5
    exact (upd_ne (Nat.ne_of_lt (Nat.lt_of_lt_of_le lt big))).trans (hf c hc).1
  done := by
    rintro X rfl rfl rfl calm i pins s σ H E I hf ⟨c1, c2, c3, c4, c5⟩ ⟨xs, ys, hx, hy, rfl⟩
    obtain ⟨us, ru, tup, -⟩ := I.tuple hx
    obtain ⟨vs, rv, lst, -⟩ := I.list hy
    have W := WalksT.zipD2 (prog := X.prog) (w := X.w) (A := X.A) S (Draws.tuple (A := X.A.in1) (I.ok.hd calm) i1 a n1 us.toArray) (Draws.list (A := X.A.in1) (I.ok.hd calm) i2 b n2 vs.toArray)
    rw [ru.length, rv.length] at c4 c5
    refine W.done s _ E ⟨c1, c2, c3, ⟨by simpa using c4, tup⟩, ⟨by simpa using c5, lst.isList⟩⟩ fun h1 tk kp => ⟨rfl, I.turnedL (t' := tk) (fun c o hc e => kp c o (fun h => hc ?_) e) hf⟩
    simp only [List.mem_cons, List.not_mem_nil, or_false] at h ⊢
    rcases h with h | h | h | h <;> simp [h]
def iZipM (K : PySem.W.Frag) (ta : TA) : TI := fun σ H R => ta σ H fun vs H1 => ∃ (a b : Addr) (xs ys : List V), vs = [.ref a, .ref b] ∧ SqT K H1 a xs ∧ SqL K H1 b ys ∧ R (ItzM K a b) H1
theorem pi_zipM {X : Cx} {e e2 : Expr} {ta : TA} {p pos tpos : Pos} {elts : List Expr} {kk : Nat} (hg : Gl X "zip") (hm : X.mg "zip" = none) (ha : PA X [e, e2] ta)
    (st : starEach [e, e2] X.env = (false, eval e X.env) :: starEach [e2] X.env := by rfl) (pl : (backTo pos (starEach [e2] X.env)).any (·.1) = false := by rfl) :
    PI X (.Tuple elts kk tpos) (.Call (.Name "zip" p) [e, e2] [] pos) (iZipM X.K ta) := by
  constructor
  intro pins s σ H R I h
  refine Call_ (ld_blt I hg hm PyProof.Rows.boot_zip (PyProof.Rows.callWith_type1 (thn (ha.run pos pins s σ H _ I h) fun us s1 ⟨vs, H1, I1, r, a, b, xs, ys, ev, hx, hy, q⟩ => ?_) st pl))
  subst ev
  obtain rfl : us = [.ref a, .ref b] := by
    cases r with
    | cons r1 r => cases r with
      | cons r2 r => cases r; cases r1; cases r2; rfl
  obtain ⟨ua, ra, tup, -⟩ := I1.tuple hx
  obtain ⟨ub, rb, lst, -⟩ := I1.list hy
  obtain ⟨oa, ha', -⟩ := id tup
  have la : a < s1.heap.objs.size := Heap.lt_size ha'
  have lb : b < s1.heap.objs.size := lst.lt
  have sep := PySem.zip_sep2 (N := s1.heap.objs.size) (fp1 := [a]) (fp2 := [b]) (fun c hc => by rw [List.mem_singleton.mp hc]; exact la) (fun c hc => by rw [List.mem_singleton.mp hc]; exact lb)
  refine zip_begins2 (begins_tuple a ua.toArray) (begins_list b ub.toArray) tup lst.isList fun h' z1 z2 z3 z4 z5 sz kp => wpAny_pyIter_zip z1 ?_
  refine ⟨_, [s1.heap.objs.size + 4, s1.heap.objs.size + 2, s1.heap.objs.size + 3, s1.heap.objs.size, s1.heap.objs.size + 1], _, _, H1, rfl, I1.kept (t' := s1.toks) kp, turn_zipM sep (Nat.ne_of_lt la) (Nat.ne_of_lt (Nat.lt_succ_of_lt lb)), ⟨z1, z2, ⟨_, _, z3⟩, ⟨_, z4, rfl, rfl⟩, ⟨_, z5, rfl, rfl⟩⟩, fun c hc => ?_, q⟩
  have le : s1.heap.objs.size ≤ c := by
    simp only [List.mem_cons, List.not_mem_nil, or_false] at hc
    rcases hc with rfl | rfl | rfl | rfl | rfl <;> first | exact Nat.le_refl _ | exact Nat.le_add_right _ _
  exact I1.fpOk le (I1.hok.fresh le)
theorem walk_zipM {K : PySem.W.Frag} {a b : Addr} {xs ys : List V} {n : Nat} (e1 : xs.length = n) (e2 : ys.length = n) : Walk (ItzM K a b) n (fun H => SqT K H a xs ∧ SqL K H b ys) (YPair (fun i => xs[i]?) (fun i => ys[i]?)) :=
  ⟨fun i _ hi q => ⟨xs, ys, q.1, q.2, by omega, by omega⟩, fun _ q => ⟨xs, ys, q.1, q.2, by omega⟩, fun i H v H' _ q ⟨T, x, z, h1, h2, h3, h4, h5⟩ => ⟨T, x, z, h1, h2, h3, h4 xs q.1, h5 ys q.2⟩⟩
end Nw
/-! Own errors: a def that raises, a class whose making raises, isinstance of what was caught. -/
namespace Nw
open PySem L2 PySem.Spec PyProof.Rows RZ
section
variable {P : Program} {w : World} {K : PySem.W.Frag} {mg : Str → Option Value} {base : Heap}
/-- a def that may raise, by its body -/
theorem fnX {x qual : Str} {st : Stmt} {f : Addr} {fd : FuncData} {N ps : List Str} {k : Nat} {sp : Sp} (F : C8.Fun K x qual st f fd) (S : FnScope N ps (C8.fnScope st)) (len : ∀ vs H Q E, sp vs H Q E → vs.length = ps.length)
    (body : ∀ (cdv : Value) (A : Around) (outer : List Env) (s : Shared) (H : Hp) (vs : List V) (Q : VK) (E : XK), Room k (A.deeper (envOfC qual (C8.fnScope st) s.heap.objs.size f cdv)) → sp vs H Q E →
      ∃ t, PSs (cxOf (L2.CX P w) P w K mg base N qual (C8.fnScope st) f cdv A outer s H E) (C8.fnBody st) t ∧
        t { nx := fun _ H' => Q .non H', rt := Q } (start N vs) H) :
    FnOk P w K mg base (L2.CX P w) (k + 1) f fd ps sp := by
  obtain ⟨oc, od, dV, kV, doc, pm, an, cdv, ct, osl, rfl, lk, hcd⟩ := F.ex
  refine fn_of lk hcd S len (fun A outer s H vs Q E hr hsp => ?_)
  exact body cdv A outer s H vs Q E hr hsp
end
section
variable {X : Cx} {CX : CXT} {k : Nat} {f C : Addr} {fd : FuncData} {ps : List Str} {sp : Sp} {E : L2.St → XK} {x : Str} {p pos : Pos} {e : Expr} {es : List Expr} {t : TA}
/-- C(..) where the making may raise: what it may let out is told by the slots -/
def tMakeS (C : Addr) (sp : Sp) (E : L2.St → XK) (t : TA) : TE := fun σ H Q => t σ H fun vs H1 =>
  ∀ x dx, H1 x = none → H1 dx = none → dx ≠ x → sp (.ref x :: vs) (upd (upd H1 dx (.own x)) x (.ins C dx [])) (fun v H2 => v = .non ∧ Q (.ref x) H2) (E σ)
/-- what passes at these slots passes at them with the two new objects beside -/
theorem make_run {pins : List (Addr × Obj)} {σ : L2.St} {H : Hp} {s : Shared} {Q : VK} {us : List Value} {vs : List V} (M : Mk X.K C f) (F : FnOk X.prog X.w X.K X.mg X.base CX k f fd ps sp) (hr : Room (k + 1) X.A) (hb : Binds X.K fd ps [])
    (hx : PassesAt CX X σ (E σ)) (I : Inv X pins σ H s) (r : Vals vs us)
    (h : ∀ x dx, H x = none → H dx = none → dx ≠ x → sp (.ref x :: vs) (upd (upd H dx (.own x)) x (.ins C dx [])) (fun v H2 => v = .non ∧ Q (.ref x) H2) (E σ)) :
    wpAny (model X.prog X.w) X.A (call (.ref C) us) (EP X pins σ Q) X.xe s := by
  let n := s.heap.objs.size
  have hq := h (n + 1) n (I.hok.fresh (Nat.le_succ _)) (I.hok.fresh (Nat.le_refl _)) (Nat.ne_of_lt (Nat.lt_succ_self _))
  have J := Inv.made (C := C) I
  have rr : Vals (V.ref (n + 1) :: vs) (Value.ref (n + 1) :: us) := .cons rfl r
  have hl : (Value.ref (n + 1) :: us).length = ps.length := by rw [← rr.length]; exact F.len _ _ _ _ hq
  have hbind := hb _ (Value.ref (n + 1) :: us) J.kIn (by rw [List.append_nil]; exact hl)
  rw [List.append_nil] at hbind
  have go := F.run _ X.stack _ _ ⟨Value.ref (n + 1) :: us, []⟩ _ _ _ (E σ) (hr.make C us []) (J.env0.make C us []) hbind rr hq
  refine wpAny_call (make_map (f := f) I.kIn M.makes M.init (beq_iff_eq.mp M.fn) (codeAny_mono go ?_))
  intro r s' hq'
  match r, hq' with
  | .error er, hq' => exact hx pins _ _ er s' J hq'
  | .ok (.ret u), hq' =>
    obtain ⟨v, H', J2, rv, ev, q⟩ := J.after hq'
    subst ev
    exact ⟨rv, V.ref (n + 1), H', J2, rfl, q⟩
  | .ok .next, hq' => exact hq'.elim
  | .ok .brk, hq' => exact hq'.elim
  | .ok .cont, hq' => exact hq'.elim
theorem pe_makeS (M : Mk X.K C f) (F : FnOk X.prog X.w X.K X.mg X.base CX k f fd ps sp) (hr : Room (k + 1) X.A) (hg : Gl X x) (hm : X.mg x = some (.ref C)) (hb : Binds X.K fd ps []) (hx : ∀ σ, PassesAt CX X σ (E σ)) (ha : PA X (e :: es) t)
    (hdb : (x == ("__debug__" : Str)) = false := by decide) (he : starEach (e :: es) X.env = (false, eval e X.env) :: starEach es X.env := by rfl)
    (hpl : (backTo pos (starEach es X.env)).any (·.1) = false := by rfl) : PE X (.Call (.Name x p) (e :: es) [] pos) (tMakeS C sp E t) := by
  constructor
  intro pins s σ H Q I h
  apply wpAny_Call_Name_kw (ld_glob I hg hm ?_ hdb)
  apply PySem.W.callWith_K (h₀ := X.base) I.ok.mod.kin M.kp (thn (ha.run pos pins s σ H _ I h) ?_) he hpl
  rintro us s1 ⟨vs, H1, I1, r, q⟩
  exact ⟨I1.kIn, make_run M F hr hb (hx σ) I1 r q⟩
end
/-- what a class of errors must say so that isinstance asks its instances rightly -/
structure ErrC (K : PySem.W.Frag) (D : Addr) : Prop where
  cl : (PySem.W.clsIn K D).isSome = true
  ga : PySem.W.findIn K (.ref D) "__getattribute__" = some (some (.builtin "BaseException.__getattribute__"))
  gt : PySem.W.findIn K (.ref D) "__getattr__" = some none
  sub : PySem.W.subIn K (.ref D) (.type "BaseException") = some true
  ha : PySem.W.findIn K (.ref D) "__class__" = some (some (.builtin "object.__class__"))
  hn : PySem.W.specialIn K (.builtin "object.__class__") "__get__" = some (some (.builtin "getset_descriptor.__get__"))
  tk : PySem.W.takesIn K (.builtin "object.__class__") = some true
  mr : PySem.W.mroIn K D (.type "object") = some true
section
variable {X : Cx} {a D : Addr} {oe : Obj} {cls : Value} {d : Option Addr} {pn : List (Addr × Obj)}
theorem err_at {pins : List (Addr × Obj)} {σ : L2.St} {H : Hp} {s : Shared} {dd : Addr} {fs : List (Str × V)} (hz : Zc cls d oe) (hf : ∃ vs, oe.data = .fields vs) (ec : cls = .ref D) (ed : d = some dd) (I : Inv (X.suite a ((a, oe) :: pn)) pins σ H s)
    (hd : H dd = some (.xd fs)) : ∃ od, PySem.W.InstAt s.heap a oe D (some od) := by
  subst ec
  subst ed
  obtain ⟨ga, _⟩ := I.pin (a, oe) (List.mem_append_left _ List.mem_cons_self)
  obtain ⟨vs, hv⟩ := hf
  have hx : ObjOk X.prog X.w H s.heap dd (.xd fs) := I.hok dd _ hd
  obtain ⟨mA, hns, _⟩ := hx
  obtain ⟨od, ho, _⟩ := lookIn_ns hns
  refine ⟨od, ga, hz.1, ?_, ?_⟩
  · unfold PySem.W.notCls
    rw [hv] <;> rfl
  · rw [hz.2]
    exact ho
/-- isinstance(e, c) of what the suite holds, with its own dict -/
def rIsX (K : PySem.W.Frag) (D a : Addr) (cls : Value) (d : Option Addr) : List V → Hp → VK → Prop := fun xs H Q => cls = .ref D ∧ ∃ (c : V) (cv : Value) (b : Bool) (dd : Addr) (fs : List (Str × V)),
  xs = [.ref a, c] ∧ ClsV c cv ∧ d = some dd ∧ H dd = some (.xd fs) ∧ PySem.W.kitOne K (.ref D) cv = some b ∧ Q (.bl b) H
theorem call_isX (c : ErrC X.K D) (hz : Zc cls d oe) (hf : ∃ vs, oe.data = .fields vs) : CallR (X.suite a ((a, oe) :: pn)) (.builtin "isinstance") (rIsX X.K D a cls d) := by
  intro pins s σ H xs us Q I r h
  obtain ⟨ec, cV, cv, b, dd, fs, rfl, hcv, ed, hd, e, q⟩ := h
  obtain ⟨u1, u2, rfl, r1, r2⟩ := vals2 r
  cases r1
  have e2 := hcv.eq r2
  subst e2
  obtain ⟨od, J⟩ := err_at hz hf ec ed I hd
  exact PySem.W.kia_one (PySem.W.kitx_exc (ox := oe) (od := some od) c.cl c.ga c.gt c.sub c.ha c.hn c.tk c.mr) I.kIn J e (fun z => nomatch z) fun tk => ⟨.bl b, H, I.tok tk, rfl, q⟩
/-- isinstance(e, (c1, ..)), the tuple just laid -/
def rIsXT (K : PySem.W.Frag) (D a : Addr) (cls : Value) (d : Option Addr) : List V → Hp → VK → Prop := fun xs H Q => cls = .ref D ∧ ∃ (tp : Addr) (cs : List V) (ws : List Value) (b : Bool) (dd : Addr) (fs : List (Str × V)),
  xs = [.ref a, .ref tp] ∧ H tp = some (.tup cs) ∧ Paired ClsV cs ws ∧ d = some dd ∧ H dd = some (.xd fs) ∧ PySem.W.kitAny K (.ref D) ws = some b ∧ Q (.bl b) H
theorem call_isXT (c : ErrC X.K D) (hz : Zc cls d oe) (hf : ∃ vs, oe.data = .fields vs) : CallR (X.suite a ((a, oe) :: pn)) (.builtin "isinstance") (rIsXT X.K D a cls d) := by
  intro pins s σ H xs us Q I r h
  obtain ⟨ec, tp, cs, ws, b, dd, fs, rfl, hT, hcv, ed, hd, e, q⟩ := h
  obtain ⟨u1, u2, rfl, r1, r2⟩ := vals2 r
  cases r1
  cases (show u2 = Value.ref tp from r2)
  obtain ⟨od, J⟩ := err_at hz hf ec ed I hd
  obtain ⟨_, its, rv, o, h1, h2, n, h3⟩ := (show ObjOk X.prog X.w H s.heap tp (.tup cs) from I.hok tp _ hT)
  have e3 := ClsV.all hcv rv
  subst e3
  obtain ⟨oc, od', dt, sl⟩ := o
  simp only at h2 h3
  subst h2 h3
  exact PySem.W.kia_tup (PySem.W.kitx_exc (ox := oe) (od := some od) c.cl c.ga c.gt c.sub c.ha c.hn c.tk c.mr) I.kIn J h1 e (fun z => nomatch z) fun tk => ⟨.bl b, H, I.tok tk, rfl, q⟩
end
end Nw
/-! Dicts with None among their keys (numbers, texts, None; no two kinds of dict are mixed). -/
namespace Nw
open PySem L2 PySem.Spec PyProof.Rows RZ
abbrev Nk := List (Leaf × V)
def nV : Leaf → V
  | .none => .non
  | .num i => .int i
  | .text x => .str x
/-- at a: a dict with these keys and values -/
def dN (P : Program) (w : World) (a : Addr) (kvs : Nk) : HO := .ext fun h => kvs.length ≤ sizeLine ∧ (a == sysModules) = false ∧ ∃ vs, KV kvs vs ∧ h.DictOf (leafKind P w) a vs
section
variable {P : Program} {w : World}
theorem nV_is {k : Leaf} {u : Value} (r : RelV (nV k) u) : (leafKind P w).is k u = true := by
  cases k with
  | none =>
    obtain rfl : u = .none := r
    rfl
  | num i =>
    obtain ⟨t, rfl⟩ := r
    exact decide_eq_true rfl
  | text x =>
    obtain ⟨t, rfl⟩ := r
    show (x == x) = true
    simp
theorem dN_at {H : Hp} {h : Heap} {a : Addr} {kvs : Nk} (ok : HOk P w H h) (e : Rd H a (dN P w a kvs)) : kvs.length ≤ sizeLine ∧ (a == sysModules) = false ∧ ∃ vs, KV kvs vs ∧ h.DictOf (leafKind P w) a vs := by
  have x : ObjOk P w H h a (dN P w a kvs) := e.ok ok
  exact x.1
theorem dN_ok {H : Hp} {h : Heap} {a : Addr} {kvs : Nk} {vs : List (Leaf × Value)} (z : kvs.length ≤ sizeLine) (hd : (a == sysModules) = false) (rel : KV kvs vs) (dd : h.DictOf (leafKind P w) a vs) : ObjOk P w H h a (dN P w a kvs) := by
  refine ⟨⟨z, hd, vs, rel, dd⟩, ?_, fun h1 h2 p k => ?_⟩
  · obtain ⟨o, _, _, ho, _⟩ := dd
    exact ⟨o, ho⟩
  · obtain ⟨p1, p2, us, p3, o, es, ep, ho, q⟩ := p
    exact ⟨p1, p2, us, p3, o, es, ep, k _ ho, q⟩
theorem dN_new {H : Hp} (h : Heap) (hb : sysModules < h.objs.size) : ObjOk P w H (h.push { cls := .type "dict", data := .dict #[] }) h.objs.size (dN P w h.objs.size []) :=
  dN_ok (Nat.zero_le _) (beq_eq_false_iff_ne.mpr (Nat.ne_of_lt hb).symm) .nil (Heap.DictOf.new h)
/-- one that its class says: what the walk of a method or of d[k] asks first -/
theorem dN_type {H : Hp} {s : Shared} {a : Addr} {kvs : Nk} (ok : HOk P w H s.heap) (e : Rd H a (dN P w a kvs)) : s.TypeIs (.ref a) "dict" ∧ ∀ b, Value.ref a = .ref b → ∃ ob, s.heap.get? b = some ob ∧ ob.dict = none := by
  obtain ⟨_, _, vs, _, dd⟩ := dN_at ok e
  refine ⟨dd.typeIs, ?_⟩
  rintro b ⟨⟩
  obtain ⟨o, _, _, ho, hx, _⟩ := dd
  exact ⟨o, ho, hx.2.1⟩
end
/-- d[k] -/
def tNAt (P : Program) (w : World) (td ty : TE) : TE := fun σ H Q => td σ H fun x H1 => ty σ H1 fun y H2 =>
  ∃ (a : Addr) (kvs : Nk) (k : Leaf) (v : V), x = .ref a ∧ Rd H2 a (dN P w a kvs) ∧ y = nV k ∧ valV kvs k = some v ∧ Q v H2
/-- d.get(k, z) -/
def tNGet (P : Program) (w : World) (td ty tz : TE) : TE := fun σ H Q => td σ H fun x H1 => ∃ (a : Addr) (kvs : Nk), x = .ref a ∧ Rd H1 a (dN P w a kvs) ∧
  ty σ H1 fun y H2 => tz σ H2 fun z H3 => ∃ k : Leaf, Rd H3 a (dN P w a kvs) ∧ y = nV k ∧ Q ((valV kvs k).getD z) H3
section
variable {X : Cx} {o i e f : Expr} {pos apos cpos : Pos} {td ty tz : TE}
theorem pe_nat (ho : PE X o td) (hi : PE X i ty) (hs : NoSl i) : PE X (.Subscript o i pos) (tNAt X.prog X.w td ty) := by
  constructor
  intro pins s σ H Q I h
  apply subD_of PySem.F.slot_dict_getitem.lookup hs
  refine thn (ho.run pins s σ H _ I h) ?_
  rintro u s1 ⟨x, H1, I1, rx, q1⟩
  refine thn (hi.run pins s1 σ H1 _ I1 q1) ?_
  rintro iv s2 ⟨y, H2, I2, ry, a, kvs, k, v, rfl, ha, rfl, hv, q2⟩
  obtain rfl : u = Value.ref a := rx
  obtain ⟨z, hd, vs, rel, dd⟩ := dN_at I2.hok ha
  obtain ⟨w', hw, rw'⟩ := RelO.some_of (v := v) (o := valueAt vs k) (by rw [← hv]; exact rel.val k)
  exact ⟨(dN_type I2.hok ha).1, wpAny_getItem_of (nV_is ry) dd.mapOf hw ⟨v, H2, I2.tok _, rw', q2⟩⟩
theorem pe_nget (ho : PE X o td) (he : PE X e ty) (hf : PE X f tz) (m : M2 X o "get" apos e f cpos) : PE X (.Call (.Attribute o "get" apos) [e, f] [] cpos) (tNGet X.prog X.w td ty tz) := by
  constructor
  intro pins s σ H Q I h
  apply wpAny_Call_method m.base m.few m.line PySem.F.plainAttrs_dict PySem.F.slot_dict_get PySem.F.type_dict_get
  refine thn (ho.run pins s σ H _ I h) ?_
  rintro u s1 ⟨x, H1, I1, rx, a, kvs, rfl, ha, q1⟩
  obtain rfl : u = Value.ref a := rx
  obtain ⟨t1, t2⟩ := dN_type I1.hok ha
  refine ⟨t1, t2, ?_⟩
  rw [m.trees]
  apply Calls.callWith_builtin rfl
  apply Calls.evalArgs_plain
  apply Calls.spliced_cons
  refine thn (he.run pins s1 σ H1 _ I1 q1) ?_
  rintro iv s2 ⟨y, H2, I2, ry, q2⟩
  apply Calls.spliced_cons
  refine thn (hf.run pins s2 σ H2 _ I2 q2) ?_
  rintro fv s3 ⟨z, H3, I3, rz, k, ha3, rfl, q3⟩
  apply Calls.spliced_nil
  obtain ⟨_, hd, vs, rel, dd⟩ := dN_at I3.hok ha3
  exact call_meetsIn PySem.F.slot_dict_get dd.typeIs PySem.F.entry_dict_get (PySem.F.args_dict_get_3 _ _ _) (meets_dict_get_default (leafKind X.prog X.w) a (nV_is ry) hd fv)
    ⟨_, dd.mapOf, ⟨_, H3, I3.tok _, (rel.val k).getD rz, q3⟩⟩
end
/-! ### displays -/
def mergeN (kvs more : Nk) : Nk := more.foldl (fun acc kv => putK acc kv.1 kv.2) kvs
theorem KV.mergeN_ : ∀ {more : Nk} {rs : List (Leaf × Value)} {kvs : Nk} {vs : List (Leaf × Value)}, KV more rs → KV kvs vs → KV (mergeN kvs more) (merged vs rs)
  | [], _, _, _, r, q => by
    cases r
    exact q
  | p :: more, _, kvs, vs, r, q => by
    cases r with
    | @cons _ b _ bs h t =>
      have e : KV (putK kvs p.1 p.2) (stored vs b.1 b.2) := by
        rw [← h.1]
        exact q.put p.1 h.2
      exact KV.mergeN_ (more := more) (rs := bs) t e
theorem mergeN_length : ∀ (more kvs : Nk), (mergeN kvs more).length ≤ kvs.length + more.length
  | [], kvs => Nat.le_refl _
  | p :: more, kvs => by
    have h1 := mergeN_length more (putK kvs p.1 p.2)
    have h2 := length_putK kvs p.1 p.2
    rw [List.length_cons]
    exact Nat.le_trans h1 (by omega)
theorem carriesN {P : Program} {w : World} : ∀ {kvs : Nk} {ws : List (Value × Value)}, VV (kvs.map fun kv => (nV kv.1, kv.2)) ws → ∃ rs, Carries (leafKind P w) ws rs ∧ KV kvs rs
  | [], _, r => by
    cases r
    exact ⟨[], trivial, .nil⟩
  | p :: kvs, _, r => by
    cases r with
    | @cons _ b _ bs h t =>
      obtain ⟨rs, c, q⟩ := carriesN (P := P) (w := w) t
      obtain ⟨b1, b2⟩ := b
      exact ⟨(p.1, b2) :: rs, ⟨nV_is h.1, rfl, c⟩, .cons ⟨rfl, h.2⟩ q⟩
/-- {k: v, ..} -/
def tNDisp (P : Program) (w : World) (trs : List (TE × TE)) : TE := fun σ H Q => ∀ p, H p = none → tPairs trs σ (upd H p (dN P w p [])) fun ps H2 =>
  H2 p = some (dN P w p []) ∧ ∃ kvs : Nk, ps = kvs.map (fun kv => (nV kv.1, kv.2)) ∧ kvs.length ≤ 15 ∧ Q (.ref p) (upd H2 p (dN P w p (mergeN [] kvs)))
theorem pe_ndisp {X : Cx} {pos : Pos} {keys : List (Option Expr)} {values : List Expr} {trs : List (TE × TE)} (h : PPs X pos keys values trs) (hall : keys.all (·.isSome) = true) (hl : keys.length = values.length) (h0 : keys ≠ []) (h15 : keys.length ≤ 15) :
    PE X (.Dict keys values pos) (tNDisp X.prog X.w trs) := by
  constructor
  intro pins s σ H Q I q
  have hn := I.hok.fresh (Nat.le_refl s.heap.objs.size)
  have J := I.laid (a := s.heap.objs.size) (o := dN X.prog X.w s.heap.objs.size []) (h' := s.heap.push { cls := .type "dict", data := .dict #[] }) (t' := s.toks)
    (fun _ _ q => Heap.get?_push_of_some _ q) (Nat.le_refl _) (dN_new s.heap I.big)
  apply wpAny_Dict_walk (knd := leafKind X.prog X.w) hall hl h0 h15
  refine thn (h.run pins _ σ _ _ J (q _ hn)) ?_
  rintro ws s2 ⟨ps, H2, I2, rel, e, kvs, rfl, lk, q2⟩
  obtain ⟨rs, c, rk⟩ := carriesN (P := X.prog) (w := X.w) rel
  obtain ⟨z, hd, vs0, r0, dd⟩ := dN_at I2.hok (.inl e)
  cases r0
  refine ⟨rs, c, dd, fun h' dd' hs => ⟨.ref s.heap.objs.size, _, ?_, rfl, q2⟩⟩
  have hz : (mergeN [] kvs).length ≤ sizeLine := by
    have := mergeN_length kvs []
    rw [List.length_nil] at this
    rw [sizeLine_eq]
    omega
  obtain ⟨ob, _, _, hob, _⟩ := id dd'
  exact d_write I2 (by rw [e]; exact True.intro) hs ⟨ob, hob⟩ (dN_ok hz hd (KV.mergeN_ rk .nil) dd')
/-- d[k] = v by a comprehension -/
theorem dN_set {X : Cx} {pins : List (Addr × Obj)} {σ : L2.St} {H : Hp} {s : Shared} {E : Value → Shared → Prop} {D : Addr} {kvs : Nk} {k : Leaf} {v : V} {u r : Value} {Q : Unit → Shared → Prop} (I : Inv X pins σ H s) (hD : H D = some (dN X.prog X.w D kvs))
    (hz : kvs.length < sizeLine) (ry : RelV (nV k) u) (rv : RelV v r) (h : ∀ s', Inv X pins σ (upd H D (dN X.prog X.w D (putK kvs k v))) s' → Q () s') : wpAny (model X.prog X.w) X.A (dictSet D u r) Q E s := by
  obtain ⟨z, hd, vs, rel, dd⟩ := dN_at I.hok (.inl hD)
  have hl : (putK kvs k v).length ≤ sizeLine := Nat.le_trans (length_putK kvs k v) hz
  apply wpAny_dictSet_pairs (hsz := by rw [← rel.length]; exact z) (nV_is ry) dd
  intro h' dd' hs
  apply h
  obtain ⟨ob, _, _, hob, _⟩ := id dd'
  exact d_write I (by rw [hD]; exact True.intro) hs ⟨ob, hob⟩ (dN_ok hl hd (rel.put k rv) dd')
end Nw
namespace Nw
open PySem L2 PySem.Spec PyProof.Rows RZ
section
variable {X : Cx}
/-- {k: v for target in iter if ..} with None among the keys: D the new dict -/
def tNDc (P : Program) (w : World) (wi : TI) (g : TG) (tt : TT) (tk tv : TE) (vs : List Nat) : TE := fun σ H Q => wi σ H fun J H1 =>
  ∀ D, H1 D = none → ∃ W : Nat → Nat → Hp → Prop, (∃ m, W 0 m (upd H1 D (dN P w D []))) ∧ ∀ i m H, W i m H →
    (J.stop i H ∧ Q (.ref D) H) ∨ (J.go i H ∧ ∃ Nx : Hp → Prop, (∀ H', Nx H' → ∃ m', m' < m ∧ W (i + 1) m' H') ∧
      ∀ x H', J.yld i H x H' → g x (wipe σ vs) H' fun σ2 H2 => wipe σ2 vs = wipe σ vs ∧ tt σ2 H2 fun b H3 =>
        if b = true then tk σ2 H3 fun y H4 => tv σ2 H4 fun z H5 => ∃ (kvs : Nk) (k : Leaf), y = nV k ∧ H5 D = some (dN P w D kvs) ∧ kvs.length < sizeLine ∧ Nx (upd H5 D (dN P w D (putK kvs k z)))
        else Nx H3)
theorem pe_ndc {kx vx tg iter : Expr} {ifs : List Expr} {scope : Scope} {own : List (Str × Nat)} {pos : Pos} {wi : TI} {g : TG} {tt : TT} {tk tv : TE} (calm : X.calm = true) (nd : X.N.Nodup) (hi : PI X tg iter wi) (ok : BlkOk X.N X.env.scope scope own)
    (hg : ∀ (s : Shared) (H : Hp) (C : Addr) (cl : List (Str × Addr)) (fp : List Addr), PG (X.blk s H scope (compEnvC scope cl C X.env) fp) tg g)
    (ht : ∀ (s : Shared) (H : Hp) (C : Addr) (cl : List (Str × Addr)) (fp : List Addr), PTs (X.blk s H scope (compEnvC scope cl C X.env) fp) ifs tt)
    (hk : ∀ (s : Shared) (H : Hp) (C : Addr) (cl : List (Str × Addr)) (fp : List Addr), PE (X.blk s H scope (compEnvC scope cl C X.env) fp) kx tk)
    (he : ∀ (s : Shared) (H : Hp) (C : Addr) (cl : List (Str × Addr)) (fp : List Addr), PE (X.blk s H scope (compEnvC scope cl C X.env) fp) vx tv)
    (hs : ∀ x, foldedSetIterable iter X.env x = pure x := by intro _; rfl) : PE X (.DictComp kx vx [⟨tg, iter, ifs, 0⟩] scope pos) (tNDc X.prog X.w wi g tt tk tv (own.map (·.2))) := by
  constructor
  intro pins s σ H Q I h
  rw [arm_eval_DictComp]
  have cells : ∀ y ∈ scope.names, y.2 = .free → ∃ c, X.env.cells.lookup y.1 = some c := by
    intro y hy e
    rcases ok.free y hy e with k | k
    · exact I.ok.has _ (.inl k)
    · exact I.ok.has _ (.inr k)
  apply wpAny_comprehension_free rfl hs (closure_ok cells) ok.kind (fun y hy e => by rw [ok.uniq y hy, e])
  refine thn (hi.run pins s σ H _ I h) ?_
  intro xv s1 hx
  refine thn hx ?_
  rintro itv s2 ⟨it, fp, tn, J, H2, rfl, I2, T, st2, f2, q⟩
  refine wpAny_newObj_type (newEnv_comp ?_)
  -- D: the dict that is made
  have free2 : H2 s2.heap.objs.size = none := I2.hok.fresh (Nat.le_refl _)
  obtain ⟨W, ⟨m0, w0⟩, turn⟩ := q _ free2
  have I3 := I2.laid (t' := s2.toks) (fun b o e => Heap.get?_push_of_some _ e) (Nat.le_refl _) (dN_new (P := X.prog) (w := X.w) (H := upd H2 s2.heap.objs.size (dN X.prog X.w s2.heap.objs.size [])) s2.heap I2.big)
  generalize eD : s2.heap.objs.size = D at I3 w0 turn free2 ⊢
  generalize es3 : Shared.mk (s2.heap.push { cls := .type "dict", data := .dict #[] }) s2.gens s2.drawn s2.toks s2.os = s3 at I3 ⊢
  have hp3 : s3.heap = s2.heap.push { cls := .type "dict", data := .dict #[] } := by rw [← es3]
  have kp3 : ∀ b o, s2.heap.get? b = some o → s3.heap.get? b = some o := fun b o e => by
    rw [hp3]
    exact Heap.get?_push_of_some _ e
  have f3 : ∀ b ∈ fp, FpOk X pins (upd H2 D (dN X.prog X.w D [])) b ∧ b < s3.heap.objs.size := by
    intro b hb
    obtain ⟨o, e, _⟩ := T.obj _ _ st2 b hb
    have lt := Heap.lt_size e
    refine ⟨⟨?_, (f2 b hb).2⟩, ?_⟩
    · rw [upd_ne (by rw [← eD]; exact Nat.ne_of_lt lt)]
      exact (f2 b hb).1
    · rw [hp3, Heap.size_push]
      exact Nat.lt_succ_of_lt lt
  have st3 : tn 0 s3.heap := T.keep _ _ _ st2 fun b _ o e => kp3 b o e
  have I4 := block_start I3 ok nd f3
  have pg := hg s3 (upd H2 D (dN X.prog X.w D [])) s3.heap.objs.size (cellsFrom (s3.heap.objs.size + 1) scope.names (cloFrom X.env.cells scope.names [])) fp
  have pt := ht s3 (upd H2 D (dN X.prog X.w D [])) s3.heap.objs.size (cellsFrom (s3.heap.objs.size + 1) scope.names (cloFrom X.env.cells scope.names [])) fp
  have pk := hk s3 (upd H2 D (dN X.prog X.w D [])) s3.heap.objs.size (cellsFrom (s3.heap.objs.size + 1) scope.names (cloFrom X.env.cells scope.names [])) fp
  have pe := he s3 (upd H2 D (dN X.prog X.w D [])) s3.heap.objs.size (cellsFrom (s3.heap.objs.size + 1) scope.names (cloFrom X.env.cells scope.names [])) fp
  show codeAny (model X.prog X.w) X.A (.compStart (.DictComp kx vx [⟨tg, iter, ifs, 0⟩] scope pos) 0 (.ref it) (.ref D) (compEnvC scope (cellsFrom (s3.heap.objs.size + 1) scope.names (cloFrom X.env.cells scope.names [])) s3.heap.objs.size X.env))
      (compPost (model X.prog X.w) X.A X.xe none (EP X pins σ Q) (.ref D) s3.heap.objs.size) { s3 with heap := pushCells (s3.heap.push { cls := .type "dict", data := .dict #[] }) scope.names }
  have none_ : ∀ b ∈ fp, (upd H2 D (dN X.prog X.w D [])) b = none := fun b hb => (f3 b hb).1.1
  generalize ece : compEnvC scope (cellsFrom (s3.heap.objs.size + 1) scope.names (cloFrom X.env.cells scope.names [])) s3.heap.objs.size X.env = ce at I4 pg pt pk pe ⊢
  have loc : ce.locals = s3.heap.objs.size := by rw [← ece]; rfl
  generalize upd H2 D (dN X.prog X.w D []) = H3 at I3 I4 pg pt pk pe w0 none_ f3
  generalize es4 : Shared.mk (pushCells (s3.heap.push { cls := .type "dict", data := .dict #[] }) scope.names) s3.gens s3.drawn s3.toks s3.os = s4 at I4 ⊢
  have st4 : tn 0 s4.heap := T.keep _ _ _ st3 fun b _ o e => by
    rw [← es4]
    exact pushCells_keeps _ _ _ _ (Heap.get?_push_of_some _ e)
  -- what the walked iterator's objects are within the block
  have out : ∀ {σ' : L2.St} {H' : Hp} {s' : Shared}, Inv (X.blk s3 H3 scope ce fp) [] σ' H' s' → (∀ b ∈ fp, H' b = none) → ∀ b ∈ fp, FpOk (X.blk s3 H3 scope ce fp) [] H' b := by
    intro σ' H' s' J' n b hb
    refine ⟨n b hb, (J'.ok.exf b hb).1, J'.ok.exfs b hb, .inl hb, ?_, ?_⟩
    · exact fun x c e => (J'.ok.exf b hb).2 x c e
    · intro p hp
      exact absurd (show p ∈ ([] : List (Addr × Obj)) ++ [] from hp) (by simp)
  have loop : codeAny (model X.prog X.w) X.A (.compLoop (.DictComp kx vx [⟨tg, iter, ifs, 0⟩] scope pos) 0 (.ref it) (.ref D) ce) (compPost (model X.prog X.w) X.A X.xe none (EP X pins σ Q) (.ref D) s3.heap.objs.size) s4 := by
    let Pv : Nat → Shared → Prop := fun n s' => ∃ i H', Inv (X.blk s3 H3 scope ce fp) [] (wipe σ (own.map (·.2))) H' s' ∧ tn i s'.heap ∧ (∀ b ∈ fp, H' b = none) ∧ W i n H'
    refine compLoop_anyD Pv ?_ m0 ⟨0, H3, I4, st4, none_, w0⟩
    rintro n s5 ⟨i, H5, I5, st5, n5, w5⟩
    rcases turn i n H5 w5 with ⟨stop, fin⟩ | ⟨go, Nx, hNx, step⟩
    · refine thnF (T.done (X.blk s3 H3 scope ce fp) rfl rfl rfl calm i [] s5 _ H5 (fun _ _ => False) I5 (out I5 n5) st5 stop) ?_
      rintro r s6 ⟨rfl, I6⟩
      have I7 : Inv X pins σ H5 s6 := by
        refine I3.call' (ch := fp) I6.os I6.base I6.hok I6.bare fun b hb => ?_
        obtain ⟨⟨_, q2, q3, q4, q5, q6⟩, _⟩ := f3 b hb
        exact ⟨q4, q2, q5, q6⟩
      have nC : H5 s3.heap.objs.size = none := by
        have z : H5 ce.locals = none := I6.free
        rwa [loc] at z
      obtain ⟨m, hn, _⟩ := I6.loc
      have hn' : s6.heap.Ns s3.heap.objs.size m := by
        have z : s6.heap.Ns ce.locals m := hn
        rwa [loc] at z
      obtain ⟨q0, q1, q2, q3, q4, q5⟩ := I3.fpOk (Nat.le_refl _) nC
      exact ⟨m, hn', fun h'' sb => ⟨.ref D, H5, I7.turned (t' := s6.toks) (fun b o hb e => (sb.2 b hb).trans e) q0 q1 q3 q4 q5, rfl, fin⟩⟩
    · refine thnF (T.item (X.blk s3 H3 scope ce fp) rfl rfl rfl calm i [] s5 _ H5 (fun _ _ => False) I5 (out I5 n5) st5 go) ?_
      rintro r s6 ⟨u, rfl, h6⟩
      refine thnF h6 ?_
      rintro _ s7 ⟨x, H7, I7, r7, y7, st7, n7⟩
      have J7 := I7.pinned (out I7 n7) (T.obj _ _ st7)
      refine thnF (pg.run _ s7 _ H7 x u _ J7 r7 (step x H7 y7)) ?_
      rintro _ s8 ⟨σ8, H8, I8, hw8, q8⟩
      refine thnF (pt.run _ s8 σ8 H8 _ I8 q8) ?_
      rintro b s9 ⟨H9, I9, q9⟩
      -- behind the turn
      have behind : ∀ {s' : Shared} {H' : Hp}, Inv (X.blk s3 H3 scope ce fp) ([] ++ pinsAt fp s7.heap) σ8 H' s' → Nx H' → ∃ m, m < n ∧ Pv m s' := by
        intro s' H' J' nx
        obtain ⟨m', hm, w'⟩ := hNx H' nx
        have pin' : ∀ b ∈ fp, ∀ o, s7.heap.get? b = some o → s'.heap.get? b = some o ∧ H' b = none := by
          intro b hb o e
          obtain ⟨z1, z2, _⟩ := J'.pin (b, o) (List.mem_append_right _ (List.mem_append_right _ (mem_pinsAt hb e)))
          exact ⟨z1, z2⟩
        refine ⟨m', hm, i + 1, H', (J'.unpinned (pins := [])).weak ?_ ?_, ?_, ?_, w'⟩
        · rw [← hw8, wipe_length]
        · intro j v e
          rw [← hw8] at e
          exact (wipe_some e).1
        · exact T.keep _ _ _ st7 fun b hb o e => (pin' b hb o e).1
        · intro b hb
          obtain ⟨o, e, _⟩ := T.obj _ _ st7 b hb
          exact (pin' b hb o e).2
      cases b with
      | false =>
        simp only [Bool.false_eq_true, if_false] at q9 ⊢
        exact behind I9 q9
      | true =>
        simp only [if_true] at q9 ⊢
        refine thnF (pk.run _ s9 σ8 H9 _ I9 q9) ?_
        rintro z s10 ⟨yk, H10, I10, r10, q10⟩
        refine thnF (pe.run _ s10 σ8 H10 _ I10 q10) ?_
        rintro z2 s11 ⟨yv, H11, I11, r11, kvs, k, rfl, hD11, hz11, nx⟩
        exact dN_set (X := X.blk s3 H3 scope ce fp) I11 hD11 hz11 r10 r11 fun s12 I12 => behind I12 nx
  exact codeAny_compStart_dict loop (T.self X.A 0 _ _ _ st4 loop)
end
end Nw
/-! The keys and the items of a dict with None among its keys. -/
namespace Nw
open PySem L2 PySem.Spec PyProof.Rows RZ
/-- None or a text -/
def noNum : Leaf → Prop
  | .num _ => False
  | _ => True
theorem leaf_rel {P : Program} {w : World} {k : Leaf} {v : Value} (n : noNum k) (h : (leafKind P w).is k v = true) : RelV (nV k) v := by
  cases k with
  | none =>
    have h' : Leaf.isOf .none v = true := h
    cases v <;> first | rfl | exact absurd h' Bool.false_ne_true
  | num i => exact n.elim
  | text x =>
    obtain ⟨t, rfl⟩ := Value.isStrOf_shape (show Value.isStrOf x v = true from h)
    exact ⟨t, rfl⟩
section
variable {prog : Program} {w : World} {A : Around} {E : Value → Shared → Prop} {s : Shared} {T : String} {r d : Addr} {n : Nat} {P : Nat → Value → Prop} {OK : Heap → Prop}
/-- list += source, the list new -/
theorem iadd_src {R : Result → Shared → Prop} (K : PySem.W.KdlSrc prog w T r d n P OK) (hh : A.handled = none) (hok : OK s.heap) (S : Addr) (n1 : S ≠ r) (n2 : S ≠ d) (hS : s.heap.get? S = some { cls := .type "list", data := .seq #[] }) (hn : n ≤ sizeLine)
    (hR : ∀ h' tk acc' c', (∀ b o, b ≠ S → s.heap.get? b = some o → h'.get? b = some o) → h'.get? S = some { cls := .type "list", dict := none, data := .seq acc' c', slots := #[] } → ItemsOf P acc' n → R (.ok (.ret (.ref S))) { s with heap := h', toks := tk }) :
    codeAny (model prog w) A (.builtin "list.__iadd__" ⟨[.ref S, .ref r], []⟩) R s := by
  refine codeAny_builtin PySem.F.entry_list_iadd ?_; rw [Around.under_plainId PySem.F.plain_list_iadd _]
  exact PySem.W.kdl_extend (A := A) K hh hok S n1 n2 (.ref S) _ hS hR hn
/-- all that a source of keys gives -/
theorem collect_src {Q : List Value → Shared → Prop} (K : PySem.W.KdlSrc prog w T r d n P OK) (hh : A.handled = none) (hok : OK s.heap) (hn : n ≤ sizeLine)
    (hQ : ∀ h' tk (acc : Array Value), (∀ b o, s.heap.get? b = some o → h'.get? b = some o) → ItemsOf P acc n → Q acc.toList { s with heap := h', toks := tk }) : wpAny (model prog w) A (collect (.ref r)) Q E s := by
  unfold collect
  refine wpAny_bind (wpAny_runValue (codeAny_builtin PySem.F.entry_proto_collect ?_)); rw [Around.under_plainId PySem.F.plain_proto_collect _]
  show wpAny (model prog w) A.in1 (newList [] >>= fun l => again (.builtin "list.__iadd__" ⟨[l, .ref r], []⟩)) _ _ s
  obtain ⟨l1, l2⟩ := K.there _ hok
  have new : (s.heap.push { cls := .type "list", data := .seq #[] }).get? s.heap.objs.size = some { cls := .type "list", data := .seq #[] } := Heap.get?_push_size _ rfl
  have kept := K.keep _ (s.heap.push { cls := .type "list", data := .seq #[] }) hok fun b _ o e => Heap.get?_push_of_some _ e
  refine wpAny_bind (wpAny_newObj_type (wpAny_pure ⟨plainId_quiet PySem.F.plain_list_iadd _, ?_⟩))
  refine iadd_src (s := { s with heap := s.heap.push { cls := .type "list", data := .seq #[] } }) K hh kept _ (Nat.ne_of_gt l1) (Nat.ne_of_gt l2) new hn fun h' tk acc' c' hk hS' ha => ?_
  show wpAny (model prog w) A (load s.heap.objs.size >>= _) _ _ _
  refine wpAny_bind (wpAny_load hS' (wpAny_pure (hQ h' tk acc' (fun b o e => ?_) ha)))
  exact hk b o (Nat.ne_of_lt (Heap.lt_size e)) (Heap.get?_push_of_some _ e)
end
def tStarN (P : Program) (w : World) (te : TE) (t : TA) : TA := fun σ H Q => te σ H fun x H1 => ∃ (a : Addr) (kvs : Nk), x = .ref a ∧ Rd H1 a (dN P w a kvs) ∧ (∀ kv ∈ kvs, noNum kv.1) ∧
  t σ H1 fun ys H2 => Q (kvs.map (fun kv => nV kv.1) ++ ys) H2
section
variable {X : Cx}
theorem keys_rel {P : Program} {w : World} {kvs : Nk} {vs : List (Leaf × Value)} {acc : Array Value} (rel : KV kvs vs) (nn : ∀ kv ∈ kvs, noNum kv.1) (h : ItemsOf (fun i v => ∃ k x, vs[i]? = some (k, x) ∧ (leafKind P w).is k v = true) acc vs.length) :
    Vals (kvs.map fun kv => nV kv.1) acc.toList := by
  obtain ⟨hl, hp⟩ := h
  have key : ∀ (l : List Value) (kvs : Nk) (vs : List (Leaf × Value)), KV kvs vs → (∀ kv ∈ kvs, noNum kv.1) → l.length = vs.length → (∀ (i : Nat) (v : Value), l[i]? = some v → ∃ k x, vs[i]? = some (k, x) ∧ (leafKind P w).is k v = true) → Vals (kvs.map fun kv => nV kv.1) l := by
    intro l
    induction l with
    | nil =>
      intro kvs vs r nn e _
      cases vs with
      | nil =>
        cases r
        exact .nil
      | cons => simp at e
    | cons a l ih =>
      intro kvs vs r nn e hp
      cases r with
      | nil => simp at e
      | @cons p q ps qs h t =>
        obtain ⟨k, x, e1, e2⟩ := hp 0 a rfl
        obtain rfl : q = (k, x) := by simpa using e1
        refine .cons ?_ (ih ps qs t (fun kv hk => nn kv (List.mem_cons_of_mem _ hk)) (by simpa using e) fun i v hv => ?_)
        · have h1 : p.1 = k := h.1
          show RelV (nV p.1) a
          rw [h1]
          exact leaf_rel (by rw [← h1]; exact nn p List.mem_cons_self) e2
        · obtain ⟨k', x', f1, f2⟩ := hp (i + 1) v (by simpa using hv)
          exact ⟨k', x', by simpa using f1, f2⟩
  refine key acc.toList kvs vs rel nn (by rw [Array.length_toList]; exact hl) fun i v hv => hp i v ?_
  rw [← Array.getElem?_toList]
  exact hv
theorem pa_starN {e : Expr} {es : List Expr} {te : TE} {t : TA} {p : Pos} (calm : X.calm = true) (he : PE X e te) (hr : PA X es t) (hs : starEach (.Starred e p :: es) X.env = (true, eval e X.env) :: starEach es X.env := by rfl) :
    PA X (.Starred e p :: es) (tStarN X.prog X.w te t) := by
  constructor
  intro pos pins s σ H Q I h
  refine PySem.W.items_star (thn (he.run pins s σ H _ I h) ?_) hs
  rintro v s1 ⟨y, H1, I1, ry, a, kvs, rfl, ha, nn, q⟩
  obtain rfl : v = Value.ref a := ry
  obtain ⟨z, hd, vs, rel, dd⟩ := dN_at I1.hok ha
  have hT : s1.TypeIs (.ref a) "dict" := dd.typeIs
  obtain ⟨o, es', ep, ho, hx, hdt, r3⟩ := id dd
  have at_ : s1.heap.DictAt (leafKind X.prog X.w) a vs ep := ⟨o, es', ho, hx, hdt, r3⟩
  unfold PySem.W.StarOf notIterableAtAll
  refine wpAny_bind (wpAny_specialOf hT PySem.F.slot_dict_iter.lookup (wpAny_pure ⟨rfl, ?_⟩))
  refine collect_src (PySem.W.kdl_dict (knd := leafKind X.prog X.w) (kvs := vs) (ep := ep) hd) (I1.ok.hd calm) at_ (by rw [← rel.length]; exact z) fun h' tk acc hk ha' => ?_
  have I2 : Inv X pins σ H1 { s1 with heap := h', toks := tk } := I1.kept hk
  refine thn (hr.run pos pins _ σ H1 _ I2 q) ?_
  rintro ws s3 ⟨ys, H3, I3, r3', q3⟩
  exact ⟨_, H3, I3, (keys_rel rel nn ha').append r3', q3⟩
end
/-- what e gives is new, and stays as it is from then on -/
def tFrz (t : TE) : TE := fun σ H Q => t σ H fun v H' => ∃ d u, v = .ref d ∧ H' d = some u ∧ Mut (some u) ∧ ∀ od, Q v (upd H' d (.frz od u))
theorem pe_frz {X : Cx} {e : Expr} {t : TE} (h : PE X e t) : PE X e (tFrz t) := by
  constructor
  intro pins s σ H Q I q
  refine thn (h.run pins s σ H _ I q) ?_
  rintro v s1 ⟨x, H1, I1, rx, d, u, rfl, hd, mu, q1⟩
  obtain ⟨od, I2⟩ := I1.lock hd mu
  exact ⟨_, _, I2, rx, q1 od⟩
section
variable {X : Cx} {pins : List (Addr × Obj)} {σ : L2.St} {H : Hp} {s : Shared} {d : Addr} {o : Obj} {kvs : Nk}
theorem frzN (I : Inv X pins σ H s) (h : H d = some (.frz o (dN X.prog X.w d kvs))) :
    (d == sysModules) = false ∧ s.heap.get? d = some o ∧ o.ExactDict ∧ ∃ (es : Array DictEntry) (ep : Nat) (vs : List (Leaf × Value)), o.data = .dict es ep ∧ es.size = kvs.length ∧ KV kvs vs ∧ s.heap.DictAt (leafKind X.prog X.w) d vs ep := by
  obtain ⟨hd, x, _⟩ := I.hok d _ h
  obtain ⟨z, hs, vs, kv, o', es, ep, ho, hx, hdt, r⟩ := x
  rw [hd] at ho
  cases ho
  refine ⟨hs, hd, hx, es, ep, vs, hdt, ?_, kv, o, es, hd, hx, hdt, r⟩
  have l1 := r.2.1.length
  rw [Array.length_toList] at l1
  rw [l1, kv.length]
theorem kvN_get {kvs : Nk} {vs : List (Leaf × Value)} {i : Nat} {k : Leaf} {v : V} (r : KV kvs vs) (h : kvs[i]? = some (k, v)) : ∃ u, vs[i]? = some (k, u) ∧ RelV v u := by
  have key : ∀ (kvs : Nk) (vs : List (Leaf × Value)) (i : Nat), KV kvs vs → kvs[i]? = some (k, v) → ∃ u, vs[i]? = some (k, u) ∧ RelV v u := by
    intro kvs
    induction kvs with
    | nil => intro vs i _ e; simp at e
    | cons p ps ih =>
      intro vs i r e
      cases r with
      | @cons _ q _ qs h t =>
        cases i with
        | zero =>
          obtain rfl : p = (k, v) := by simpa using e
          obtain ⟨q1, q2⟩ := q
          obtain ⟨h1, h2⟩ := h
          have e1 : k = q1 := h1
          subst e1
          exact ⟨q2, rfl, h2⟩
        | succ i =>
          obtain ⟨u, e1, e2⟩ := ih qs i t (by simpa using e)
          exact ⟨u, by simpa using e1, e2⟩
  exact key kvs vs i r h
end
/-! ### walks -/
section
variable {P : Program} {w : World} {K : PySem.W.Frag} {tg : Expr} {d : Addr} {o : Obj} {es : Array DictEntry} {ep : Nat}
/-- the keys, in their order -/
def ItNk (P : Program) (w : World) (d : Addr) (o : Obj) (kvs : Nk) : It :=
  ⟨fun i H => H d = some (.frz o (dN P w d kvs)) ∧ i < kvs.length, fun i H x H' => H' = H ∧ ∃ k v, kvs[i]? = some (k, v) ∧ x = nV k, fun i H => H d = some (.frz o (dN P w d kvs)) ∧ kvs.length ≤ i⟩
/-- the pairs, each a new tuple -/
def ItNi (P : Program) (w : World) (d : Addr) (o : Obj) (kvs : Nk) : It :=
  ⟨fun i H => H d = some (.frz o (dN P w d kvs)) ∧ i < kvs.length, fun i H x H' => ∃ T k v, kvs[i]? = some (k, v) ∧ x = .ref T ∧ H T = none ∧ H' = upd H T (.tup [nV k, v]), fun i H => H d = some (.frz o (dN P w d kvs)) ∧ kvs.length ≤ i⟩
theorem turnNk {kvs : Nk} (nn : ∀ kv ∈ kvs, noNum kv.1) (it : Addr) (hod : o.data = .dict es ep) : Turn P w K tg (ItNk P w d o kvs) [it] it (fun i h => h.IsKeyIter it d i kvs.length ep) := by
  refine { mem := by simp, obj := ?_, keep := ?_, item := ?_, done := ?_, self := ?_ }
  · intro i h st b hb
    obtain rfl : b = it := by simpa using hb
    obtain ⟨oi, e, c, dd⟩ := st
    exact ⟨oi, e, fun v z => by rw [dd] at z; cases z⟩
  · intro i h h' st k
    exact st.at fun oi e => k it (by simp) oi e
  · rintro X rfl rfl rfl hc i pins s σ H E I hf st ⟨hd, hi⟩
    obtain ⟨f0, f1, f2, f3, f4, f5⟩ := hf it (by simp)
    obtain ⟨hs, hgd, hx, es', ep', vs, hdt, hsz, kv, hm⟩ := frzN I hd
    obtain ⟨rfl, rfl⟩ := dict_ep hod hdt
    obtain ⟨⟨k, v⟩, hkv⟩ : ∃ p, kvs[i]? = some p := ⟨kvs[i], List.getElem?_eq_getElem hi⟩
    obtain ⟨u, hu, ru⟩ := kvN_get kv hkv
    have hl : kvs.length = vs.length := kv.length
    rw [hl] at st
    refine wpAny_pyNext_dict_item st hm hu ?_
    intro key h' hkey st' sb
    have J : Inv X pins σ H { s with heap := h' } := I.turned (t' := s.toks) (fun b ob hb e => (sb.2 b hb).trans e) f0 f1 f3 f4 f5
    obtain ⟨oi, e, c, dd⟩ := id st'
    refine ⟨key, rfl, go_of (s := { s with heap := h' }) e c dd (by decide) ⟨nV k, H, J, ?_, ⟨rfl, k, v, hkv, rfl⟩, ?_, ?_⟩⟩
    · exact leaf_rel (nn _ (List.mem_of_getElem? hkv)) hkey
    · show h'.IsKeyIter it d (i + 1) kvs.length _
      rw [hl]
      exact st'
    · intro b hb
      exact (hf b hb).1
  · rintro X rfl rfl rfl hc i pins s σ H E I hf st ⟨hd, hi⟩
    obtain ⟨f0, f1, f2, f3, f4, f5⟩ := hf it (by simp)
    obtain ⟨hs, hgd, hx, es', ep', vs, hdt, hsz, kv, hm⟩ := frzN I hd
    obtain ⟨rfl, rfl⟩ := dict_ep hod hdt
    refine next_key_end (I.ok.hd hc) st hgd hdt hsz hi ?_
    intro h' eb
    exact ⟨rfl, I.turned (t' := s.toks) (fun b ob hb e => eb b ob hb e) f0 f1 f3 f4 f5⟩
  · intro A i s Q E st h
    exact wpAny_pyIter_keyiter st h
theorem turnNi {kvs : Nk} {elts : List Expr} {kk : Nat} {tpos : Pos} (nn : ∀ kv ∈ kvs, noNum kv.1) (it : Addr) (hod : o.data = .dict es ep) :
    Turn P w K (.Tuple elts kk tpos) (ItNi P w d o kvs) [it] it (fun i h => ∃ ok ov, IsItemIter h it d i kvs.length ep ok ov) := by
  refine { mem := by simp, obj := ?_, keep := ?_, item := ?_, done := ?_, self := ?_ }
  · rintro i h ⟨ok, ov, e⟩ b hb
    obtain rfl : b = it := by simpa using hb
    exact ⟨_, e, fun v z => nomatch z⟩
  · rintro i h h' ⟨ok, ov, e⟩ k
    exact ⟨ok, ov, k it (by simp) _ e⟩
  · rintro X rfl rfl rfl hc i pins s σ H E I hf st ⟨hd, hi⟩
    obtain ⟨hs, hgd, hx, es', ep', vs, hdt, hsz, kv, hm⟩ := frzN I hd
    obtain ⟨rfl, rfl⟩ := dict_ep hod hdt
    obtain ⟨⟨k, v⟩, hkv⟩ : ∃ p, kvs[i]? = some p := ⟨kvs[i], List.getElem?_eq_getElem hi⟩
    obtain ⟨u, hu, ru⟩ := kvN_get kv hkv
    have hl : kvs.length = vs.length := kv.length
    obtain ⟨ok, ov, he⟩ := st
    rw [hl] at he
    have lt : it < s.heap.objs.size := Heap.lt_size he
    refine wpAny_pyNext_items_item he hm hu ?_
    intro key h' hkey ho hT hz hk
    refine ⟨_, rfl, wpAny_letOwnedTupleGo_items (s := { s with heap := h' }) ho ?_⟩
    intro h'' he' sb
    have hT2 : h''.get? s.heap.objs.size = some { cls := .type "tuple", data := .seq #[key, u] } := (sb.2 _ (Nat.ne_of_gt lt)).trans hT
    have rk : RelV (nV k) key := leaf_rel (nn _ (List.mem_of_getElem? hkv)) hkey
    have new : ObjOk X.prog X.w (upd H s.heap.objs.size (.tup [nV k, v])) h'' s.heap.objs.size (.tup [nV k, v]) := ⟨by show 2 ≤ sizeLine; decide, [key, u], .cons rk (.cons ru .nil), ⟨_, hT2, rfl, _, rfl⟩⟩
    have J : Inv X pins σ (upd H s.heap.objs.size (.tup [nV k, v])) { s with heap := h'' } := by
      refine I.turnedNew (t' := s.toks) (ch := [it]) (fun b ob hb e => ?_) hf (Nat.le_refl _) new
      exact (sb.2 b (by simpa using hb)).trans (hk b ob (by simpa using hb) e)
    refine ⟨.ref s.heap.objs.size, _, J, rfl, ⟨_, k, v, hkv, rfl, I.hok.fresh (Nat.le_refl _), rfl⟩, ⟨key, u, ?_⟩, ?_⟩
    · rw [hl]
      exact he'
    · intro b hb
      obtain rfl : b = it := by simpa using hb
      rw [upd_ne (Nat.ne_of_lt lt)]
      exact (hf b (by simp)).1
  · rintro X rfl rfl rfl hc i pins s σ H E I hf st ⟨hd, hi⟩
    obtain ⟨f0, f1, f2, f3, f4, f5⟩ := hf it (by simp)
    obtain ⟨hs, hgd, hx, es', ep', vs, hdt, hsz, kv, hm⟩ := frzN I hd
    obtain ⟨rfl, rfl⟩ := dict_ep hod hdt
    have hl : kvs.length = vs.length := kv.length
    obtain ⟨ok, ov, he⟩ := st
    rw [hl] at he
    refine wpAny_pyNext_items_end (I.ok.hd hc) he hm (List.getElem?_eq_none (by omega)) ?_
    intro h' eb
    exact ⟨rfl, I.turned (t' := s.toks) (fun b ob hb e => eb b ob hb e) f0 f1 f3 f4 f5⟩
  · rintro A i s Q E ⟨_, _, e⟩ h
    exact PySem.W.kcp_self e h
end
/-- for k in d -/
def iNk (P : Program) (w : World) (td : TE) : TI := fun σ H R => td σ H fun x H1 => ∃ (d : Addr) (o : Obj) (kvs : Nk), x = .ref d ∧ H1 d = some (.frz o (dN P w d kvs)) ∧ (∀ kv ∈ kvs, noNum kv.1) ∧ R (ItNk P w d o kvs) H1
/-- for k, v in d.items() -/
def iNi (P : Program) (w : World) (td : TE) : TI := fun σ H R => td σ H fun x H1 => ∃ (d : Addr) (o : Obj) (kvs : Nk), x = .ref d ∧ H1 d = some (.frz o (dN P w d kvs)) ∧ (∀ kv ∈ kvs, noNum kv.1) ∧ R (ItNi P w d o kvs) H1
section
variable {X : Cx} {tg e : Expr} {td : TE} {apos cpos : Pos}
theorem pi_nk (he : PE X e td) : PI X tg e (iNk X.prog X.w td) := by
  constructor
  intro pins s σ H R I h
  refine thn (he.run pins s σ H _ I h) ?_
  rintro u s1 ⟨x, H1, I1, rx, d, o, kvs, rfl, hd, nn, q⟩
  obtain rfl : u = Value.ref d := rx
  obtain ⟨hs, hgd, hx, es, ep, vs, hdt, hsz, kv, hm⟩ := frzN I1 hd
  refine iter_keys hs hgd hx hdt (pi_one (tk := s1.toks) I1 _ (turnNk nn _ hdt) ⟨_, Heap.get?_push_size _ rfl, rfl, ?_⟩ q)
  rw [hsz] <;> rfl
theorem pi_ni {elts : List Expr} {kk : Nat} {tpos : Pos} (he : PE X e td) (hb : attributeBase e "items" X.env (eval e X.env) = eval e X.env := by rfl) (hl : (apos.endLine == cpos.line) = true := by rfl) :
    PI X (.Tuple elts kk tpos) (.Call (.Attribute e "items" apos) [] [] cpos) (iNi X.prog X.w td) := by
  constructor
  intro pins s σ H R I h
  apply wpAny_Call_method (T := "dict") (id := "dict.items") hb rfl hl PySem.F.plainAttrs_dict PySem.F.slot_dict_items PySem.F.type_dict_items
  refine thn (he.run pins s σ H _ I h) ?_
  rintro u s1 ⟨x, H1, I1, rx, d, o, kvs, rfl, hd, nn, q⟩
  obtain rfl : u = Value.ref d := rx
  obtain ⟨hs, hgd, hx, es, ep, vs, hdt, hsz, kv, hm⟩ := frzN I1 hd
  have hlen : kvs.length = vs.length := kv.length
  refine ⟨hm.dictOf.typeIs, hm.dictOf.mapOf.noDict, ?_⟩
  let view : Obj := { cls := .type "dict_items", data := .fields #[.ref d] }
  have J : Inv X pins σ H1 { s1 with heap := s1.heap.push view } := I1.kept (t' := s1.toks) fun b ob q => Heap.get?_push_of_some _ q
  have fin : wpAny (model X.prog X.w) X.A (pyIter (.ref s1.heap.objs.size)) (PIE X pins σ (.Tuple elts kk tpos) R) X.xe { s1 with heap := s1.heap.push view } := by
    refine wpAny_pyIter_items (d := d) (knd := leafKind X.prog X.w) ⟨_, Heap.get?_push_size _ rfl, rfl, rfl⟩ (hm.push _) ?_
    refine pi_one (tk := s1.toks) J _ (turnNi nn _ hdt) ⟨.none, .none, ?_⟩ q
    rw [hlen]
    exact Heap.get?_push_size _ rfl
  show wpAny _ _ (callWith cpos (.builtin "dict.items") [.ref d] [] []) _ X.xe s1
  refine method_meetsIn PySem.F.slot_dict_items PySem.F.entry_dict_items rfl (PySem.evalArgs_none ⟨rfl, hm.dictOf.typeIs, PySem.F.args_dict_items_1 _, _, meets_dict_items (leafKind X.prog X.w) d hs, ⟨vs, hm.dictOf⟩, fin⟩)
end
theorem walkNk {P : Program} {w : World} {d : Addr} {o : Obj} {kvs : Nk} : Walk (ItNk P w d o kvs) kvs.length (fun H => H d = some (.frz o (dN P w d kvs))) (fun i H x H' => H' = H ∧ ∃ k v, kvs[i]? = some (k, v) ∧ x = nV k) :=
  ⟨fun _ _ hi q => ⟨q, hi⟩, fun _ q => ⟨q, Nat.le_refl _⟩, fun _ _ _ _ _ _ y => y⟩
theorem walkNi {P : Program} {w : World} {d : Addr} {o : Obj} {kvs : Nk} : Walk (ItNi P w d o kvs) kvs.length (fun H => H d = some (.frz o (dN P w d kvs))) (fun i H x H' => ∃ T k v, kvs[i]? = some (k, v) ∧ x = .ref T ∧ H T = none ∧ H' = upd H T (.tup [nV k, v])) :=
  ⟨fun _ _ hi q => ⟨q, hi⟩, fun _ q => ⟨q, Nat.le_refl _⟩, fun _ _ _ _ _ _ y => y⟩
end Nw
/-! Meanings: dicts from None and names to ints, as data. -/
namespace Nw
open PySem L2 PySem.Spec PyProof.Rows RZ
/-- a dict comprehension, Pv by the turn and the heap -/
theorem ndc_it {P : Program} {w_ : World} {J : It} {n : Nat} {Gp : Hp → Prop} {Y : Nat → Hp → V → Hp → Prop} (w : Walk J n Gp Y) {g : TG} {tt : TT} {tk tv : TE} {vs : List Nat} {σ : L2.St} {H1 : Hp} {D : Addr} {Qd : Hp → Prop} (Pv : Nat → Hp → Prop)
    (h0 : Pv 0 (upd H1 D (dN P w_ D []))) (hG : ∀ i H, i ≤ n → Pv i H → Gp H)
    (hs : ∀ i x H H', i < n → Pv i H → Y i H x H' → g x (wipe σ vs) H' fun σ2 H2 => wipe σ2 vs = wipe σ vs ∧ tt σ2 H2 fun b H3 =>
      if b = true then tk σ2 H3 fun y H4 => tv σ2 H4 fun z H5 => ∃ (kvs : Nk) (k : Leaf), y = nV k ∧ H5 D = some (dN P w_ D kvs) ∧ kvs.length < sizeLine ∧ Pv (i + 1) (upd H5 D (dN P w_ D (putK kvs k z)))
      else Pv (i + 1) H3) (hd : ∀ H, Pv n H → Qd H) :
    ∃ W : Nat → Nat → Hp → Prop, (∃ m, W 0 m (upd H1 D (dN P w_ D []))) ∧ ∀ i m H, W i m H →
      (J.stop i H ∧ Qd H) ∨ (J.go i H ∧ ∃ Nx : Hp → Prop, (∀ H', Nx H' → ∃ m', m' < m ∧ W (i + 1) m' H') ∧ ∀ x H', J.yld i H x H' → g x (wipe σ vs) H' fun σ2 H2 => wipe σ2 vs = wipe σ vs ∧ tt σ2 H2 fun b H3 =>
        if b = true then tk σ2 H3 fun y H4 => tv σ2 H4 fun z H5 => ∃ (kvs : Nk) (k : Leaf), y = nV k ∧ H5 D = some (dN P w_ D kvs) ∧ kvs.length < sizeLine ∧ Nx (upd H5 D (dN P w_ D (putK kvs k z))) else Nx H3) := by
  refine ⟨fun i m H => m = n - i ∧ i ≤ n ∧ Pv i H, ⟨n, by simp, Nat.zero_le _, h0⟩, ?_⟩
  rintro i m H ⟨rfl, hi, p⟩
  have q := hG i H hi p
  rcases Nat.lt_or_ge i n with lt | ge
  · exact .inr ⟨w.goes i H lt q, Pv (i + 1), fun H' p' => ⟨n - (i + 1), by omega, rfl, lt, p'⟩, fun x H' y => hs i x H H' lt p (w.yields i H x H' lt q y)⟩
  · have e : i = n := by omega
    subst e
    exact .inl ⟨w.stops H q, hd H p⟩
theorem putK_keys {kvs : Nk} {k : Leaf} {v : V} {kv : Leaf × V} (h : kv ∈ putK kvs k v) : (kv.1 = k ∧ kv.2 = v) ∨ kv ∈ kvs := by
  unfold putK at h
  split at h
  · obtain ⟨q, hq, e⟩ := List.mem_map.mp h
    by_cases c : q.1 = k
    · rw [if_pos c] at e
      subst e
      exact .inl ⟨c, rfl⟩
    · rw [if_neg c] at e
      subst e
      exact .inr hq
  · rcases List.mem_append.mp h with h | h
    · exact .inr h
    · rw [List.mem_singleton.mp h]
      exact .inl ⟨rfl, rfl⟩
theorem putK_nd {kvs : Nk} {k : Leaf} {v : V} (h : (kvs.map (·.1)).Nodup) : ((putK kvs k v).map (·.1)).Nodup := by
  unfold putK
  split
  · rw [List.map_map]
    have e : (kvs.map ((fun x : Leaf × V => x.1) ∘ fun kv => if kv.1 = k then (kv.1, v) else kv)) = kvs.map (·.1) := by
      refine List.map_congr_left fun q _ => ?_
      show (if q.1 = k then (q.1, v) else q).1 = q.1
      split <;> rfl
    rw [e]
    exact h
  · rename_i c
    rw [List.map_append]
    refine List.nodup_append.mpr ⟨h, List.nodup_cons.mpr ⟨List.not_mem_nil, List.nodup_nil⟩, fun a ha b hb e => ?_⟩
    obtain rfl : b = k := by simpa using hb
    subst e
    obtain ⟨q, hq, e2⟩ := List.mem_map.mp ha
    exact c (List.any_eq_true.mpr ⟨q, hq, decide_eq_true e2⟩)
/-- the int of a value -/
def iv : V → Int
  | .int i => i
  | _ => 0
/-- what a meaning says for a key -/
def mv (m : Nk) (k : Leaf) : Int := iv ((valV m k).getD ((valV m .none).getD .non))
structure MOk (m : Nk) : Prop where
  isI : ∀ kv ∈ m, noNum kv.1 ∧ ∃ i, kv.2 = .int i
  hasN : ∃ i, valV m .none = some (.int i)
  lenM : m.length ≤ 1000
  nd : (m.map (·.1)).Nodup
theorem valV_mem {m : Nk} {k : Leaf} {v : V} (h : valV m k = some v) : (k, v) ∈ m := by
  unfold valV at h
  obtain ⟨p, hp, rfl⟩ := Option.map_eq_some_iff.mp h
  have h1 := List.mem_of_find?_eq_some hp
  have h2 := List.find?_some hp
  have h3 : p.1 = k := of_decide_eq_true h2
  rw [← h3]
  exact h1
theorem valV_keys {m : Nk} {k : Leaf} : (valV m k).isSome = true ↔ k ∈ m.map (·.1) := by
  constructor
  · intro h
    obtain ⟨v, hv⟩ := Option.isSome_iff_exists.mp h
    exact List.mem_map.mpr ⟨_, valV_mem hv, rfl⟩
  · intro h
    obtain ⟨p, hp, rfl⟩ := List.mem_map.mp h
    rw [← valV_any]
    exact List.any_eq_true.mpr ⟨p, hp, decide_eq_true rfl⟩
theorem MOk.get {m : Nk} (h : MOk m) (k : Leaf) : (valV m k).getD ((valV m .none).getD .non) = .int (mv m k) := by
  unfold mv
  obtain ⟨i, hi⟩ := h.hasN
  cases e : valV m k with
  | none =>
    rw [hi]
    rfl
  | some v =>
    obtain ⟨_, j, hj⟩ := h.isI _ (valV_mem e)
    have hj' : v = .int j := hj
    subst hj'
    rfl
/-- a meaning stands there for good -/
def Mn (P : Program) (w : World) (G : Hp) (d : Addr) (m : Nk) : Prop := (∃ o, G d = some (.frz o (dN P w d m))) ∧ MOk m
theorem Mn.mono {P : Program} {w : World} {G G' : Hp} {d : Addr} {m : Nk} (s : Same G G') (h : Mn P w G d m) : Mn P w G' d m := by
  obtain ⟨⟨o, h1⟩, h2⟩ := h
  exact ⟨⟨o, s _ _ h1⟩, h2⟩
theorem Mn.rd {P : Program} {w : World} {G H : Hp} {d : Addr} {m : Nk} (h : Mn P w G d m) (s : Same G H) : Rd H d (dN P w d m) := by
  obtain ⟨⟨o, h1⟩, _⟩ := h
  exact .inr ⟨o, s _ _ h1⟩
/-- the accumulated dict behind i of the names ks, each with f of it -/
structure Acc (f : Leaf → Int) (ks : List Leaf) (i : Nat) (kvs : Nk) : Prop where
  val : ∀ k, valV kvs k = if k ∈ ks.take i then some (.int (f k)) else none
  mem : ∀ kv ∈ kvs, kv.1 ∈ ks.take i ∧ kv.2 = .int (f kv.1)
  len : kvs.length ≤ i
  nd : (kvs.map (·.1)).Nodup
theorem Acc.nil {f : Leaf → Int} {ks : List Leaf} : Acc f ks 0 [] := ⟨fun k => by simp [valV], (fun kv h => by cases h), Nat.le_refl _, List.nodup_nil⟩
theorem Acc.step {f : Leaf → Int} {ks : List Leaf} {i : Nat} {kvs : Nk} {k : Leaf} (a : Acc f ks i kvs) (h : ks[i]? = some k) : Acc f ks (i + 1) (putK kvs k (.int (f k))) := by
  have et := take_succ_of h
  refine ⟨fun j => ?_, fun kv hk => ?_, ?_, putK_nd a.nd⟩
  · rw [valV_put, a.val, et]
    by_cases c : j = k
    · subst c
      rw [if_pos rfl, if_pos (List.mem_append.mpr (.inr (List.mem_singleton.mpr rfl)))]
    · rw [if_neg c]
      by_cases c2 : j ∈ ks.take i
      · rw [if_pos c2, if_pos (List.mem_append.mpr (.inl c2))]
      · rw [if_neg c2, if_neg fun q => by
          rcases List.mem_append.mp q with q | q
          · exact c2 q
          · exact c (List.mem_singleton.mp q)]
  · rw [et]
    rcases putK_keys hk with ⟨e1, e2⟩ | hk
    · rw [e1]
      exact ⟨List.mem_append.mpr (.inr (List.mem_singleton.mpr rfl)), e2⟩
    · obtain ⟨q1, q2⟩ := a.mem kv hk
      exact ⟨List.mem_append.mpr (.inl q1), q2⟩
  · have := length_putK kvs k (.int (f k))
    have := a.len
    omega
theorem Acc.done {f : Leaf → Int} {ks : List Leaf} {kvs : Nk} (a : Acc f ks ks.length kvs) (nn : ∀ k ∈ ks, noNum k) (h0 : .none ∈ ks) (hl : ks.length ≤ 1000) : MOk kvs ∧ (∀ k, mv kvs k = if k ∈ ks then f k else f .none) ∧ ∀ k, k ∈ kvs.map (·.1) ↔ k ∈ ks := by
  have ev : ∀ k, valV kvs k = if k ∈ ks then some (.int (f k)) else none := fun k => by
    have := a.val k
    rw [List.take_length] at this
    exact this
  have em : ∀ kv ∈ kvs, kv.1 ∈ ks ∧ kv.2 = .int (f kv.1) := fun kv h => by
    have := a.mem kv h
    rw [List.take_length] at this
    exact this
  refine ⟨⟨fun kv h => ⟨nn _ (em kv h).1, _, (em kv h).2⟩, ⟨f .none, by rw [ev, if_pos h0]⟩, Nat.le_trans a.len hl, a.nd⟩, fun k => ?_, fun k => ?_⟩
  · unfold mv
    rw [ev, ev, if_pos h0]
    by_cases c : k ∈ ks
    · rw [if_pos c, if_pos c]; rfl
    · rw [if_neg c, if_neg c]; rfl
  · rw [← valV_keys, ev]
    by_cases c : k ∈ ks
    · rw [if_pos c]; exact ⟨fun _ => c, fun _ => rfl⟩
    · rw [if_neg c]; exact ⟨(fun h => by cases h), fun h => absurd h c⟩
/-- with keys that are different the i-th value is the key's -/
theorem valV_nd : ∀ {m : Nk} {i : Nat} {k : Leaf} {v : V}, (m.map (·.1)).Nodup → m[i]? = some (k, v) → valV m k = some v
  | [], i, k, v, _, h => by simp at h
  | p :: m, 0, k, v, _, h => by
    obtain rfl : p = (k, v) := by simpa using h
    exact valV_pos rfl
  | p :: m, i + 1, k, v, nd, h => by
    have h' : m[i]? = some (k, v) := by simpa using h
    obtain ⟨n1, n2⟩ := List.nodup_cons.mp nd
    rw [valV_neg (fun e => n1 (List.mem_map.mpr ⟨_, List.mem_of_getElem? h', e.symm⟩))]
    exact valV_nd n2 h'
end Nw
/-! A comprehension with a test. -/
namespace Nw
open PySem L2 PySem.Spec PyProof.Rows RZ
theorem lcf_it {J : It} {n : Nat} {Gp : Hp → Prop} {Y : Nat → Hp → V → Hp → Prop} (w : Walk J n Gp Y) {g : TG} {tt : TT} {te : TE} {vs : List Nat} {σ : L2.St} {H1 : Hp} {D : Addr} {Qd : Hp → Prop} (Pv : Nat → Hp → Prop)
    (h0 : Pv 0 (upd H1 D (.lst []))) (hG : ∀ i H, i ≤ n → Pv i H → Gp H)
    (hs : ∀ i x H H', i < n → Pv i H → Y i H x H' → g x (wipe σ vs) H' fun σ2 H2 => wipe σ2 vs = wipe σ vs ∧ tt σ2 H2 fun b H3 =>
      if b = true then te σ2 H3 fun y H4 => ∃ acc, H4 D = some (.lst acc) ∧ acc.length < sizeLine ∧ Pv (i + 1) (upd H4 D (.lst (acc ++ [y])))
      else Pv (i + 1) H3) (hd : ∀ H, Pv n H → Qd H) :
    ∃ W : Nat → Nat → Hp → Prop, (∃ m, W 0 m (upd H1 D (.lst []))) ∧ ∀ i m H, W i m H →
      (J.stop i H ∧ Qd H) ∨ (J.go i H ∧ ∃ Nx : Hp → Prop, (∀ H', Nx H' → ∃ m', m' < m ∧ W (i + 1) m' H') ∧ ∀ x H', J.yld i H x H' → g x (wipe σ vs) H' fun σ2 H2 => wipe σ2 vs = wipe σ vs ∧ tt σ2 H2 fun b H3 =>
        if b = true then te σ2 H3 fun y H4 => ∃ acc, H4 D = some (.lst acc) ∧ acc.length < sizeLine ∧ Nx (upd H4 D (.lst (acc ++ [y]))) else Nx H3) := by
  refine ⟨fun i m H => m = n - i ∧ i ≤ n ∧ Pv i H, ⟨n, by simp, Nat.zero_le _, h0⟩, ?_⟩
  rintro i m H ⟨rfl, hi, p⟩
  have q := hG i H hi p
  rcases Nat.lt_or_ge i n with lt | ge
  · exact .inr ⟨w.goes i H lt q, Pv (i + 1), fun H' p' => ⟨n - (i + 1), by omega, rfl, lt, p'⟩, fun x H' y => hs i x H H' lt p (w.yields i H x H' lt q y)⟩
  · have e : i = n := by omega
    subst e
    exact .inl ⟨w.stops H q, hd H p⟩
end Nw
/-! Several clauses `except C as n`, one behind the other. -/
namespace Nw
open PySem L2 PySem.Spec PyProof.Rows RZ
/-- a clause: its class, the slot of its name, what its suite does -/
abbrev ClAs : Type := Value × Nat × (Addr → Value → Option Addr → TS)
/-- behind a clause its name is gone -/
def goneE (i : Nat) (D : Ends) : Ends := { nx := fun τ G => D.nx (τ.set i none) G, rt := D.rt, bk := fun τ G => D.bk (τ.set i none) G, ct := fun τ G => D.ct (τ.set i none) G }
def wAsN (K : PySem.W.Frag) (Wo : WX) (D : Ends) : List ClAs → WX
  | [] => Wo
  | z :: r => fun cls d σ H => ∃ y : Bool, PySem.W.exmOne K cls z.1 = some y ∧ (y = true → ∀ e : Addr, H e = none → z.2.2 e cls d (goneE z.2.1 D) (σ.set z.2.1 (some (.ref e))) H) ∧ (y = false → wAsN K Wo D r cls d σ H)
inductive ClsAs (X : Cx) : List ExceptHandler → List ClAs → Prop
  | nil : ClsAs X [] []
  | cons {x n : Str} {c : Value} {i : Nat} {ts : Addr → Value → Option Addr → TS} {s0 : Stmt} {ss : List Stmt} {p1 p2 : Pos} {hs : List ExceptHandler} {l : List ClAs} (ix : X.N[i]? = some n) (lo : X.env.kindOf n = some .local) (nm : Names X x c)
      (su : ∀ (e : Addr) (oe : Obj) (cls : Value) (d : Option Addr) (pn : List (Addr × Obj)), Zc cls d oe → (∃ vs, oe.data = .fields vs) → PSs (X.suite e ((e, oe) :: pn)) (s0 :: ss) (ts e cls d)) (tl : ClsAs X hs l) :
      ClsAs X (.ExceptHandler (some (.Name x p1)) (some n) (s0 :: ss) p2 :: hs) ((c, i, ts) :: l)
section
variable {X : Cx} {bd : List Stmt} {h1 : ExceptHandler} {hs : List ExceptHandler} {l : List ClAs} {pos : Pos} {tb : WX → TS} {Wo : WX}
theorem ps_try_asN (stk : X.stack = X.env :: X.outer) (fra : X.env.frame = some X.env.locals) (nodup : X.N.Nodup) (out : Takes X Wo)
    (body : ∀ (W : WX) (pn : List (Addr × Obj)) (xe : Value → Shared → Prop), Takes (X.tr pn xe) W → PassesOwn (model X.prog X.w) X.A X.env xe → PSs (X.tr pn xe) bd (tb W))
    (cl : ClsAs X (h1 :: hs) l) : PS X (.Try bd (h1 :: hs) [] [] pos) (fun D σ H => tb (wAsN X.K Wo D l) D σ H) := by
  constructor
  intro pins s σ H D I0 hyp
  have good := I0.ok
  have frm : X.A.frames = some (X.env :: X.outer) := good.frames.trans (congrArg some stk)
  apply wpAny_Try_except
  let catch_ : Value → Shared → Prop := fun u t => wpAny (model X.prog X.w) X.A (noteFrame u X.env) (fun _ t2 => wpAny (model X.prog X.w) X.A (setFlight u none) (fun _ t3 => wpAny (model X.prog X.w) X.A (handleBy u X.env (h1 :: hs)) (SP X pins D) X.xe t3) X.xe t2) X.xe t
  have caught : Takes (X.tr (X.pn ++ pins) catch_) (wAsN X.K Wo D l) := by
    intro u t away
    obtain ⟨e, B, t1, pins1, σ1, G1, cls, d, rfl, Jt, nob, grown, sky0, fresh, osq, agr, wish⟩ := away
    have J := Jt.ofTry good
    have sky1 : Sky B (X.env :: X.outer) e (Zc cls d) X.env.locals t.heap := stk ▸ sky0
    exact Sky.land Zc.steady frm fra sky1 fun k1 lnd1 gr1 => by
      have Ja : Inv X pins σ1 G1 { t with heap := k1 } := J.landed nob lnd1.1 (grown.trans gr1) osq agr
      obtain ⟨ob1, fd1, there1, zc1, dt1⟩ := lnd1.there
      have off : e ∉ frs (X.env :: X.outer) := by
        intro hm
        obtain ⟨_, ob, there, not_⟩ := Heap.FunFrames.mem lnd1.2.2.1 hm
        obtain rfl := Option.some.inj (there1.symm.trans there)
        exact not_ _ dt1
      have offL : e ≠ X.env.locals := by
        rintro rfl
        exact off (List.mem_filterMap.mpr ⟨_, .head _, fra⟩)
      have offF : e ∉ X.fs := by
        intro hm
        obtain ⟨f, hf1, hf2⟩ := List.mem_filterMap.mp hm
        exact off (List.mem_filterMap.mpr ⟨f, .tail _ hf1, hf2⟩)
      have inS := Ja.suite there1 dt1 fresh offL offF
      have each : ∀ {hs' : List ExceptHandler} {l' : List ClAs}, ClsAs X hs' l' → wAsN X.K Wo D l' cls d σ1 G1 → wpAny (model X.prog X.w) X.A (handleBy (.ref e) X.env hs') (SP X pins D) X.xe { t with heap := k1 } := by
        intro hs' l' given
        induction given with
        | nil =>
          intro wo
          apply wpAny_handleBy_nil
          have lnd := lnd1
          obtain ⟨_, _, _, obF, vsF, TF_, oT_, tsF, atF, zF, dF, fieldF, _⟩ := lnd
          have up : wpAny (model X.prog X.w) X.A (setFlight (.ref e) X.env.frame) (fun _ t4 => wpAny (model X.prog X.w) X.A (throw (.ref e) : Sem Flow) (SP X pins D) X.xe t4) X.xe { t with heap := k1 } := by
            rw [fra]
            exact HandSPX.setFlight_upZ lnd1 fun k2 high gr2 => wpAny_throw (out _ _ ⟨e, B, t1, pins, σ1, G1, cls, d, rfl, J, nob, (grown.trans gr1).trans gr2, .inr (.inr (stk ▸ high)), fresh, osq, agr, wo⟩)
          unfold PySem.passOn
          refine wpAny_bind (wpAny_field atF dF fieldF ?_)
          have notNone : ¬ ((Value.ref TF_ == Value.none) = true) := by simp
          rw [if_neg notNone]
          first | exact wpAny_bind up | exact wpAny_bind (wpAny_pure (wpAny_bind up))
        | @cons x n c i ts s0 ss p1 p2 hs2 l2 ix lo nm su tl ih =>
          rintro ⟨y, ask, yes, no⟩
          have kind : PySem.W.Looks (model X.prog X.w) k1 (typeOf (.ref e)) cls := fun A Q E s kp q => wpAny_typeOf_ref (kp _ _ there1) (zc1.1.symm ▸ q)
          have asked := PySem.W.exm_one (M := model X.prog X.w) Ja.kIn kind ask
          have named : ∀ {Q E : Value → Shared → Prop}, Q c { t with heap := k1 } → wpAny (model X.prog X.w) (X.A.mark (some (.ref e))) (eval (.Name x p1) X.env) Q E { t with heap := k1 } := by
            intro Q E q
            rcases nm with ⟨gl, db, there | ⟨gone, boot, nn⟩⟩
            · exact ld_glob (X := X.suite e ((e, ob1) :: (X.pn ++ pins))) inS gl there q db
            · exact ld_blt (X := X.suite e ((e, ob1) :: (X.pn ++ pins))) inS gl gone boot q nn db
          refine wpAny_handleBy_cons (codeAny_handlers_test (named (asked.here ?_))) (fun z => nomatch z)
          match y, yes, no with
          | false, _, no => exact ih (no rfl)
          | true, yes, _ =>
            apply codeAny_handlers_suite_as
            refine HandSPX.lands_againZ lnd1 fun k2 lnd2 gr2 => ?_
            have Jb : Inv X pins σ1 G1 { t with heap := k2 } := J.landed nob lnd2.1 ((grown.trans gr1).trans gr2) osq agr
            obtain ⟨ob2, fd2, there2, zc2, dt2⟩ := lnd2.there
            refine store_ok (X := X.suite e ((e, ob2) :: (X.pn ++ pins))) (v := .ref e) (Jb.suite there2 dt2 fresh offL offF) nodup ix (.inl lo) rfl (fun t5 in5 => ?_) (.inr lo)
            have ran := (su e ob2 cls d (X.pn ++ pins) zc2 ⟨_, dt2⟩).run [] t5 _ G1 _ in5 (yes rfl e fresh)
            refine wpAny_mono ran (fun fl t6 after => ?_) fun _ _ z => z.elim
            have unname : ∀ {τ : L2.St} {G : Hp} {Q : Shared → Prop}, Inv (X.suite e ((e, ob2) :: (X.pn ++ pins))) [] τ G t6 → (∀ t7, Inv X pins (τ.set i none) G t7 → Q t7) → wpAny (model X.prog X.w) X.A (do bindName X.env n .none; unbindBehindTheSuite X.env n p2) (fun _ t7 => Q t7) X.xe t6 := fun in6 hq => gone_ok (in6.unsuite good) nodup ix lo hq
            match fl, after with
            | .next, ⟨τ, G, in6, q⟩ => exact unname in6 fun t7 J7 => ⟨_, _, J7, q⟩
            | .brk, ⟨τ, G, in6, q⟩ => exact unname in6 fun t7 J7 => ⟨_, _, J7, q⟩
            | .cont, ⟨τ, G, in6, q⟩ => exact unname in6 fun t7 J7 => ⟨_, _, J7, q⟩
            | .ret u, ⟨v, τ, G, in6, rv, q⟩ => exact unname in6 fun t7 J7 => ⟨_, _, _, J7, rv, q⟩
      exact each cl wish
  refine wpAny_mono ((body (wAsN X.K Wo D l) (X.pn ++ pins) catch_ caught PassesOwn.looking).run [] s σ H D (I0.toTry _) hyp) (fun fl t after => ?_) fun _ _ z => z
  match fl, after with
  | .next, after =>
    obtain ⟨τ, G, Jt, q⟩ := after
    exact wpAny_execs_nil ⟨τ, G, Jt.ofTry good, q⟩
  | .brk, after =>
    obtain ⟨τ, G, Jt, q⟩ := after
    exact ⟨τ, G, Jt.ofTry good, q⟩
  | .cont, after =>
    obtain ⟨τ, G, Jt, q⟩ := after
    exact ⟨τ, G, Jt.ofTry good, q⟩
  | .ret u, after =>
    obtain ⟨v, τ, G, Jt, rv, q⟩ := after
    exact ⟨v, τ, G, Jt.ofTry good, rv, q⟩
end
end Nw
/-! What a class of errors is, asked by a Bool; `x not in t` of data and a tuple; an own class made with keywords, where the making may raise. -/
namespace Nw
open PySem L2 PySem.Spec PyProof.Rows RZ
/-- is it a class of errors whose instances are made as those of ValueError? -/
def oexSl (sl : Array (Option Value)) : Bool := match sl with
  | ⟨[_, _, _, _, some (.builtin n), _]⟩ => n == "ValueError.__new__"
  | _ => false
def oexMro (C : Addr) (m : List Value) : Bool := match m with
  | .ref c :: bm => decide (c = C) && PySem.HandSPX.refsVE bm
  | _ => false
def oexCls (C : Addr) (v : Value) (d : Data) (sl : Array (Option Value)) : Bool := match v, d with
  | .type t, .cls z => (t == "type") && z.hasDict && !z.hasDel && oexMro C z.mro && oexSl sl
  | _, _ => false
def oexB (K : PySem.W.Frag) (C : Addr) : Bool := match K.lookup C with
  | some o => oexCls C o.cls o.data o.slots
  | none => false
theorem oexB_ok {K : PySem.W.Frag} {C : Addr} (h : oexB K C = true) : ∃ nm q N bs bm sn sub ab col dd k0 k1 k2 k3 k5, K.lookup C = some (excClassObj nm q C N bs bm true sn sub ab col dd k0 k1 k2 k3 k5 "ValueError.__new__") ∧ PySem.HandSPX.refsVE bm = true := by
  unfold oexB at h
  cases e : K.lookup C with
  | none => rw [e] at h; cases h
  | some o =>
    rw [e] at h
    obtain ⟨cl, dd, dt, sl⟩ := o
    have h : oexCls C cl dt sl = true := h
    cases cl with
    | type t =>
      cases dt with
      | cls z =>
        obtain ⟨nm, bs, mro, N, q, hd, sn, sub, ab, col, dl⟩ := z
        have h : ((t == "type") && hd && !dl && oexMro C mro && oexSl sl) = true := h
        simp only [Bool.and_eq_true] at h
        obtain ⟨⟨⟨⟨h1, h2⟩, h3⟩, h4⟩, h5⟩ := h
        obtain rfl : t = "type" := beq_iff_eq.mp h1
        obtain rfl : hd = true := h2
        obtain rfl : dl = false := by
          cases dl with
          | false => rfl
          | true => cases h3
        match mro, h4 with
        | .ref c :: bm, h4 =>
          have h4 : (decide (c = C) && PySem.HandSPX.refsVE bm) = true := h4
          simp only [Bool.and_eq_true] at h4
          obtain rfl : c = C := of_decide_eq_true h4.1
          match sl, h5 with
          | ⟨[k0, k1, k2, k3, some (.builtin n), k5]⟩, h5 =>
            have h5 : (n == "ValueError.__new__") = true := h5
            obtain rfl : n = "ValueError.__new__" := beq_iff_eq.mp h5
            exact ⟨nm, q, N, bs, bm, sn, sub, ab, col, dd, k0, k1, k2, k3, k5, rfl, h4.2⟩
      | _ => cases h
    | _ => cases h
section
variable {X : Cx} {CX : CXT} {k n : Nat} {f C : Addr} {fd : FuncData} {ps ks : List Str} {sp : Sp} {E : L2.St → XK} {x : Str} {p pos : Pos} {e : Expr} {es : List Expr} {kws : List Keyword} {t tk : TA} {g : List Value → List Value → List Value} {gV : List V → List V → List V}
/-- C(.., k = ..) where the making may raise: what it may let out is told by the slots -/
def tMakeKS (C : Addr) (n m : Nat) (sp : Sp) (gV : List V → List V → List V) (E : L2.St → XK) (t tk : TA) : TE := fun σ H Q => t σ H fun vs H1 => tk σ H1 fun zs H2 => vs.length = n ∧ zs.length = m ∧ ∀ z dz, H2 z = none → H2 dz = none → dz ≠ z →
  sp (gV (.ref z :: vs) zs) (upd (upd H2 dz (.own z)) z (.ins C dz [])) (fun v H3 => v = .non ∧ Q (.ref z) H3) (E σ)
theorem make_runK {pins : List (Addr × Obj)} {σ : L2.St} {H : Hp} {s : Shared} {Q : VK} {us ws : List Value} {vs zs : List V} (M : Mk X.K C f) (F : FnOk X.prog X.w X.K X.mg X.base CX k f fd ps sp) (hr : Room (k + 1) X.A) (hb : KBn X.K fd ps (n + 1) ks g gV)
    (hx : PassesAt CX X σ (E σ)) (I : Inv X pins σ H s) (r : Vals vs us) (rz : Vals zs ws) (l1 : vs.length = n) (l2 : zs.length = ks.length)
    (hq0 : ∀ z dz, H z = none → H dz = none → dz ≠ z → sp (gV (.ref z :: vs) zs) (upd (upd H dz (.own z)) z (.ins C dz [])) (fun v H2 => v = .non ∧ Q (.ref z) H2) (E σ)) :
    wpAny (model X.prog X.w) X.A (call (.ref C) us (ks.zip ws)) (EP X pins σ Q) X.xe s := by
  let m := s.heap.objs.size
  have hq := hq0 (m + 1) m (I.hok.fresh (Nat.le_succ _)) (I.hok.fresh (Nat.le_refl _)) (Nat.ne_of_lt (Nat.lt_succ_self _))
  have J := Inv.made (C := C) I
  have rr : Vals (V.ref (m + 1) :: vs) (Value.ref (m + 1) :: us) := .cons rfl r
  have big : (Value.ref (m + 1) :: us).length = n + 1 := by rw [← rr.length, List.length_cons, l1]
  have go := F.run _ X.stack _ _ ⟨Value.ref (m + 1) :: us, ks.zip ws⟩ (g (Value.ref (m + 1) :: us) ws) _ _ (E σ) (hr.make C us (ks.zip ws)) (J.env0.make C us (ks.zip ws)) (hb.to _ _ ws J.kIn big (rz.length.symm.trans l2)) (hb.rel rr rz) hq
  refine wpAny_call (make_map (f := f) I.kIn M.makes M.init (beq_iff_eq.mp M.fn) (codeAny_mono go ?_))
  intro r s' hq'
  match r, hq' with
  | .error er, hq' => exact hx pins _ _ er s' J hq'
  | .ok (.ret u), hq' =>
    obtain ⟨v, H', J2, rv, ev, q⟩ := J.after hq'
    subst ev
    exact ⟨rv, V.ref (m + 1), H', J2, rfl, q⟩
  | .ok .next, hq' => exact hq'.elim
  | .ok .brk, hq' => exact hq'.elim
  | .ok .cont, hq' => exact hq'.elim
theorem pe_makeKS (M : Mk X.K C f) (F : FnOk X.prog X.w X.K X.mg X.base CX k f fd ps sp) (hr : Room (k + 1) X.A) (hg : Gl X x) (hm : X.mg x = some (.ref C)) (hb : KBn X.K fd ps (n + 1) ks g gV) (hx : ∀ σ, PassesAt CX X σ (E σ)) (ha : PA X (e :: es) t) (hkw : PK X kws tk)
    (each : (backToKw pos (keywordEach kws X.env)).all (·.1.isSome) = true := by rfl) (names : (backToKw pos (keywordEach kws X.env)).filterMap (·.1) = ks := by rfl) (nodbg : (x == ("__debug__" : Str)) = false := by decide)
    (plain : starEach (e :: es) X.env = (false, eval e X.env) :: starEach es X.env := by rfl) (none_ : ((backTo pos (starEach (e :: es) X.env)).any (·.1) || (backToKw pos (keywordEach kws X.env)).any (·.1.isNone)) = false := by rfl) : PE X (.Call (.Name x p) (e :: es) kws pos) (tMakeKS C n ks.length sp gV E t tk) := by
  constructor
  intro pins s σ H Q I given
  apply wpAny_Call_Name_kw (ld_glob I hg hm ?_ nodbg)
  apply PySem.W.callWith_KW (h₀ := X.base) I.ok.mod.kin M.kp each (thn (ha.run pos pins s σ H _ I given) ?_) none_ plain
  rintro us s1 ⟨vs, H1, I1, r, q⟩
  refine thn (hkw.run pos pins s1 σ H1 _ I1 q) ?_
  rintro ws s2 ⟨zs, H2, I2, rz, l1, l2, q2⟩
  refine ⟨I2.kIn, ?_⟩
  rw [names]
  exact make_runK M F hr hb (hx σ) I2 r rz l1 l2 q2
end
section
variable {X : Cx}
def rNotInT (K : PySem.W.Frag) : R2 := fun x y H Q => ∃ d ds, Dp K H x d ∧ Dp K H y (.tuple ds) ∧ SeqAt.shaped d = true ∧ SeqAt.shaped (.tuple ds) = true ∧ Q (.bl (!ds.any fun z => PyData.eqv z d)) H
theorem op_notInT (hu : X.A.units + 65 < cLine) : OpR X (compareOp .NotIn) (rNotInT X.K) := by
  intro pins s σ H x y v u Q I rx ry given
  obtain ⟨d, ds, one, all, sd, se, q⟩ := given
  obtain ⟨_, r1⟩ := Dp.reads I d x v one rx
  obtain ⟨_, r2⟩ := Dp.reads I (.tuple ds) y u all ry
  have lay : PyData.canLayAll0 ds = true := SeqAt.canLay_of_shaped se
  exact SeqAt.notIn_tuple_reads r2 r1 lay (SeqAt.canLay_of_shaped sd) (room_in_shaped sd hu) ⟨.bl _, H, I, rfl, q⟩
/-- two tuples of the same objects: not different -/
def refsV : List V → Bool
  | [] => true
  | .ref _ :: l => refsV l
  | _ => false
theorem vals_refs : ∀ {xs : List V} {us ws : List Value}, refsV xs = true → Vals xs us → Vals xs ws → us = ws
  | [], _, _, _, .nil, .nil => rfl
  | .ref a :: l, _, _, h, .cons r1 t1, .cons r2 t2 => by
    cases (show _ = Value.ref a from r1)
    cases (show _ = Value.ref a from r2)
    rw [vals_refs (by exact h) t1 t2]
def rNeTs (K : PySem.W.Frag) : R2 := fun x y H Q => ∃ a b xs, x = .ref a ∧ y = .ref b ∧ SqT K H a xs ∧ SqT K H b xs ∧ refsV xs = true ∧ Q (.bl false) H
theorem op_neTs (hu : X.A.units < cLine) : OpR X (compareOp .NotEq) (rNeTs X.K) := by
  intro pins s σ H x y v u Q I rx ry h
  obtain ⟨a, b, xs, rfl, rfl, ha, hb, hx, q⟩ := h
  cases (show v = Value.ref a from rx)
  cases (show u = Value.ref b from ry)
  obtain ⟨us, r1, p1, _⟩ := I.tuple ha
  obtain ⟨ws, r2, p2, _⟩ := I.tuple hb
  obtain rfl := vals_refs hx r1 r2
  have go := SeqAt.RcNeAt.tuples (A := X.A) (e := fun _ => true) p1 p2 hu (fun j h1 h2 => SeqAt.EqAt.same _)
  refine go X.prog X.w _ _ ?_
  rw [show (!((List.range (min us.toArray.size us.toArray.size)).all (fun _ => true) && us.toArray.size == us.toArray.size)) = false from by
    rw [show ((List.range (min us.toArray.size us.toArray.size)).all fun _ => true) = true from List.all_eq_true.mpr fun _ _ => rfl]
    simp]
  exact ⟨.bl false, H, I, rfl, q⟩
end
end Nw
/-! a row's end over one kernel run of the top: any Bools of what the names reach, the defs, the tables with text keys. -/
namespace Nw
open PySem PySem.Spec PyProof.Rows L2 He
abbrev TestK : Type := PySem.W.Frag → Bool
/-- what is looked at: every test, every def, every table -/
def lookN (ft : List TestK) (fd : List He5.DefA) (tb : List Tab) (K : PySem.W.Frag) : AlT :=
  ((ft.all (· K) && fd.all (·.ok K), fd.map fun d => He5.fnA K (d.at_ K)), tb.map fun t => dicW K (t.1 K))
def wantN (fd : List He5.DefA) (tb : List Tab) (w : World) : AlT := ((true, fd.map He5.DefA.val), tb.map fun t => some (keysIn w.params t.2))
def partN (n : Nat) (g : Addr → Option Obj) : PySem.W.Frag := frG g (List.range n)
structure ToldN (ft : List TestK) (fd : List He5.DefA) (tb : List Tab) (w : World) (K : PySem.W.Frag) : Prop where
  eq : lookN ft fd tb K = wantN fd tb w
def hookN (n : Nat) (ft : List TestK) (fd : List He5.DefA) (tb : List Tab) : PySem.W.Hook where
  α := AlT
  obs := fun s => lookN ft fd tb (partN n s.heap.get?)
  val := wantN fd tb
  says := fun w h => ∃ K : PySem.W.Frag, K.In h ∧ ToldN ft fd tb w K
  of := fun _ _ e => ⟨_, frG_in, ⟨e⟩⟩
  keeps := fun _ _ _ ⟨K, i, t⟩ k => ⟨K, PySem.W.Frag.In.keeps i k, t⟩
theorem seenN_eq {n : Nat} {ft : List TestK} {fd : List He5.DefA} {tb : List Tab} (s : PySem.W.SharedT) : lookN ft fd tb (partN n (HandSHeadRun.getT s)) = (hookN n ft fd tb).obs s.abs := by
  have e : HandSHeadRun.getT s = s.abs.heap.get? := funext (HandSHeadRun.getT_eq s)
  rw [e]
  rfl
section
variable {ft : List TestK} {fd : List He5.DefA} {tb : List Tab} {w : World} {K : PySem.W.Frag}
theorem ToldN.test (c : ToldN ft fd tb w K) (i : Nat) (f : TestK) (h : ft[i]? = some f) : f K = true := by
  have e := congrArg (fun z : AlT => z.1.1) c.eq
  exact List.all_eq_true.mp (ba e).1 f (List.mem_of_getElem? h)
theorem ToldN.fn (c : ToldN ft fd tb w K) (i : Nat) (d : He5.DefA) (h : fd[i]? = some d) : ∃ r, FunD K d.name d.qual d.params d.body d.scope (d.dvs K) (d.kws K) (d.at_ K) r := by
  have e1 := congrArg (fun z : AlT => z.1.1) c.eq
  have e2 : fd.map (fun d => He5.fnA K (d.at_ K)) = fd.map He5.DefA.val := congrArg (fun z : AlT => z.1.2) c.eq
  have e3 := congrArg (fun l => l[i]?) e2
  simp only [List.getElem?_map, h, Option.map_some] at e3
  exact He5.DefA.funD (Option.some.inj e3) (List.all_eq_true.mp (ba e1).2 d (List.mem_of_getElem? h))
theorem ToldN.dict (c : ToldN ft fd tb w K) (i : Nat) (t : Tab) (h : tb[i]? = some t) : ∃ es n, KDict K w (t.1 K) es n := by
  have e2 : tb.map (fun t => dicW K (t.1 K)) = tb.map fun t => some (keysIn w.params t.2) := congrArg (fun z : AlT => z.2) c.eq
  have e3 := congrArg (fun l => l[i]?) e2
  simp only [List.getElem?_map, h, Option.map_some] at e3
  exact dicW_ok (Option.some.inj e3)
end
/-- the key x of the table at a stands for v -/
def rvB (K : PySem.W.Frag) (a : Addr) (x : Str) (v : V) : Bool := match PySem.W.nsIn K a x with
  | some (some u) => relB v u
  | _ => false
theorem rvB_ok {K : PySem.W.Frag} {a : Addr} {x : Str} {v : V} (h : rvB K a x v = true) : ∃ u, PySem.W.nsIn K a x = some (some u) ∧ RelV v u := by
  unfold rvB at h
  split at h
  · exact ⟨_, by assumption, relB_ok h⟩
  · cases h
theorem fun_ofD {K : PySem.W.Frag} {x q : Str} {st : Stmt} {dvs : List V} {kws : List (Str × V)} {f : Addr} {r : FuncData} (D : FunD K x q (C8.fnArgs st) (C8.fnBody st) (C8.fnScope st) dvs kws f r) : C8.Fun K x q st f r := by
  obtain ⟨oc, od, dV, kV, doc, pm, an, cdv, ct, osl, e, l, c, _, _⟩ := D.ex
  exact ⟨oc, od, dV, kV, doc, pm, an, cdv, ct, osl, e, l, c⟩
end Nw
/-! two kernel runs of the top, each with a part of what is looked at, are one run with all of it -/
namespace Nw
open PySem PySem.Spec PyProof.Rows L2 He
theorem look_app {f1 f2 : List TestK} {d1 d2 : List He5.DefA} {t1 t2 : List Tab} {w : World} {K : PySem.W.Frag} (h1 : lookN f1 d1 t1 K = wantN d1 t1 w) (h2 : lookN f2 d2 t2 K = wantN d2 t2 w) : lookN (f1 ++ f2) (d1 ++ d2) (t1 ++ t2) K = wantN (d1 ++ d2) (t1 ++ t2) w := by
  have a1 : (f1.all (· K) && d1.all (·.ok K)) = true := congrArg (fun z : AlT => z.1.1) h1
  have a2 : (f2.all (· K) && d2.all (·.ok K)) = true := congrArg (fun z : AlT => z.1.1) h2
  have b1 : d1.map (fun d => He5.fnA K (d.at_ K)) = d1.map He5.DefA.val := congrArg (fun z : AlT => z.1.2) h1
  have b2 : d2.map (fun d => He5.fnA K (d.at_ K)) = d2.map He5.DefA.val := congrArg (fun z : AlT => z.1.2) h2
  have c1 : t1.map (fun t => dicW K (t.1 K)) = t1.map fun t => some (keysIn w.params t.2) := congrArg (fun z : AlT => z.2) h1
  have c2 : t2.map (fun t => dicW K (t.1 K)) = t2.map fun t => some (keysIn w.params t.2) := congrArg (fun z : AlT => z.2) h2
  rw [Bool.and_eq_true] at a1 a2
  show ((((f1 ++ f2).all (· K) && (d1 ++ d2).all (·.ok K)), (d1 ++ d2).map fun d => He5.fnA K (d.at_ K)), (t1 ++ t2).map fun t => dicW K (t.1 K)) = ((true, (d1 ++ d2).map He5.DefA.val), (t1 ++ t2).map fun t => some (keysIn w.params t.2))
  rw [List.all_append, List.all_append, a1.1, a1.2, a2.1, a2.2, List.map_append, List.map_append, List.map_append, List.map_append, b1, b2, c1, c2]
  rfl
theorem runEq_app {r : PySem.W.OpenRow} {q : Program} {n M : Nat} {f1 f2 : List TestK} {d1 d2 : List He5.DefA} {t1 t2 : List Tab} {N : List PySem.Str} {w : World}
    (h1 : HandSHeadRun.RunEq r q (hookN n f1 d1 t1) (fun s => lookN f1 d1 t1 (partN n (HandSHeadRun.getT s))) M N w) (h2 : HandSHeadRun.RunEq r q (hookN n f2 d2 t2) (fun s => lookN f2 d2 t2 (partN n (HandSHeadRun.getT s))) M N w) :
    HandSHeadRun.RunEq r q (hookN n (f1 ++ f2) (d1 ++ d2) (t1 ++ t2)) (fun s => lookN (f1 ++ f2) (d1 ++ d2) (t1 ++ t2) (partN n (HandSHeadRun.getT s))) M N w := by
  intro os
  have a := h1 os
  have b := h2 os
  obtain ⟨s, es, e⟩ := Option.map_eq_some_iff.mp a
  obtain ⟨s2, es2, e2⟩ := Option.map_eq_some_iff.mp b
  rw [es] at es2
  obtain rfl := Option.some.inj es2
  rw [es]
  have x1 := congrArg (fun z => z.1) e
  have x2 := congrArg (fun z => z.2.1) e
  have x3 := congrArg (fun z => z.2.2) e
  have y3 := congrArg (fun z => z.2.2) e2
  exact congrArg some (Prod.ext x1 (Prod.ext x2 (look_app x3 y3)))
end Nw
/-! Written data: a display of displays, whatever stands in it. -/
namespace Nw
open PySem L2 PySem.Spec PyProof.Rows RZ
/-- te makes the data d, and changes nothing else -/
def Mkd (te : TE) (σ : L2.St) (G0 : Hp) (d : PyData) : Prop := ∀ (H G : Hp) (Q : VK), Same G0 G → Same G H → (∀ (v : V) (H' G' : Hp), Xt none H G H' G' → D G' v d → Q v H') → te σ H Q
def MkA (ta : TA) (σ : L2.St) (G0 : Hp) (ds : List PyData) : Prop := ∀ (H G : Hp) (Q : List V → Hp → Prop), Same G0 G → Same G H → (∀ (vs : List V) (H' G' : Hp), Xt none H G H' G' → DA G' vs ds → Q vs H') → ta σ H Q
section
variable {σ : L2.St} {G0 : Hp} {te t1 t2 : TE} {ta : TA} {d : PyData} {ds es : List PyData} {K : PySem.W.Frag}
theorem mk_c {v : V} (h : ∀ G, D G v d) : Mkd (tC v) σ G0 d := fun H G Q s sG k => k v H G (Xt.refl sG) (h G)
theorem mk_v {i : Nat} {v : V} (hd : D G0 v d) (hi : σ[i]? = some (some v)) : Mkd (tVar i) σ G0 d := fun H G Q s sG k => ⟨v, hi, k v H G (Xt.refl sG) (hd.mono s)⟩
theorem mk_nil : MkA tNil σ G0 [] := fun H G Q s sG k => k [] H G (Xt.refl sG) .nil
theorem mk_cons (h : Mkd te σ G0 d) (t : MkA ta σ G0 ds) : MkA (tCons te ta) σ G0 (d :: ds) := fun H G Q s sG k =>
  h H G _ s sG fun v H1 G1 X1 dv => t H1 G1 _ (fun u o e => X1.gg u o (s u o e)) X1.sub fun vs H2 G2 X2 dvs => k (v :: vs) H2 G2 (X1.trans X2) (.cons (dv.mono X2.gg) dvs)
theorem mk_tup (h : MkA ta σ G0 ds) (l : ds.length ≤ 100000 := by exact Nat.le_of_ble_eq_true rfl) : Mkd (tTup ta) σ G0 (.tuple ds) := fun H G Q s sG k =>
  h H G _ s sG fun vs H1 G1 X1 dvs => ⟨small_line (by rw [dvs.length]; exact l), fun p hp => k _ _ _ (X1.trans (Xt.new X1.sub hp)) (.tup upd_same (dvs.mono (upd_same_ (X1.sub.free hp))))⟩
theorem mk_lst (h : MkA ta σ G0 ds) (l : ds.length ≤ 100000 := by exact Nat.le_of_ble_eq_true rfl) : Mkd (tLst ta) σ G0 (.list ds) := fun H G Q s sG k =>
  h H G _ s sG fun vs H1 G1 X1 dvs => ⟨small_line (by rw [dvs.length]; exact l), fun p hp => k _ _ _ (X1.trans (Xt.new X1.sub hp)) (.lst upd_same (dvs.mono (upd_same_ (X1.sub.free hp))))⟩
theorem mk_cat (h : Mkd t1 σ G0 (.tuple ds)) (h' : Mkd t2 σ G0 (.tuple es)) (l : ds.length + es.length ≤ 100000) : Mkd (tOp (rCatA K) t1 t2) σ G0 (.tuple (ds ++ es)) := fun H G Q s sG k =>
  h H G _ s sG fun v H1 G1 X1 dv => h' H1 G1 _ (fun u o e => X1.gg u o (s u o e)) X1.sub fun w H2 G2 X2 dw => cat_data (dv.mono X2.gg) dw X2.sub l fun q H3 G3 X3 dq => k q H3 G3 ((X1.trans X2).trans X3) dq
theorem mk_catL (h : Mkd t1 σ G0 (.list ds)) (h' : Mkd t2 σ G0 (.list es)) (l : ds.length + es.length ≤ 100000) : Mkd (tOp rCat t1 t2) σ G0 (.list (ds ++ es)) := fun H G Q s sG k =>
  h H G _ s sG fun v H1 G1 X1 dv => h' H1 G1 _ (fun u o e => X1.gg u o (s u o e)) X1.sub fun w H2 G2 X2 dw => catL_data (dv.mono X2.gg) dw X2.sub l fun q H3 G3 X3 dq => k q H3 G3 ((X1.trans X2).trans X3) dq
theorem mk_sl {i : Int} (h : Mkd te σ G0 (.tuple ds)) : Mkd (tSl (rSlA K) te (tPart (tC (.int i))) tNoPart) σ G0 (.tuple (cutD ds (some i) none)) := fun H G Q s sG k =>
  h H G _ s sG fun v H1 G1 X1 dv => ⟨i, rfl, slT_data dv X1.sub fun q H2 G2 X2 dq => k q H2 G2 (X1.trans X2) dq⟩
theorem mk_lof (h : Mkd te σ G0 (.tuple ds)) (l : ds.length ≤ 100000) : Mkd (tCB (fun xs H Q => ∃ p ys, xs = [V.ref p] ∧ (SqL K H p ys ∨ SqT K H p ys) ∧ ∀ l, H l = none → Q (V.ref l) (upd H l (.lst ys))) (tCons te tNil)) σ G0 (.list ds) := fun H G Q s sG k =>
  h H G _ s sG fun v H1 G1 X1 dv => by
    obtain ⟨p, ys, rfl, hp, da⟩ := dv.tup_inv
    exact ⟨p, ys, rfl, .inr (SqT.of (X1.sub _ _ hp)), fun q hq => k _ _ _ (X1.trans (Xt.new X1.sub hq)) (.lst upd_same (da.mono (upd_same_ (X1.sub.free hq))))⟩
end
end Nw
/-! repr() of lists and tuples of data; a law's def that is called while no repr is under way. -/
namespace Nw
open PySem L2 PySem.Spec PyProof.Rows RZ
def isDisp : PyData → Bool
  | .list _ => true
  | .tuple _ => true
  | _ => false
def rReprD (K : PySem.W.Frag) : List V → Hp → VK → Prop := fun xs H Q => ∃ (v : V) (d : PyData), xs = [v] ∧ Dp K H v d ∧ isDisp d = true ∧ d.canLay0 = true ∧ d.depth ≤ 60 ∧ d.showable = true ∧ d.shown.length ≤ sizeLine ∧ Q (.str d.shown) H
section
variable {X : Cx}
theorem call_reprD (calm : X.A.guards = some [] ∧ X.A.units + 64 < cLine) : CallR X (.builtin "repr") (rReprD X.K) := by
  obtain ⟨hg, hu⟩ := calm
  intro pins s σ H xs us Q I r h
  rcases h with ⟨v, d, rfl, dp, disp, lay, dep, sh, len, q⟩
  obtain ⟨u, rfl, ru⟩ := vals1 r
  obtain ⟨as, rd⟩ := Dp.reads I d v u dp ru
  obtain ⟨a, rfl⟩ : ∃ a, u = .ref a := by
    cases rd with
    | list _ _ _ _ => exact ⟨_, rfl⟩
    | tuple _ _ _ _ => exact ⟨_, rfl⟩
    | none => cases disp
    | bool _ => cases disp
    | int _ _ => cases disp
    | str _ _ => cases disp
    | dict _ _ _ _ _ => cases disp
  refine repr_of_reads' rd sh (PyData.noDict_hsm (PyData.hasDict_of_canLay d lay)) hg (by omega) (fun _ _ e => e) (fun h' t tk keep => ?_) len
  exact ⟨.str d.shown, H, I.kept (t' := tk) keep, ⟨t, rfl⟩, q⟩
end
/-! ### a def called while no repr is under way -/
structure FnG (P : Program) (w : World) (K : PySem.W.Frag) (mg : Str → Option Value) (base : Heap) (CX : CXT) (k : Nat) (f : Addr) (fd : FuncData) (ps : List Str) (sp : Sp) : Prop where
  len : ∀ vs H Q E, sp vs H Q E → vs.length = ps.length
  go : ∀ (A : Around), A.guards = some [] → ∀ (outer : List Env) (s : Shared) (H : Hp) (args : Args) (us : List Value) (vs : List V) (Q : VK) (E : XK), Room k A → Env0 P w K mg base A outer s H → BindsTo s fd args (ps.zip us) → Vals vs us → sp vs H Q E →
    codeAny (model P w) A (.call (.ref f) args) (CR CX outer P w H s Q E) s
section
variable {P : Program} {w : World} {K : PySem.W.Frag} {mg : Str → Option Value} {base : Heap}
theorem fnG {x qual : Str} {st : Stmt} {f : Addr} {fd : FuncData} {N ps : List Str} {k : Nat} {sp : Sp} (F : C8.Fun K x qual st f fd) (S : FnScope N ps (C8.fnScope st)) (len : ∀ vs H Q E, sp vs H Q E → vs.length = ps.length)
    (body : ∀ (cdv : Value) (A : Around) (outer : List Env) (s : Shared) (H : Hp) (vs : List V) (Q : VK) (E : XK), A.guards = some [] → Room k (A.deeper (envOfC qual (C8.fnScope st) s.heap.objs.size f cdv)) → sp vs H Q E →
      ∃ t, PSs (cxOf C8.CX0 P w K mg base N qual (C8.fnScope st) f cdv A outer s H E).nox (C8.fnBody st) t ∧ t { nx := fun _ H' => Q .non H', rt := Q } (start N vs) H) : FnG P w K mg base C8.CX0 (k + 1) f fd ps sp := by
  rcases F.ex with ⟨oc, od, dV, kV, doc, pm, an, cdv, ct, osl, rfl, look, code⟩
  refine ⟨len, fun A quiet outer s H args us vs Q E room env0 binds vals want => ?_⟩
  have many := len _ _ _ _ want
  have inK : K.In s.heap := env0.mod.kin.keeps fun b o e => (env0.bs b o e).1
  have nolim : s.heap.NoLimit := env0.mod.nolimit.keeps fun b o e => (env0.bs b o e).1
  have kinds : ∀ y ∈ ps.zip us, (C8.fnScope st).names.lookup y.1 = some .local ∨ ((C8.fnScope st).names.lookup y.1 = some .cell ∧ ((cellsFrom (s.heap.objs.size + 1) (C8.fnScope st).names []).lookup y.1).isSome = true) := by
    rintro ⟨n, v⟩ hy
    cases S.par n (List.of_mem_zip hy).1 with
    | inl q => exact .inl q
    | inr q => exact .inr ⟨q, PySem.W.cellsFrom_some _ _ _ (.inl q)⟩
  apply codeAny_call_function room.depth (inK _ _ look) rfl S.co S.gen rfl (PySem.W.codeRec_of inK code) (binds _ _ _ _ ?_)
  apply wpAny_newFunctionEnv_cells S.kind kinds
  intro env he s1 made
  subst he
  refine ⟨nolim.keeps made.toInCall.keep, codeAny_func ?_⟩
  obtain ⟨t, run, good⟩ := body cdv A outer s H vs Q E quiet (room.deeper _) want
  have I : Inv (cxOf C8.CX0 P w K mg base N qual (C8.fnScope st) f cdv A outer s H E) [] (start N vs) H s1 := inv_start S room.hd env0 many vals made
  refine wpAny_mono (run.nox.run [] s1 (start N vs) H _ I good) (fun fl s' hs => ?_) fun e s' hs => hs
  cases fl with
  | ret u =>
    obtain ⟨v, σ', H', J, rv, q⟩ := hs
    exact ⟨v, H', J.os, J.bare, J.base, J.hok, rv, q⟩
  | next =>
    obtain ⟨σ', H', J, q⟩ := hs
    exact ⟨V.non, H', J.os, J.bare, J.base, J.hok, (show RelV V.non Value.none from rfl), q⟩
  | brk =>
    obtain ⟨_, _, _, q⟩ := hs
    exact q.elim
  | cont =>
    obtain ⟨_, _, _, q⟩ := hs
    exact q.elim
end
/-! ### the law's call -/
/-- what is tracked at the law's start: the script alone, or nothing -/
theorem fromG {P : Program} {w : World} {K : PySem.W.Frag} {mg mb : Str → Option Value} {k : Nat} {fa a : Addr} {fd : FuncData} {x : Str} {sp : Sp} {t : Shared} {vs : List Value} {H : Hp}
    (inK : K.In t.heap) (glob : t.heap.Ns mainGlobals mg) (bui : t.heap.Ns builtinsNs mb) (std : ∀ x : Str, x ≠ "__name__" → mb x = bootBuiltins x) (nolim : t.heap.NoLimit) (nogen : t.gens = #[])
    (there : t.heap.get? a = some { cls := .type "list", data := .seq vs.toArray }) (room : Room k callerA) (F : ∀ base : Heap, K.In base → base.Ns mainGlobals mg → FnG P w K mg base C8.CX0 k fa fd [x] sp) (bind : ∀ (s : Shared) (u : Value), BindsTo s fd ⟨[u], []⟩ [(x, u)])
    (want : sp [.ref a] H (fun v _ => v = .bl true) fun _ _ _ => False) (only : Only H) (ok : HOk P w H t.heap) (just : ∀ b, H b ≠ none → b = a) (alien : H a ≠ none → K.lookup a = none) :
    codeAny (model P w) callerA (.call (.ref fa) ⟨[.ref a], []⟩) (fun r s' => r = .ok (.ret (.bool true)) ∧ OldK t.heap s'.heap ∧ s'.os = t.os ∧ AllBare s'.gens) t := by
  have seen : ∀ {b : Addr} {o : Obj}, t.heap.get? b = some o → H b = none → (hidT t.heap H).get? b = some o := hidT_get
  have dicts : ∀ {b : Addr} {o : Obj} {es : Array DictEntry} {ep : Nat}, t.heap.get? b = some o → o.data = .dict es ep → H b = none := by
    intro b o es ep e d
    cases hb : H b with
    | none => rfl
    | some u =>
      obtain rfl := just b (by rw [hb]; intro z; cases z)
      rw [there] at e
      cases Option.some.inj e
      cases d
  have names : ∀ {b : Addr} {m : Str → Option Value}, t.heap.Ns b m → (hidT t.heap H).Ns b m := by
    rintro b m ⟨o, es, ep, e, d, r⟩
    exact ⟨o, es, ep, seen e (dicts e d), d, r⟩
  have base_ : K.In (hidT t.heap H) := by
    intro b o e
    refine seen (inK b o e) ?_
    cases hb : H b with
    | none => rfl
    | some u =>
      obtain rfl := just b (by rw [hb]; intro z; cases z)
      rw [alien (by rw [hb]; intro z; cases z)] at e
      cases e
  have modl : Mod K mg (hidT t.heap H) := by
    obtain ⟨mc, c1, c2⟩ := nolim
    exact ⟨base_, names glob, ⟨mb, names bui, std⟩, mc, names c1, c2⟩
  have env0 : Env0 P w K mg (hidT t.heap H) callerA [] t H :=
    { frames := rfl, mod := modl, bs := fun b o e => of_hidT e, bsz := Nat.le_of_eq (hidT_size _ _), funs := trivial, frf := fun b hb => (by cases hb), hok := ok, bare := .of_eq nogen }
  refine codeAny_mono ((F _ base_ (names glob)).go callerA rfl [] t H ⟨[.ref a], []⟩ [.ref a] [.ref a] _ _ room env0 (bind t (.ref a)) (.cons rfl .nil) want) ?_
  intro r s' h
  match r, h with
  | .error e, h => exact h.elim
  | .ok .next, h => exact h.elim
  | .ok .brk, h => exact h.elim
  | .ok .cont, h => exact h.elim
  | .ok (.ret u), h =>
    obtain ⟨v, H', os, bare, un, ok', ru, q⟩ := h
    cases (show v = .bl true from q)
    cases (show u = Value.bool true from ru)
    refine ⟨rfl, OldK.of_keep fun b o e => ?_, os, bare⟩
    cases hb : H b with
    | none => exact un.keep b o e hb (fun z => by cases z) (by simp)
    | some u =>
      rcases only b with z | ⟨ob, xs, z⟩
      · rw [hb] at z; cases z
      · have z' := un.frzs b ob _ z
        have e1 := (ok b _ z).1
        have e2 := (ok' b _ z').1
        rw [e] at e1
        cases Option.some.inj e1
        exact e2
theorem calledG {P : Program} {w : World} {K : PySem.W.Frag} {mg mb : Str → Option Value} {k : Nat} {fa a : Addr} {fd : FuncData} {x : Str} {sp : Sp} {t : Shared} {vs : List Value} {ns : List Int}
    (inK : K.In t.heap) (glob : t.heap.Ns mainGlobals mg) (bui : t.heap.Ns builtinsNs mb) (std : ∀ x : Str, x ≠ "__name__" → mb x = bootBuiltins x) (nolim : t.heap.NoLimit) (nogen : t.gens = #[])
    (there : t.heap.get? a = some { cls := .type "list", data := .seq vs.toArray }) (whole : IntsAre vs ns) (small : ns.length ≤ sizeLine) (room : Room k callerA) (F : ∀ base : Heap, K.In base → base.Ns mainGlobals mg → FnG P w K mg base C8.CX0 k fa fd [x] sp) (bind : ∀ (s : Shared) (u : Value), BindsTo s fd ⟨[u], []⟩ [(x, u)])
    (want : ∀ H : Hp, Only H → SqL K H a (ns.map V.int) → sp [.ref a] H (fun v _ => v = .bl true) fun _ _ _ => False) :
    codeAny (model P w) callerA (.call (.ref fa) ⟨[.ref a], []⟩) (fun r s' => r = .ok (.ret (.bool true)) ∧ OldK t.heap s'.heap ∧ s'.os = t.os ∧ AllBare s'.gens) t := by
  have vals := vals_ints whole
  have len := whole.length
  cases hk : K.lookup a with
  | some o =>
    have e := inK a o hk
    rw [there] at e
    cases Option.some.inj e
    have H0 : Only fun _ => none := fun _ => .inl rfl
    refine fromG (H := fun _ => none) inK glob bui std nolim nogen there room F bind (want _ H0 ?_) H0 (fun b u z => by cases (show (none : Option HO) = some u from z)) (fun b z => absurd rfl z) fun z => absurd rfl z
    exact .inr ⟨_, vs.toArray, _, hk, rfl, rfl, rfl, by rw [List.size_toArray, len]; exact small, by simpa using vals⟩
  | none =>
    let Hs : Hp := fun b => if b = a then some (.frz { cls := .type "list", data := .seq vs.toArray } (.lst (ns.map V.int))) else none
    have at_ : Hs a = some (.frz { cls := .type "list", data := .seq vs.toArray } (.lst (ns.map V.int))) := if_pos rfl
    have off : ∀ {b}, b ≠ a → Hs b = none := fun h => if_neg h
    have only : Only Hs := fun b => by
      by_cases e : b = a
      · exact .inr ⟨_, _, by rw [e]; exact at_⟩
      · exact .inl (off e)
    refine fromG (H := Hs) inK glob bui std nolim nogen there room F bind (want _ only (.inl (.inr ⟨_, at_⟩))) only (fun b u z => ?_) (fun b z => ?_) fun _ => hk
    · by_cases e : b = a
      · subst e
        rw [at_] at z
        cases Option.some.inj z
        exact ⟨there, by rw [List.length_map]; exact small, vs, _, vals, there⟩
      · rw [off e] at z; cases z
    · by_cases e : b = a
      · exact e
      · exact absurd (off e) z
theorem walkG {l : PySem.W.OpenLaw} {n k : Nat} {q : Program} {loose : List Str} {XP : (Str → Option Value) → Heap → Prop} {YP : World → Heap → Prop} {d : DefRec} {x : Str}
    (most : l.most = some n) (few : n ≤ sizeLine) (nodef : d.params.defaults = []) (room : Room k callerA)
    (F : ∀ (w : World) (mg : Str → Option Value) (fa : Addr) (h : Heap), YP w h → h.Ns mainGlobals mg → mg d.name = some (.ref fa) →
      ∃ (K : PySem.W.Frag) (fd : FuncData) (sp : Sp), K.In h ∧ (∀ (s : Shared) (u : Value), BindsTo s fd ⟨[u], []⟩ [(x, u)]) ∧
        (∀ (H : Hp) (a : Addr) (ns : List Int), ns.length ≤ n → Only H → SqL K H a (ns.map V.int) → sp [.ref a] H (fun v _ => v = .bl true) fun _ _ _ => False) ∧
        ∀ base : Heap, K.In base → base.Ns mainGlobals mg → FnG l.prog w K mg base C8.CX0 k fa fd [x] sp) :
    PySem.W.WalkO q loose XP YP l.row.toRowW d [] (fun f vs => PySem.call f vs) := by
  apply Att.attach_call most nodef
  intro w s₀ t mg mb fa o pm cd doc a vs ns G Y ho hd hcd hmg hobj hints hlen hg
  rcases F w mg fa _ Y G.T.g hmg with ⟨K, fd, sp, inK, bind, want, FF⟩
  exact calledG inK G.T.g G.T.b G.T.builtins G.T.nolimit hg hobj hints (Nat.le_trans hlen few) room FF bind fun H hO hS => want H a ns hlen hO hS
end Nw
/-! sorted() of tuples that begin with different numbers, ascending already; a dict that will stay. -/
namespace Nw
open PySem L2 PySem.Spec PyProof.Rows RZ
/-! ### a tuple by its first number -/
def HdI (h : Heap) (v : Value) (x : Int) : Prop := ∃ (a : Addr) (o : Obj) (t : Tok) (r : List Value) (n : Nat), v = .ref a ∧ h.get? a = some o ∧ o.cls = .type "tuple" ∧ o.data = .seq (Value.int x t :: r).toArray n
theorem HdI.stay {h h' : Heap} {v : Value} {x : Int} (p : HdI h v x) (k : ∀ b o, h.get? b = some o → o.cls = .type "tuple" → h'.get? b = some o) : HdI h' v x := by
  rcases p with ⟨a, o, t, r, n, rfl, go, co, data_⟩
  exact ⟨a, o, t, r, n, rfl, k a o go co, co, data_⟩
section
variable {prog : Program} {w : World} {A : Around} {E : Value → Shared → Prop} {s : Shared}
theorem lex_self {fin : Bool} {Q : Bool → Shared → Prop} (h : Q fin s) : ∀ (l : List Value) (i : Nat), PySem.W.KatLex prog w A true fin Q (l.zip l) i s
  | [], i => PySem.W.kat_nil h
  | v :: l, i => by
    show PySem.W.KatLex prog w A true fin Q ((v, v) :: l.zip l) i s
    refine PySem.W.kat_cons (SeqAt.EqAt.same v prog w _ _ ?_)
    exact PySem.W.kat_yes (lex_self h l (i + 1))
theorem head_cmp {vs : List Value} {k : Value → Int} (all : ∀ v ∈ vs, HdI s.heap v (k v)) (diff : ∀ v ∈ vs, ∀ u ∈ vs, k v = k u → v = u) : SrtO.Cmp prog w A s (tuples' true) (fun p => p.1 ∈ vs) (SrtO.lt2 fun v u => decide (k v < k u)) := by
  intro p q mp mq
  show wpAny (model prog w) A (keyLt' (tuples' true) p.1 q.1) (fun r s' => s' = s ∧ r = decide (k p.1 < k q.1)) (fun _ _ => False) s
  rcases all _ mp with ⟨a, o, t, r, n, ea, go, co, da⟩
  rcases all _ mq with ⟨b, o2, t2, r2, n2, eb, go2, co2, db⟩
  by_cases e : p.1 = q.1
  · have eab : a = b := by
      have z := ea.symm.trans (e.trans eb)
      cases z; rfl
    subst eab
    obtain rfl := Option.some.inj (go.symm.trans go2)
    have fin : decide (k p.1 < k q.1) = false := by rw [e]; exact decide_eq_false (Int.lt_irrefl _)
    rw [fin, ea, eb]
    refine PySem.W.kat_lt go da go da ?_
    exact lex_self ⟨rfl, decide_eq_false (Nat.lt_irrefl _)⟩ _ 0
  · have ne : k p.1 ≠ k q.1 := fun z => e (diff _ mp _ mq z)
    generalize k p.1 = x at da ne ⊢
    generalize k q.1 = y at db ne ⊢
    rw [ea, eb]
    refine PySem.W.kat_lt go da go2 db ?_
    show PySem.W.KatLex prog w A true _ _ ((Value.int x t, Value.int y t2) :: r.zip r2) 0 s
    refine PySem.W.kat_cons (SeqAt.EqAt.int_int x t y t2 prog w _ _ ?_)
    refine PySem.W.kat_go (fun z => absurd (by simpa using z) ne) (fun _ => ?_)
    exact PySem.W.kat_no (oneLt_int ⟨rfl, rfl⟩)
theorem heads_of {h : Heap} {k : Value → Int} : ∀ {vs : List Value}, (∀ v ∈ vs, HdI h v (k v)) → ∃ fs : List Value, PySem.W.KatTups h vs fs ∧ fs.length = vs.length ∧ ∀ f ∈ fs, ∃ x t, f = Value.int x t
  | [], _ => ⟨[], PySem.W.KatTups.nil, rfl, fun _ m => by cases m⟩
  | v :: vs, all => by
    obtain ⟨fs, h1, h2, h3⟩ := heads_of (vs := vs) fun u m => all u (List.mem_cons_of_mem _ m)
    rcases all v List.mem_cons_self with ⟨a, o, t, r, n, e, go, co, da⟩
    rw [e]
    refine ⟨.int (k v) t :: fs, PySem.W.KatTups.cons go co da rfl h1, by rw [List.length_cons, List.length_cons, h2], fun f m => ?_⟩
    rcases List.mem_cons.mp m with rfl | m
    · exact ⟨_, _, rfl⟩
    · exact h3 f m
theorem heads_sort {l : Addr} {vs : List Value} {k : Value → Int} {Q : Value → Shared → Prop} (hl : s.heap.IsList l vs.toArray) (hz : vs.length ≤ sizeLine) (all : ∀ v ∈ vs, HdI s.heap v (k v)) (diff : ∀ v ∈ vs, ∀ u ∈ vs, k v = k u → v = u)
    (h : ∀ (h' : Heap) (d : Addr) (out : List Value), SrtO.Srtd (fun v u => decide (k v < k u)) out → SrtO.Stb (fun v u => decide (k v < k u)) out vs → (∀ b o, s.heap.get? b = some o → h'.get? b = some o) → s.heap.objs.size ≤ d → (∃ n, h'.get? d = some (seqObj "list" out.toArray n)) → Q (.ref d) { s with heap := h' }) :
    wpAny (model prog w) A (call (.builtin "sorted") [.ref l]) Q E s := by
  have swo : SrtO.Swo fun v u : Value => decide (k v < k u) := by
    refine ⟨fun x y z => ?_, fun x y z a b => ?_⟩
    · have z := of_decide_eq_true z
      exact decide_eq_false (by omega)
    · have a := of_decide_eq_false a
      have b := of_decide_eq_false b
      exact decide_eq_false (by omega)
  refine SrtO.sorted_ord swo hl hz (fun two h1 a ga keep => ?_) (fun out o1 o2 => h _ _ out o1 o2 (fun b o e => sortedAll_old e) (Nat.le_succ _) (sortedAll_at s.heap vs out.toArray))
  intro h' keep'
  have all' : ∀ v ∈ vs, HdI h' v (k v) := fun v m => (all v m).stay fun b o e c => keep' b o (keep b o e).1 (keep b o e).2
  obtain ⟨fs, f1, f2, f3⟩ := heads_of all'
  refine ⟨tuples' true, fun Q E hq => ?_, head_cmp (s := { s with heap := h' }) all' diff⟩
  refine PySem.W.kat_kind (T := .type "int") f1 (by omega) (fun f m => ?_) (by rfl) ?_
  · obtain ⟨x, t, rfl⟩ := f3 f m
    exact PySem.W.Looks.now
  · rw [show (Value.type "int" != Value.type "tuple") = true by decide +kernel]
    exact hq
end
/-! ### sorted() as a call -/
/-- the tuples of xs begin with numbers that grow: sorted(xs) is a new list of the same -/
def rSortUp : List V → Hp → VK → Prop := fun vs G Q => ∃ (a : Addr) (xs : List V) (k : V → Int), vs = [V.ref a] ∧ G a = some (.lst xs) ∧ (∀ x ∈ xs, ∃ (t : Addr) (ys : List V), x = V.ref t ∧ G t = some (.tup (.int (k x) :: ys))) ∧ xs.Pairwise (fun x y => k x < k y) ∧
  ∀ p, G p = none → Q (.ref p) (upd G p (.lst xs))
theorem srtd_uniq {α : Type} (k : α → Int) : ∀ {xs ys : List α}, xs.Pairwise (fun x y => k x < k y) → ys.Pairwise (fun x y => decide (k y < k x) = false) → ys.Perm xs → ys = xs
  | [], ys, _, _, p => p.eq_nil
  | x :: xs, [], _, _, p => by have := p.length_eq; simp at this
  | x :: xs, y :: ys, h1, h2, p => by
    obtain ⟨a1, a2⟩ := List.pairwise_cons.mp h1
    obtain ⟨b1, b2⟩ := List.pairwise_cons.mp h2
    have e : y = x := by
      rcases List.mem_cons.mp (p.mem_iff.mp (List.mem_cons_self (a := y) (l := ys))) with z | z
      · exact z
      · rcases List.mem_cons.mp (p.mem_iff.mpr (List.mem_cons_self (a := x) (l := xs))) with z2 | z2
        · exact z2.symm
        · have u := of_decide_eq_false (b1 x z2)
          have v := a1 y z
          omega
    subst e
    rw [srtd_uniq k a2 b2 (List.Perm.cons_inv p)]
section
variable {X : Cx}
theorem cr_sortUp : CallR X (.builtin "sorted") rSortUp := by
  intro pins s σ G vs us Q I r h
  rcases h with ⟨a, xs, k, rfl, ga, hx, up, q⟩
  obtain ⟨its, rv, hl, hz⟩ := I.list (SqL.of (K := X.K) ga)
  obtain ⟨u, rfl, ru⟩ := vals1 r
  obtain rfl : u = Value.ref a := ru
  obtain ⟨e1, e2⟩ := refs_back rv fun x m => by
    obtain ⟨t, _, e, _⟩ := hx x m
    exact ⟨t, e⟩
  have inj : ∀ x ∈ xs, ∀ y ∈ xs, k x = k y → x = y := by
    intro x mx y my e
    obtain ⟨i, hi, rfl⟩ := List.mem_iff_getElem.mp mx
    obtain ⟨j, hj, rfl⟩ := List.mem_iff_getElem.mp my
    have pw := List.pairwise_iff_getElem.mp up
    rcases Nat.lt_trichotomy i j with c | c | c
    · have := pw i j hi hj c; omega
    · subst c; rfl
    · have := pw j i hj hi c; omega
  refine heads_sort (k := fun u => k (backV u)) hl.isList (by rw [← rv.length]; exact hz) (fun v hv => ?_) (fun v hv u hu e => ?_) fun h' d out h1 h2 kp hd hn => ?_
  · obtain ⟨t, rfl⟩ := e2 v hv
    have hm : V.ref t ∈ xs := by rw [e1]; exact List.mem_map.mpr ⟨_, hv, rfl⟩
    obtain ⟨t', ys, e, ht⟩ := hx _ hm
    cases e
    obtain ⟨_, its2, r2, o, ho, hc, n, hd⟩ := I.hok _ _ ht
    cases r2 with
    | @cons _ u1 _ us2 q1 q2 =>
      obtain ⟨t1, rfl⟩ := q1
      exact ⟨t, o, t1, us2, n, rfl, ho, hc, hd⟩
  · obtain ⟨t, rfl⟩ := e2 v hv
    obtain ⟨t', rfl⟩ := e2 u hu
    have m1 : V.ref t ∈ xs := by rw [e1]; exact List.mem_map.mpr ⟨_, hv, rfl⟩
    have m2 : V.ref t' ∈ xs := by rw [e1]; exact List.mem_map.mpr ⟨_, hu, rfl⟩
    have z := inj _ m1 _ m2 e
    cases z; rfl
  · have h3 : ∀ u ∈ out, ∃ a, u = Value.ref a := fun u hu => e2 u (h2.perm.mem_iff.mp hu)
    obtain ⟨n, hn⟩ := hn
    have pm : (out.map backV).Perm xs := by rw [e1]; exact h2.perm.map backV
    have same : out.map backV = xs := by
      refine srtd_uniq k up ?_ pm
      rw [List.pairwise_map]
      exact h1
    refine ⟨.ref d, upd G d (.lst xs), I.laid (t' := s.toks) kp hd ⟨?_, out, n, by rw [← same]; exact vals_back h3, hn⟩, rfl, q d (I.hok.fresh hd)⟩
    exact hz
end
/-! ### a dict that will stay, whichever it is -/
def tLock (t : TE) : TE := fun τ G Q => t τ G fun v G' => ∃ d u, G' d = some u ∧ Mut (some u) ∧ ∀ od, Q v (upd G' d (.frz od u))
theorem pe_lock {X : Cx} {e : Expr} {t : TE} (h : PE X e t) : PE X e (tLock t) := by
  constructor
  intro pins s τ G Q I q
  refine thn (h.run pins s τ G _ I q) ?_
  rintro v s1 ⟨x, G1, I1, rx, d, u, hd, mu, q1⟩
  obtain ⟨od, I2⟩ := I1.lock hd mu
  exact ⟨_, _, I2, rx, q1 od⟩
end Nw
/-! Tables: the data, what each def promises. -/
namespace Nw
open PySem L2 PySem.Spec PyProof.Rows RZ
theorem DA.bools {G : Hp} : ∀ {ns : List Bool} {vs : List V}, DA G vs (ns.map .bool) → vs = ns.map V.bl
  | [], _, .nil => rfl
  | n :: ns, _, .cons h a => by
    cases h
    rw [DA.bools a] <;> rfl
theorem inV_strs (z : Str) : ∀ l : List Str, inV (.str z) (l.map V.str) = decide (z ∈ l)
  | [] => rfl
  | a :: l => by
    show (eqV (.str a) (.str z) || inV (.str z) (l.map V.str)) = _
    rw [inV_strs z l]
    have e : eqV (.str a) (.str z) = decide (z = a) := by
      show decide (_ = _) = _
      by_cases h : z = a
      · subst h; simp
      · rw [decide_eq_false h]; simp; exact fun q => h q.symm
    rw [e]
    by_cases h : z = a
    · subst h; simp
    · simp [h]
/-- what is plain: a flat thing, a list, a tuple -/
def plain0 (H : Hp) : V → Prop
  | .non => True
  | .bl _ => True
  | .int _ => True
  | .str _ => True
  | .ref a => (∃ xs, H a = some (.lst xs)) ∨ (∃ xs, H a = some (.tup xs))
  | _ => False
theorem D.plain {G H : Hp} (s : Same G H) {v : V} {d : PyData} (h : D G v d) : plain0 H v := by
  cases h with
  | non => trivial
  | bl b => trivial
  | int i => trivial
  | str x => trivial
  | lst h a => exact .inl ⟨_, s _ _ h⟩
  | tup h a => exact .inr ⟨_, s _ _ h⟩
theorem plain0.mono {H H' : Hp} (s : Same H H') {v : V} (h : plain0 H v) : plain0 H' v := by
  cases v with
  | ref a =>
    rcases h with ⟨xs, h⟩ | ⟨xs, h⟩
    · exact .inl ⟨_, s _ _ h⟩
    · exact .inr ⟨_, s _ _ h⟩
  | _ => exact h
theorem plain0.v {K : PySem.W.Frag} {C : Addr} {H : Hp} {v : V} (h : plain0 H v) : plainV K C H v := by
  cases v with
  | ref a => exact h.elim (fun h => .inl h) fun h => .inr (.inl h)
  | _ => exact h
def LET : Str := "abcdefghijklmnopqrstuvwxyz"
def letter (c : Nat) : Bool := decide (c ∈ LET.cps.toList)
def isWordS (s : Str) : Bool := decide (1 ≤ s.length) && decide (s.length ≤ 8) && s.cps.toList.all letter
def isWord : V → Bool
  | .str s => isWordS s
  | _ => false
def isInt : V → Bool
  | .int _ => true
  | _ => false
def RES : List Str := ["and", "or", "not", "true", "false", "name", "where", "nothing", "change"]
def isCol : PyData → Bool
  | .tuple [.str n, .int t] => isWordS n && !decide (n ∈ RES) && decide (1 ≤ t) && decide (t ≤ 3)
  | _ => false
def spWord : Sp := fun vs H Q _ => ∃ (v : V) (G : Hp), vs = [v] ∧ plain0 H v ∧ Same G H ∧ (∀ z, v = .str z → z.length ≤ 10000) ∧ ∀ H', Xt none H G H' G → Q (.bl (isWord v)) H'
def spIsInt : Sp := fun vs H Q _ => ∃ v : V, vs = [v] ∧ plain0 H v ∧ Q (.bl (isInt v)) H
def tupLen : PyData → Int → Bool
  | .tuple ds, n => decide (((ds.length : Nat) : Int) = n)
  | _, _ => false
def spTupOf : Sp := fun vs H Q _ => ∃ (v : V) (n : Int) (d : PyData) (G : Hp), vs = [v, .int n] ∧ D G v d ∧ Same G H ∧ Q (.bl (tupLen d n)) H
def shortD : PyData → Prop
  | .tuple [.str n, _] => n.length ≤ 10000
  | _ => True
def spCol : Sp := fun vs H Q _ => ∃ (v : V) (d : PyData) (G : Hp), vs = [v] ∧ D G v d ∧ shortD d ∧ Same G H ∧ ∀ H', Xt none H G H' G → Q (.bl (isCol d)) H'

abbrev Col := Str × Int
def dCol (c : Col) : PyData := .tuple [.str c.1, .int c.2]
def dCols (cols : List Col) : List PyData := cols.map dCol
def n10 : List Str := ["a", "b", "x", "put", "mark", "total", "look", "zz", "end", "table"]
def n11 : List Str := "other" :: "strange" :: "c" :: n10
/-- columns with names of a list of words -/
structure Good (N : List Str) (cols : List Col) : Prop where
  len : 1 ≤ cols.length ∧ cols.length ≤ 3
  names : ∀ c ∈ cols, c.1 ∈ N
  tops : ∀ c ∈ cols, 1 ≤ c.2 ∧ c.2 ≤ 3
  nd : (cols.map (·.1)).Nodup
theorem n11_word : ∀ n ∈ n11, isWordS n = true ∧ n ∉ RES ∧ n.length ≤ 10000 := by decide +kernel
theorem n10_n11 : ∀ n ∈ n10, n ∈ n11 := fun n h => List.mem_cons_of_mem _ (List.mem_cons_of_mem _ (List.mem_cons_of_mem _ h))
/-- _law_columns -/
def spColumns : Sp := fun vs H Q _ => ∃ (b : Addr) (c : Int) (G : Hp), vs = [.ref b] ∧ Bag H b c ∧ c ≤ 100000 ∧ G b = none ∧ Same G H ∧
  ∀ (p : Addr) (cols : List Col) (xs : List V) (H' G' : Hp), Xt (some b) H G H' G' → Bag H' b (c + 10) → Good n10 cols → G' p = some (.lst xs) → DA G' xs (dCols cols) → Q (.ref p) H'

/-- all values, ascending -/
def stepV (found : List (List Int)) (top : Int) : List (List Int) := (found.map fun row => (List.range (top + 1).toNat).map fun v => row ++ [((v : Nat) : Int)]).flatten
def allV (tops : List Int) : List (List Int) := tops.foldl stepV [[]]
def dRow (r : List Int) : PyData := .tuple (r.map .int)
def dRows (rs : List (List Int)) : List PyData := rs.map dRow
/-- a new list, own, of these data -/
def OwnL (H G : Hp) (ds : List PyData) (Q : VK) : Prop := ∀ (p : Addr) (xs : List V) (H' G' : Hp), Xt none H G H' G' → H p = none → H' p = some (.lst xs) → G' p = none → DA G' xs ds → Q (.ref p) H'
def spValues : Sp := fun vs H Q _ => ∃ (a : Addr) (xs : List V) (cols : List Col) (G : Hp), vs = [.ref a] ∧ G a = some (.lst xs) ∧ DA G xs (dCols cols) ∧ Good n10 cols ∧ Same G H ∧ OwnL H G (dRows (allV (cols.map (·.2)))) Q
/-- a table's fields -/
def tf (cx tx : Addr) : List (Str × V) := [("columns", .ref cx), ("tops", .ref tx)]
theorem ct_ : (("tops" : Str) == ("columns" : Str)) = false := by decide +kernel
theorem tf_c (cx tx : Addr) : (tf cx tx).lookup ("columns" : Str) = some (.ref cx) := by
  simp [tf, List.lookup]
theorem tf_t (cx tx : Addr) : (tf cx tx).lookup ("tops" : Str) = some (.ref tx) := by
  simp [tf, List.lookup, ct_]
theorem tf_put (cx tx : Addr) : putF "tops" (.ref tx) (putF "columns" (.ref cx) []) = tf cx tx := by
  show (if ("columns" : Str) = "tops" then [(("columns" : Str), V.ref tx)] else (("columns" : Str), V.ref cx) :: putF "tops" (V.ref tx) []) = tf cx tx
  rw [if_neg (by decide +kernel)]
  rfl
theorem tf_no (cx tx : Addr) {m : Str} (h1 : m ≠ "columns") (h2 : m ≠ "tops") : (tf cx tx).lookup m = none := by
  unfold tf
  rw [List.lookup_cons, List.lookup_cons]
  have e1 : (m == ("columns" : Str)) = false := by simpa using h1
  have e2 : (m == ("tops" : Str)) = false := by simpa using h2
  rw [e1, e2]
  rfl
/-- a table, stable -/
def TabAt (C : Addr) (G : Hp) (x : Addr) (cols : List Col) : Prop := ∃ dx cx tx : Addr, G x = some (.ins C dx (tf cx tx)) ∧ G dx = some (.own x) ∧ G cx = some (.tup (cols.map fun c => .str c.1)) ∧ G tx = some (.tup (cols.map fun c => .int c.2))
theorem TabAt.mono {C : Addr} {G G' : Hp} {x : Addr} {cols : List Col} (s : Same G G') (h : TabAt C G x cols) : TabAt C G' x cols := by
  obtain ⟨dx, cx, tx, h1, h2, h3, h4⟩ := h
  exact ⟨dx, cx, tx, s _ _ h1, s _ _ h2, s _ _ h3, s _ _ h4⟩
/-- Table.__init__ of good columns -/
def spInit (C : Addr) : Sp := fun vs H Q _ => ∃ (x dx a : Addr) (xs : List V) (cols : List Col) (H0 G : Hp), vs = [.ref x, .ref a] ∧ H0 x = none ∧ H0 dx = none ∧ dx ≠ x ∧ H = upd (upd H0 dx (.own x)) x (.ins C dx []) ∧
  H0 a = some (.lst xs) ∧ DA G xs (dCols cols) ∧ Good n11 cols ∧ Same G H0 ∧ ∀ H' G', Xt none H0 G H' G' → TabAt C G' x cols → Q .non H'
end Nw
namespace Nw
open PySem L2 PySem.Spec PyProof.Rows RZ
def top (i : Nat) : Stmt := PySem.Challenge.pw_newestrow_k59_databases_refused.main.body.getD i (.Pass ⟨0, 0, 0, 0⟩)
abbrev s__wall : Stmt := top 0
abbrev N__wall : List Str := ["k"]
abbrev P__wall : List Str := ["k"]
theorem sc__wall : FnScope N__wall P__wall (C8.fnScope s__wall) := C8.fnScope_by (by decide +kernel)
abbrev s_copied : Stmt := top 2
abbrev N_copied : List Str := ["field", "part", "key"]
abbrev P_copied : List Str := ["field"]
theorem sc_copied : FnScope N_copied P_copied (C8.fnScope s_copied) := C8.fnScope_by (by decide +kernel)
abbrev s_BadTable____init__ : Stmt := inClass (top 4) 0
abbrev N_BadTable____init__ : List Str := ["self", "at"]
abbrev P_BadTable____init__ : List Str := ["self", "at"]
theorem sc_BadTable____init__ : FnScope N_BadTable____init__ P_BadTable____init__ (C8.fnScope s_BadTable____init__) := C8.fnScope_by (by decide +kernel)
abbrev s_BadDatabase____init__ : Stmt := inClass (top 5) 0
abbrev N_BadDatabase____init__ : List Str := ["self", "at"]
abbrev P_BadDatabase____init__ : List Str := ["self", "at"]
theorem sc_BadDatabase____init__ : FnScope N_BadDatabase____init__ P_BadDatabase____init__ (C8.fnScope s_BadDatabase____init__) := C8.fnScope_by (by decide +kernel)
abbrev s_is_integer : Stmt := top 7
abbrev N_is_integer : List Str := ["thing"]
abbrev P_is_integer : List Str := ["thing"]
theorem sc_is_integer : FnScope N_is_integer P_is_integer (C8.fnScope s_is_integer) := C8.fnScope_by (by decide +kernel)
abbrev s_is_tuple_of : Stmt := top 8
abbrev N_is_tuple_of : List Str := ["thing", "many"]
abbrev P_is_tuple_of : List Str := ["thing", "many"]
theorem sc_is_tuple_of : FnScope N_is_tuple_of P_is_tuple_of (C8.fnScope s_is_tuple_of) := C8.fnScope_by (by decide +kernel)
abbrev s_is_word : Stmt := top 11
abbrev N_is_word : List Str := ["thing", "letter"]
abbrev P_is_word : List Str := ["thing"]
theorem sc_is_word : FnScope N_is_word P_is_word (C8.fnScope s_is_word) := C8.fnScope_by (by decide +kernel)
abbrev s_is_row : Stmt := top 13
abbrev N_is_row : List Str := ["thing", "table", "name", "values"]
abbrev P_is_row : List Str := ["thing", "table"]
theorem sc_is_row : FnScope N_is_row P_is_row (C8.fnScope s_is_row) := C8.fnScope_by (by decide +kernel)
abbrev s_wrong_entry : Stmt := top 14
abbrev N_wrong_entry : List Str := ["entries", "table", "names", "at", "entry", "name"]
abbrev P_wrong_entry : List Str := ["entries", "table"]
theorem sc_wrong_entry : FnScope N_wrong_entry P_wrong_entry (C8.fnScope s_wrong_entry) := C8.fnScope_by (by decide +kernel)
abbrev s_is_column : Stmt := top 17
abbrev N_is_column : List Str := ["thing", "name", "top"]
abbrev P_is_column : List Str := ["thing"]
theorem sc_is_column : FnScope N_is_column P_is_column (C8.fnScope s_is_column) := C8.fnScope_by (by decide +kernel)
abbrev s_Table____init__ : Stmt := inClass (top 18) 0
abbrev N_Table____init__ : List Str := ["self", "columns", "names", "at", "column", "_", "top"]
abbrev P_Table____init__ : List Str := ["self", "columns"]
theorem sc_Table____init__ : FnScope N_Table____init__ P_Table____init__ (C8.fnScope s_Table____init__) := C8.fnScope_by (by decide +kernel)
abbrev s_Table__all_values : Stmt := inClass (top 18) 1
abbrev N_Table__all_values : List Str := ["self"]
abbrev P_Table__all_values : List Str := ["self"]
theorem sc_Table__all_values : FnScope N_Table__all_values P_Table__all_values (C8.fnScope s_Table__all_values) := C8.fnScope_by (by decide +kernel)
abbrev s_Table____len__ : Stmt := inClass (top 18) 2
abbrev N_Table____len__ : List Str := ["self"]
abbrev P_Table____len__ : List Str := ["self"]
theorem sc_Table____len__ : FnScope N_Table____len__ P_Table____len__ (C8.fnScope s_Table____len__) := C8.fnScope_by (by decide +kernel)
abbrev s_Table____contains__ : Stmt := inClass (top 18) 3
abbrev N_Table____contains__ : List Str := ["self", "thing", "value", "top"]
abbrev P_Table____contains__ : List Str := ["self", "thing"]
theorem sc_Table____contains__ : FnScope N_Table____contains__ P_Table____contains__ (C8.fnScope s_Table____contains__) := C8.fnScope_by (by decide +kernel)
abbrev s_Table____eq__ : Stmt := inClass (top 18) 4
abbrev N_Table____eq__ : List Str := ["self", "other"]
abbrev P_Table____eq__ : List Str := ["self", "other"]
theorem sc_Table____eq__ : FnScope N_Table____eq__ P_Table____eq__ (C8.fnScope s_Table____eq__) := C8.fnScope_by (by decide +kernel)
abbrev s_Table____repr__ : Stmt := inClass (top 18) 5
abbrev N_Table____repr__ : List Str := ["self", "columns", "name", "top"]
abbrev P_Table____repr__ : List Str := ["self"]
theorem sc_Table____repr__ : FnScope N_Table____repr__ P_Table____repr__ (C8.fnScope s_Table____repr__) := C8.fnScope_by (by decide +kernel)
abbrev s_is_blocked : Stmt := top 23
abbrev N_is_blocked : List Str := ["hold", "others"]
abbrev P_is_blocked : List Str := ["hold", "others"]
theorem sc_is_blocked : FnScope N_is_blocked P_is_blocked (C8.fnScope s_is_blocked) := C8.fnScope_by (by decide +kernel)
abbrev s_Holds____init__ : Stmt := inClass (top 25) 0
abbrev N_Holds____init__ : List Str := ["self", "store"]
abbrev P_Holds____init__ : List Str := ["self", "store"]
theorem sc_Holds____init__ : FnScope N_Holds____init__ P_Holds____init__ (C8.fnScope s_Holds____init__) := C8.fnScope_by (by decide +kernel)
abbrev s_Holds__begin : Stmt := inClass (top 25) 1
abbrev N_Holds__begin : List Str := ["self", "number"]
abbrev P_Holds__begin : List Str := ["self", "number"]
theorem sc_Holds__begin : FnScope N_Holds__begin P_Holds__begin (C8.fnScope s_Holds__begin) := C8.fnScope_by (by decide +kernel)
abbrev s_Holds__take_table : Stmt := inClass (top 25) 2
abbrev N_Holds__take_table : List Str := ["self", "number", "hold"]
abbrev P_Holds__take_table : List Str := ["self", "number", "hold"]
theorem sc_Holds__take_table : FnScope N_Holds__take_table P_Holds__take_table (C8.fnScope s_Holds__take_table) := C8.fnScope_by (by decide +kernel)
abbrev s_Holds__take_row : Stmt := inClass (top 25) 3
abbrev N_Holds__take_row : List Str := ["self", "number", "place", "mode"]
abbrev P_Holds__take_row : List Str := ["self", "number", "place", "mode"]
theorem sc_Holds__take_row : FnScope N_Holds__take_row P_Holds__take_row (C8.fnScope s_Holds__take_row) := C8.fnScope_by (by decide +kernel)
abbrev s_Holds__many_acts : Stmt := inClass (top 25) 4
abbrev N_Holds__many_acts : List Str := ["self", "number"]
abbrev P_Holds__many_acts : List Str := ["self", "number"]
theorem sc_Holds__many_acts : FnScope N_Holds__many_acts P_Holds__many_acts (C8.fnScope s_Holds__many_acts) := C8.fnScope_by (by decide +kernel)
abbrev s_Holds__let_go : Stmt := inClass (top 25) 5
abbrev N_Holds__let_go : List Str := ["self", "number", "many"]
abbrev P_Holds__let_go : List Str := ["self", "number", "many"]
theorem sc_Holds__let_go : FnScope N_Holds__let_go P_Holds__let_go (C8.fnScope s_Holds__let_go) := C8.fnScope_by (by decide +kernel)
abbrev s_Holds__settle : Stmt := inClass (top 25) 6
abbrev N_Holds__settle : List Str := ["self", "number"]
abbrev P_Holds__settle : List Str := ["self", "number"]
theorem sc_Holds__settle : FnScope N_Holds__settle P_Holds__settle (C8.fnScope s_Holds__settle) := C8.fnScope_by (by decide +kernel)
abbrev s_Holds__leave_all : Stmt := inClass (top 25) 7
abbrev N_Holds__leave_all : List Str := ["self", "number"]
abbrev P_Holds__leave_all : List Str := ["self", "number"]
theorem sc_Holds__leave_all : FnScope N_Holds__leave_all P_Holds__leave_all (C8.fnScope s_Holds__leave_all) := C8.fnScope_by (by decide +kernel)
abbrev s_Holds__in_way : Stmt := inClass (top 25) 8
abbrev N_Holds__in_way : List Str := ["self", "number", "wish", "other", "hold", "acts", "place", "mode"]
abbrev P_Holds__in_way : List Str := ["self", "number", "wish"]
theorem sc_Holds__in_way : FnScope N_Holds__in_way P_Holds__in_way (C8.fnScope s_Holds__in_way) := C8.fnScope_by (by decide +kernel)
abbrev s_Holds__wait : Stmt := inClass (top 25) 9
abbrev N_Holds__wait : List Str := ["self", "number", "wish", "seen", "paths", "longer", "path", "others", "other"]
abbrev P_Holds__wait : List Str := ["self", "number", "wish"]
theorem sc_Holds__wait : FnScope N_Holds__wait P_Holds__wait (C8.fnScope s_Holds__wait) := C8.fnScope_by (by decide +kernel)
abbrev s_Holds___waits_for : Stmt := inClass (top 25) 10
abbrev N_Holds___waits_for : List Str := ["self", "number"]
abbrev P_Holds___waits_for : List Str := ["self", "number"]
theorem sc_Holds___waits_for : FnScope N_Holds___waits_for P_Holds___waits_for (C8.fnScope s_Holds___waits_for) := C8.fnScope_by (by decide +kernel)
abbrev s_name_of : Stmt := top 27
abbrev N_name_of : List Str := ["place"]
abbrev P_name_of : List Str := ["place"]
theorem sc_name_of : FnScope N_name_of P_name_of (C8.fnScope s_name_of) := C8.fnScope_by (by decide +kernel)
abbrev s_Store____init__ : Stmt := inClass (top 28) 0
abbrev N_Store____init__ : List Str := ["self", "rows", "tag", "name", "values"]
abbrev P_Store____init__ : List Str := ["self", "rows"]
theorem sc_Store____init__ : FnScope N_Store____init__ P_Store____init__ (C8.fnScope s_Store____init__) := C8.fnScope_by (by decide +kernel)
abbrev s_Store__new_tag : Stmt := inClass (top 28) 1
abbrev N_Store__new_tag : List Str := ["self"]
abbrev P_Store__new_tag : List Str := ["self"]
theorem sc_Store__new_tag : FnScope N_Store__new_tag P_Store__new_tag (C8.fnScope s_Store__new_tag) := C8.fnScope_by (by decide +kernel)
abbrev s_Store__seen_at : Stmt := inClass (top 28) 2
abbrev N_Store__seen_at : List Str := ["self", "moment"]
abbrev P_Store__seen_at : List Str := ["self", "moment"]
theorem sc_Store__seen_at : FnScope N_Store__seen_at P_Store__seen_at (C8.fnScope s_Store__seen_at) := C8.fnScope_by (by decide +kernel)
abbrev s_Store__newest : Stmt := inClass (top 28) 3
abbrev N_Store__newest : List Str := ["self", "place"]
abbrev P_Store__newest : List Str := ["self", "place"]
theorem sc_Store__newest : FnScope N_Store__newest P_Store__newest (C8.fnScope s_Store__newest) := C8.fnScope_by (by decide +kernel)
abbrev s_Store__is_written_since : Stmt := inClass (top 28) 4
abbrev N_Store__is_written_since : List Str := ["self", "place", "moment"]
abbrev P_Store__is_written_since : List Str := ["self", "place", "moment"]
theorem sc_Store__is_written_since : FnScope N_Store__is_written_since P_Store__is_written_since (C8.fnScope s_Store__is_written_since) := C8.fnScope_by (by decide +kernel)
abbrev s_Store__is_gone : Stmt := inClass (top 28) 5
abbrev N_Store__is_gone : List Str := ["self", "place", "tag", "version"]
abbrev P_Store__is_gone : List Str := ["self", "place", "tag"]
theorem sc_Store__is_gone : FnScope N_Store__is_gone P_Store__is_gone (C8.fnScope s_Store__is_gone) := C8.fnScope_by (by decide +kernel)
abbrev s_Store__write : Stmt := inClass (top 28) 6
abbrev N_Store__write : List Str := ["self", "versions", "place", "version"]
abbrev P_Store__write : List Str := ["self", "versions"]
theorem sc_Store__write : FnScope N_Store__write P_Store__write (C8.fnScope s_Store__write) := C8.fnScope_by (by decide +kernel)
abbrev s_Store__committed_rows : Stmt := inClass (top 28) 7
abbrev N_Store__committed_rows : List Str := ["self", "newest", "place", "versions", "name", "version"]
abbrev P_Store__committed_rows : List Str := ["self"]
theorem sc_Store__committed_rows : FnScope N_Store__committed_rows P_Store__committed_rows (C8.fnScope s_Store__committed_rows) := C8.fnScope_by (by decide +kernel)
abbrev s_Database____init__ : Stmt := inClass (top 30) 0
abbrev N_Database____init__ : List Str := ["self", "table", "rows", "wrong"]
abbrev P_Database____init__ : List Str := ["self", "table", "rows"]
theorem sc_Database____init__ : FnScope N_Database____init__ P_Database____init__ (C8.fnScope s_Database____init__) := C8.fnScope_by (by decide +kernel)
abbrev s_Database__committed : Stmt := inClass (top 30) 1
abbrev N_Database__committed : List Str := ["self"]
abbrev P_Database__committed : List Str := ["self"]
theorem sc_Database__committed : FnScope N_Database__committed P_Database__committed (C8.fnScope s_Database__committed) := C8.fnScope_by (by decide +kernel)
abbrev s_Database__begin : Stmt := inClass (top 30) 2
abbrev N_Database__begin : List Str := ["self", "level"]
abbrev P_Database__begin : List Str := ["self", "level"]
theorem sc_Database__begin : FnScope N_Database__begin P_Database__begin (C8.fnScope s_Database__begin) := C8.fnScope_by (by decide +kernel)
abbrev s__law_source : Stmt := top 32
abbrev N__law_source : List Str := ["_law_script", "_law_place", "_law_cell", "_law_large", "_law_mixed"]
abbrev P__law_source : List Str := ["_law_script", "_law_place"]
theorem sc__law_source : FnScope N__law_source P__law_source (C8.fnScope s__law_source) := C8.fnScope_by (by decide +kernel)
abbrev s__law_draw : Stmt := top 33
abbrev N__law_draw : List Str := ["_law_source_here", "_law_many", "_law_digit", "_law_turn"]
abbrev P__law_draw : List Str := ["_law_source_here", "_law_many"]
theorem sc__law_draw : FnScope N__law_draw P__law_draw (C8.fnScope s__law_draw) := C8.fnScope_by (by decide +kernel)
abbrev s__law_of : Stmt := top 34
abbrev N__law_of : List Str := ["_law_source_here", "_law_some"]
abbrev P__law_of : List Str := ["_law_source_here", "_law_some"]
theorem sc__law_of : FnScope N__law_of P__law_of (C8.fnScope s__law_of) := C8.fnScope_by (by decide +kernel)
abbrev s__law_columns : Stmt := top 35
abbrev N__law_columns : List Str := ["_law_source_here"]
abbrev P__law_columns : List Str := ["_law_source_here"]
theorem sc__law_columns : FnScope N__law_columns P__law_columns (C8.fnScope s__law_columns) := C8.fnScope_by (by decide +kernel)
abbrev s__law_all : Stmt := top 36
abbrev N__law_all : List Str := ["_law_columns_here", "_law_found", "_law_name", "_law_top", "_law_longer", "_law_one", "_law_value"]
abbrev P__law_all : List Str := ["_law_columns_here"]
theorem sc__law_all : FnScope N__law_all P__law_all (C8.fnScope s__law_all) := C8.fnScope_by (by decide +kernel)
abbrev s__law_rows : Stmt := top 37
abbrev N__law_rows : List Str := ["_law_source_here", "_law_columns_here", "_law_names", "_law_most", "_law_found", "_law_left", "_law_turn", "_law_name", "_law_column", "_law_top"]
abbrev P__law_rows : List Str := ["_law_source_here", "_law_columns_here", "_law_names", "_law_most"]
theorem sc__law_rows : FnScope N__law_rows P__law_rows (C8.fnScope s__law_rows) := C8.fnScope_by (by decide +kernel)
abbrev s__law_odd : Stmt := top 38
abbrev N__law_odd : List Str := ["_law_source_here", "_law_columns_here", "_law_zero", "_law_column", "_law_some"]
abbrev P__law_odd : List Str := ["_law_source_here", "_law_columns_here"]
theorem sc__law_odd : FnScope N__law_odd P__law_odd (C8.fnScope s__law_odd) := C8.fnScope_by (by decide +kernel)
abbrev s__law_is_row : Stmt := top 39
abbrev N__law_is_row : List Str := ["_law_row", "_law_columns_here", "_law_value", "_law_name", "_law_top", "_law_sign"]
abbrev P__law_is_row : List Str := ["_law_row", "_law_columns_here"]
theorem sc__law_is_row : FnScope N__law_is_row P__law_is_row (C8.fnScope s__law_is_row) := C8.fnScope_by (by decide +kernel)
abbrev s__law_first : Stmt := top 40
abbrev N__law_first : List Str := ["_law_lines", "_law_columns_here", "_law_names", "_law_at", "_law_row"]
abbrev P__law_first : List Str := ["_law_lines", "_law_columns_here"]
theorem sc__law_first : FnScope N__law_first P__law_first (C8.fnScope s__law_first) := C8.fnScope_by (by decide +kernel)
abbrev s__law_told : Stmt := top 41
abbrev N__law_told : List Str := ["_law_sheet", "_law_lines", "e"]
abbrev P__law_told : List Str := ["_law_sheet", "_law_lines"]
theorem sc__law_told : FnScope N__law_told P__law_told (C8.fnScope s__law_told) := C8.fnScope_by (by decide +kernel)
abbrev s_law : Stmt := top 42
abbrev N_law : List Str := ["_law_script", "_law_place", "_law_source_here", "_law_columns_here", "_law_sheet", "_law_turn", "_law_zero", "_law_many", "_law_base", "_law_lines", "_law_again", "_law_at", "_law_odd_here", "_law_beyond", "_law_handed", "_law_due", "_law_column", "_law_tag", "_law_row"]
abbrev P_law : List Str := ["_law_script"]
theorem sc_law : FnScope N_law P_law (C8.fnScope s_law) := C8.fnScope_by (by decide +kernel)
/-- what the top leaves of names -/
structure Names (K : PySem.W.Frag) (mg : Str → Option Value) : Prop where
  n_len : mg "len" = none
  n_range : mg "range" = none
  n_abs : mg "abs" = none
  n_int : mg "int" = none
  n_str : mg "str" = none
  n_bool : mg "bool" = none
  n_tuple : mg "tuple" = none
  n_list : mg "list" = none
  n_isinstance : mg "isinstance" = none
  n_all : mg "all" = none
  n_any : mg "any" = none
  n_max : mg "max" = none
  n_min : mg "min" = none
  n_enumerate : mg "enumerate" = none
  n_zip : mg "zip" = none
  n_repr : mg "repr" = none
  g_LETTERS : ∃ u, mg "LETTERS" = some u ∧ RelV (.str LET) u
  g_RESERVED : ∃ (a : Addr), (∃ u, mg "RESERVED" = some u ∧ RelV (.ref a) u) ∧ ∀ H : Hp, SqT K H a (RES.map V.str)
section
variable {P : Program} {w : World} {K : PySem.W.Frag} {mg : Str → Option Value} {base : Heap}
theorem draw {f : Addr} {fd : FuncData} (F : C8.Def K mg "_law_draw" s__law_draw f fd) (b : Binds K fd P__law_draw []) (T : Names K mg) : C8.Cal P w K mg base 1 "_law_draw" spTake [] := by
  refine C8.cal0 (N := N__law_draw) F b .nil sc__law_draw (fun vs H Q E h => ?_) (fun cdv A outer s H vs Q E hr h => ?_)
  · obtain ⟨b, n, c, rfl, _⟩ := h
    rfl
  · obtain ⟨b, n, c, rfl, n0, n1, ⟨x, y, z, hb, y0, y1, z0, z1⟩, c1, k⟩ := h
    have hu := hu_of hr
    refine ⟨_, (pss_cons (ps_if (pt_cmpR op_gt (pe_ix ix_list (pv 0) pe_int (fun _ _ => rfl)) pe_int (nomark _)) (pss_cons (ps_set (i := 2) sc__law_draw.nd rfl (Or.inl rfl) (pe_op op_mod (pe_callTy call_int1 (by rfl) T.n_int (by decide +kernel) (pa_cons (pe_ix ix_list (pv 0) pe_int (fun _ _ => rfl)) pa_nil)) (pv 1)))
 (pss_cons (ps_asg (pe_op op_fdivN (pe_ix ix_list (pv 0) pe_int (fun _ _ => rfl)) (pv 1)) (pg_sub (pv 0) pe_int set_list))
 (pss_one (ps_ret (pv 2))))) pss_nil)
 (pss_cons (ps_asg (pe_op op_add (pe_ix ix_list (pv 0) pe_int (fun _ _ => rfl)) pe_int) (pg_sub (pv 0) pe_int set_list))
 (pss_cons (ps_set (i := 3) sc__law_draw.nd rfl (Or.inl rfl) (pe_ix ix_list (pv 0) pe_int (fun _ _ => rfl)))
 (pss_cons (ps_asg (pe_op op_mod (pe_callTy call_int1 (by rfl) T.n_int (by decide +kernel) (pa_cons (pe_op op_add (pe_op op_add (pe_op op_mul (pe_ix ix_list (pv 0) pe_int (fun _ _ => rfl)) pe_int) (pe_op op_mul (pe_op op_mul pe_int (pv 3)) (pv 3))) pe_int) pa_nil)) pe_int) (pg_sub (pv 0) pe_int set_list))
 (pss_one (ps_ret (pe_op op_mod (pe_op op_mod (pe_callTy call_int1 (by rfl) T.n_int (by decide +kernel) (pa_cons (pe_op op_pow (pe_op op_fdiv (pe_ix ix_list (pv 0) pe_int (fun _ _ => rfl)) pe_int) pe_int) pa_nil)) pe_int) (pv 1)))))))), ?_⟩
    have bag' : ∀ x' y' z' : Int, 0 ≤ y' → y' < 8000000000000000000 → 0 ≤ z' → z' ≤ c + 1 → Bag (upd H b (.lst [.int x', .int y', .int z'])) b (c + 1) := fun x' y' z' h1 h2 h3 h4 => ⟨x', y', z', upd_same, h1, h2, h3, h4⟩
    refine ⟨_, rfl, b, _, _, _, rfl, rfl, SqL.of hb, rfl, _, _, rfl, rfl, _, rfl, ?_⟩
    refine ite2 (fun hx => ?_) (fun hx => ?_)
    · refine ⟨_, rfl, b, _, _, _, rfl, rfl, SqL.of hb, rfl, .inl ⟨_, rfl, ?_⟩⟩
      refine ⟨_, rfl, _, _, rfl, rfl, n0, ?_⟩
      refine ⟨_, rfl, b, _, _, _, rfl, rfl, SqL.of hb, rfl, _, rfl, _, _, rfl, rfl, ⟨by omega, by omega⟩, ?_⟩
      refine ⟨_, rfl, b, _, _, _, rfl, rfl, hb, rfl, ?_⟩
      refine ⟨_, rfl, ?_⟩
      exact k (x % n) (x.fdiv n) y z (Int.emod_nonneg _ (by omega)) (Int.emod_lt_of_pos _ n0) (bag' _ _ _ y0 y1 z0 (by omega))
    · refine ⟨_, rfl, b, _, _, _, rfl, rfl, SqL.of hb, rfl, _, _, rfl, rfl, ?_⟩
      refine ⟨_, rfl, b, _, _, _, rfl, rfl, hb, rfl, ?_⟩
      have hb' := @upd_same H b (HO.lst [V.int x, V.int y, V.int (z + 1)])
      refine ⟨_, rfl, b, _, _, _, rfl, rfl, SqL.of hb', rfl, ?_⟩
      refine ⟨_, rfl, b, _, _, _, rfl, rfl, SqL.of hb', rfl, ?_⟩
      refine ⟨_, _, rfl, rfl, .inr ⟨by decide, by decide⟩, _, rfl, _, _, rfl, rfl, .inl ⟨by decide, by decide⟩, _, rfl, _, _, rfl, rfl, .inr ⟨by omega, by omega⟩, _, _, rfl, rfl, _, _, rfl, rfl, .inl ⟨_, rfl, ?_⟩⟩
      refine ⟨_, _, rfl, rfl, (by show (0 : Int) < 2147483563; decide), ?_⟩
      generalize y * 48889 + 20011 * (z + 1) * (z + 1) + 125 = v
      have m0 := Int.emod_nonneg v (by decide : (2147483563 : Int) ≠ 0)
      have m1 := Int.emod_lt_of_pos v (by decide : (0 : Int) < 2147483563)
      refine ⟨_, rfl, b, _, _, _, rfl, rfl, hb', rfl, ?_⟩
      have hb2 := @upd_same (upd H b (HO.lst [V.int x, V.int y, V.int (z + 1)])) b (HO.lst [V.int x, V.int (v % 2147483563), V.int (z + 1)])
      refine ⟨_, rfl, b, _, _, _, rfl, rfl, SqL.of hb2, rfl, _, _, rfl, rfl, ⟨by decide, by decide⟩, _, _, rfl, rfl, ⟨by decide, by decide, ?_⟩, .inl ⟨_, rfl, ?_⟩⟩
      · show (v % 2147483563 / 64).natAbs < 2 ^ 64
        omega
      refine ⟨_, _, rfl, rfl, (by show (0 : Int) < 2147483587; decide), _, rfl, _, _, rfl, rfl, n0, ?_⟩
      have e2 : upd (upd H b (HO.lst [V.int x, V.int y, V.int (z + 1)])) b (HO.lst [V.int x, V.int (v % 2147483563), V.int (z + 1)]) = upd H b (HO.lst [V.int x, V.int (v % 2147483563), V.int (z + 1)]) := by
        funext a
        by_cases e : a = b
        · rw [e, upd_same, upd_same]
        · rw [upd_ne e, upd_ne e, upd_ne e]
      show Q _ (upd (upd H b (HO.lst [V.int x, V.int y, V.int (z + 1)])) b (HO.lst [V.int x, V.int (v % 2147483563), V.int (z + 1)]))
      rw [e2]
      exact k _ x (v % 2147483563) (z + 1) (Int.emod_nonneg _ (by omega)) (Int.emod_lt_of_pos _ n0) (bag' _ _ _ m0 (by omega) (by omega) (by omega))
theorem source {f : Addr} {fd : FuncData} (F : C8.Def K mg "_law_source" s__law_source f fd) (b : Binds K fd P__law_source []) (T : Names K mg) : C8.Cal P w K mg base 1 "_law_source" (spBag K) [] := by
  refine C8.cal0 (N := N__law_source) F b .nil sc__law_source (fun vs H Q E h => ?_) (fun cdv A outer s H vs Q E hr h => ?_)
  · obtain ⟨a, ns, i, rfl, _⟩ := h
    rfl
  · obtain ⟨a, ns, i, rfl, hS, i0, i1, k⟩ := h
    have hu := hu_of hr
    refine ⟨_, (C8.pss_cut (ps_set (i := 2) sc__law_source.nd rfl (Or.inl rfl) (pe_ifExp (pt_cmpR op_lt (pv 1) (pe_callB call_len_seq (by rfl) T.n_len PySem.boot_len (pa_cons (pv 0) pa_nil)) (nomark _)) (pe_ix ix_list (pv 0) (pv 1) (fun _ _ => rfl)) pe_int))
 (C8.pss_cut (ps_set (i := 3) sc__law_source.nd rfl (Or.inl rfl) (pe_ifExp (pt_cmpR op_ge (pe_callB call_abs (by rfl) T.n_abs (by decide +kernel) (pa_cons (pv 2) pa_nil)) (pe_op op_pow pe_int pe_int) (nomark _)) (pe_callB call_abs (by rfl) T.n_abs (by decide +kernel) (pa_cons (pv 2) pa_nil)) pe_int))
 (C8.pss_cut (ps_set (i := 4) sc__law_source.nd rfl (Or.inl rfl) (pe_op op_add (pe_op op_add (pe_op op_add (pe_op op_mod (pe_callTy call_int1 (by rfl) T.n_int (by decide +kernel) (pa_cons (pv 2) pa_nil)) pe_int) (pe_op op_mul (pe_op op_mul pe_int (pv 1)) (pv 1))) (pe_op op_mul pe_int (pv 1))) pe_int))
 (pss_one (ps_ret (pe_lst (pa_cons (pv 3) (pa_cons (pe_op op_mod (pe_callTy call_int1 (by rfl) T.n_int (by decide +kernel) (pa_cons (pe_op op_pow (pv 4) pe_int) pa_nil)) pe_int) (pa_cons pe_int pa_nil))))))))), ?_⟩
    refine ⟨fun σ' H' => ∃ x : Int, σ' = [some (.ref a), some (.int i), some (.int x), none, none] ∧ H' = H, ?_, ?_⟩
    · refine ⟨_, rfl, _, rfl, a, _, rfl, .inl hS, _, _, rfl, rfl, _, rfl, ?_⟩
      rw [List.length_map]
      refine ite2 (fun c => ?_) (fun c => ?_)
      · have c' : i < (ns.length : Int) := by simpa using c
        have hj : i.toNat < ns.length := by omega
        have e : ((i.toNat : Nat) : Int) = i := by omega
        refine ⟨_, rfl, _, rfl, a, _, i, .int (ns.getD i.toNat 0), rfl, rfl, hS, ?_, _, rfl, rfl⟩
        have q := atI_nat (xs := ns.map V.int) (j := i.toNat) (v := .int (ns.getD i.toNat 0)) (by simp [hj])
        rw [e] at q
        exact q
      · exact ⟨_, rfl, rfl⟩
    rintro σ' H' ⟨x, rfl, rfl⟩
    refine ⟨fun σ' H2 => ∃ y : Int, σ' = [some (.ref a), some (.int i), some (.int x), some (.int y), none] ∧ H2 = H', ?_, ?_⟩
    · refine ⟨_, rfl, _, rfl, _, _, rfl, rfl, ⟨by decide, by decide, by decide⟩, _, _, rfl, rfl, _, rfl, ?_⟩
      refine ite2 (fun c => ?_) (fun c => ?_)
      · exact ⟨_, rfl, _, rfl, _, rfl, rfl⟩
      · exact ⟨_, rfl, rfl⟩
    rintro σ' H2 ⟨y, rfl, rfl⟩
    refine ⟨fun σ' H3 => ∃ m : Int, σ' = [some (.ref a), some (.int i), some (.int x), some (.int y), some (.int m)] ∧ 0 ≤ m ∧ m < 100000000000000 ∧ H3 = H2, ?_, ?_⟩
    · have m0 := Int.emod_nonneg x (by decide : (2147483563 : Int) ≠ 0)
      have m1 := Int.emod_lt_of_pos x (by decide : (0 : Int) < 2147483563)
      generalize hm : x % 2147483563 = mm at m0 m1
      refine ⟨_, rfl, .inl ⟨_, rfl, _, _, rfl, rfl, (by show (0 : Int) < 2147483563; decide), _, rfl, _, _, rfl, rfl, .inl ⟨by decide, by decide⟩, _, rfl, _, _, rfl, rfl, .inr ⟨by omega, by omega⟩, _, _, rfl, rfl, _, rfl, _, _, rfl, rfl, .inl ⟨by decide, by decide⟩, _, _, rfl, rfl, _, _, rfl, rfl, ?_⟩⟩
      have q1 : 6659 * i * i ≤ 6659 * 1000 * 1000 := Int.mul_le_mul (by omega) i1 i0 (by decide)
      have q0 : 0 ≤ 6659 * i * i := Int.mul_nonneg (by omega) i0
      exact ⟨_, rfl, by rw [hm]; omega, by rw [hm]; omega, rfl⟩
    rintro σ' H3 ⟨m, rfl, m0, m1, rfl⟩
    refine ⟨_, rfl, _, rfl, _, _, rfl, rfl, ⟨by decide, by decide, (by omega)⟩, .inl ⟨_, rfl, ?_⟩⟩
    have n0 := Int.emod_nonneg (m ^ Int.toNat 3) (by decide : (2147483629 : Int) ≠ 0)
    have n1 := Int.emod_lt_of_pos (m ^ Int.toNat 3) (by decide : (0 : Int) < 2147483629)
    refine ⟨_, _, rfl, rfl, (by show (0 : Int) < 2147483629; decide), (by show 3 ≤ sizeLine; decide), fun p hp => ?_⟩
    exact k p _ _ _ hp ⟨_, _, _, upd_same, by omega, by omega, by omega, by omega⟩
theorem of_ {f : Addr} {fd : FuncData} (F : C8.Def K mg "_law_of" s__law_of f fd) (b : Binds K fd P__law_of []) (T : Names K mg) (c__law_draw : C8.Cal P w K mg base 1 "_law_draw" spTake []) : C8.Cal P w K mg base 2 "_law_of" spOf [] := by
  refine C8.cal0 (N := N__law_of) F b .nil sc__law_of (fun vs H Q E h => ?_) (fun cdv A outer s H vs Q E hr h => ?_)
  · obtain ⟨b, a, xs, c, rfl, _⟩ := h
    rfl
  · obtain ⟨b, a, xs, c, rfl, ha, hab, hne, hlen, hB, c1, k⟩ := h
    have hu := hu_of hr
    refine ⟨_, (pss_one (ps_ret (pe_ix ix_list (pv 1) (C8.pe_c c__law_draw hr (by decide) rfl (pa_cons (pv 0) (pa_cons (pe_callB call_len_seq (by rfl) T.n_len PySem.boot_len (pa_cons (pv 1) pa_nil)) pa_nil))) (fun _ _ => rfl)))), ?_⟩
    have h0 : 0 < xs.length := List.length_pos_iff.mpr hne
    refine ⟨_, rfl, _, rfl, _, rfl, a, _, rfl, .inl (SqL.of ha), b, _, c, rfl, by omega, by omega, hB, c1, fun r x y z r0 r1 hB' => ?_⟩
    have hr1 : r.toNat < xs.length := by omega
    have e : ((r.toNat : Nat) : Int) = r := by omega
    refine ⟨a, xs, r, xs[r.toNat], rfl, rfl, SqL.of ?_, ?_, ?_⟩
    · rw [upd_ne hab]; exact ha
    · have q := atI_nat (xs := xs) (j := r.toNat) (v := xs[r.toNat]) (by simp [hr1])
      rw [e] at q
      exact q
    · exact k _ r.toNat x y z (by simp [hr1]) hB'
end
end Nw
namespace Nw
open PySem L2 PySem.Spec PyProof.Rows RZ
def hdF0 : TestK := fun K => He.eqO (PySem.W.nsIn K mainGlobals "copied") (some (some (.ref (He.ga K "copied"))))
def hdF1 : TestK := fun K => He.eqO (PySem.W.nsIn K mainGlobals "is_word") (some (some (.ref (He.ga K "is_word"))))
def hdF2 : TestK := fun K => He.eqO (PySem.W.nsIn K mainGlobals "is_integer") (some (some (.ref (He.ga K "is_integer"))))
def hdF3 : TestK := fun K => He.eqO (PySem.W.nsIn K mainGlobals "is_tuple_of") (some (some (.ref (He.ga K "is_tuple_of"))))
def hdF4 : TestK := fun K => He.eqO (PySem.W.nsIn K mainGlobals "is_column") (some (some (.ref (He.ga K "is_column"))))
def hdF5 : TestK := fun K => He.eqO (PySem.W.nsIn K mainGlobals "is_row") (some (some (.ref (He.ga K "is_row"))))
def hdF6 : TestK := fun K => He.eqO (PySem.W.nsIn K mainGlobals "wrong_entry") (some (some (.ref (He.ga K "wrong_entry"))))
def hdF7 : TestK := fun K => He.eqO (PySem.W.nsIn K mainGlobals "name_of") (some (some (.ref (He.ga K "name_of"))))
def hdF8 : TestK := fun K => He.eqO (PySem.W.nsIn K mainGlobals "_law_source") (some (some (.ref (He.ga K "_law_source"))))
def hdF9 : TestK := fun K => He.eqO (PySem.W.nsIn K mainGlobals "_law_draw") (some (some (.ref (He.ga K "_law_draw"))))
def hdF10 : TestK := fun K => He.eqO (PySem.W.nsIn K mainGlobals "_law_of") (some (some (.ref (He.ga K "_law_of"))))
def hdF11 : TestK := fun K => He.eqO (PySem.W.nsIn K mainGlobals "_law_columns") (some (some (.ref (He.ga K "_law_columns"))))
def hdF12 : TestK := fun K => He.eqO (PySem.W.nsIn K mainGlobals "_law_rows") (some (some (.ref (He.ga K "_law_rows"))))
def hdF13 : TestK := fun K => He.eqO (PySem.W.nsIn K mainGlobals "_law_odd") (some (some (.ref (He.ga K "_law_odd"))))
def hdF14 : TestK := fun K => He.eqO (PySem.W.nsIn K mainGlobals "_law_is_row") (some (some (.ref (He.ga K "_law_is_row"))))
def hdF15 : TestK := fun K => He.eqO (PySem.W.nsIn K mainGlobals "_law_first") (some (some (.ref (He.ga K "_law_first"))))
def hdF16 : TestK := fun K => He.eqO (PySem.W.nsIn K mainGlobals "_law_told") (some (some (.ref (He.ga K "_law_told"))))
def hdF17 : TestK := fun K => He.eqO (PySem.W.nsIn K mainGlobals "law") (some (some (.ref (He.ga K "law"))))
def hdF18 : TestK := fun K => He.eqO (PySem.W.nsIn K mainGlobals "Table") (some (some (.ref (He.ga K "Table"))))
def hdF19 : TestK := fun K => He.eqO (PySem.W.nsIn K mainGlobals "Store") (some (some (.ref (He.ga K "Store"))))
def hdF20 : TestK := fun K => He.eqO (PySem.W.nsIn K mainGlobals "Holds") (some (some (.ref (He.ga K "Holds"))))
def hdF21 : TestK := fun K => He.eqO (PySem.W.nsIn K mainGlobals "Database") (some (some (.ref (He.ga K "Database"))))
def hdF22 : TestK := fun K => He.eqO (PySem.W.nsIn K mainGlobals "BadDatabase") (some (some (.ref (He.ga K "BadDatabase"))))
def hdF23 : TestK := fun K => He.eqO (PySem.W.nsIn K mainGlobals "NewestrowError") (some (some (.ref (He.ga K "NewestrowError"))))
def hdF24 : TestK := fun K => He.eqO (PySem.W.findIn K (.ref (He.ga K "Table")) "__init__") (some (some (.ref (He.ma K (He.ga K "Table") "__init__"))))
def hdF25 : TestK := fun K => PySem.W.isFn K (.ref (He.ma K (He.ga K "Table") "__init__"))
def hdF26 : TestK := fun K => He.eqO (PySem.W.findIn K (.ref (He.ga K "Table")) "__contains__") (some (some (.ref (He.ma K (He.ga K "Table") "__contains__"))))
def hdF27 : TestK := fun K => PySem.W.isFn K (.ref (He.ma K (He.ga K "Table") "__contains__"))
def hdF28 : TestK := fun K => He.eqO (PySem.W.findIn K (.ref (He.ga K "Store")) "__init__") (some (some (.ref (He.ma K (He.ga K "Store") "__init__"))))
def hdF29 : TestK := fun K => PySem.W.isFn K (.ref (He.ma K (He.ga K "Store") "__init__"))
def hdF30 : TestK := fun K => He.eqO (PySem.W.findIn K (.ref (He.ga K "Store")) "committed_rows") (some (some (.ref (He.ma K (He.ga K "Store") "committed_rows"))))
def hdF31 : TestK := fun K => PySem.W.isFn K (.ref (He.ma K (He.ga K "Store") "committed_rows"))
def hdF32 : TestK := fun K => He.eqO (PySem.W.findIn K (.ref (He.ga K "Holds")) "__init__") (some (some (.ref (He.ma K (He.ga K "Holds") "__init__"))))
def hdF33 : TestK := fun K => PySem.W.isFn K (.ref (He.ma K (He.ga K "Holds") "__init__"))
def hdF34 : TestK := fun K => He.eqO (PySem.W.findIn K (.ref (He.ga K "Database")) "__init__") (some (some (.ref (He.ma K (He.ga K "Database") "__init__"))))
def hdF35 : TestK := fun K => PySem.W.isFn K (.ref (He.ma K (He.ga K "Database") "__init__"))
def hdF36 : TestK := fun K => He.eqO (PySem.W.findIn K (.ref (He.ga K "Database")) "committed") (some (some (.ref (He.ma K (He.ga K "Database") "committed"))))
def hdF37 : TestK := fun K => PySem.W.isFn K (.ref (He.ma K (He.ga K "Database") "committed"))
def hdF38 : TestK := fun K => He.eqO (PySem.W.findIn K (.ref (He.ga K "BadDatabase")) "__init__") (some (some (.ref (He.ma K (He.ga K "BadDatabase") "__init__"))))
def hdF39 : TestK := fun K => PySem.W.isFn K (.ref (He.ma K (He.ga K "BadDatabase") "__init__"))
def hdF40 : TestK := fun K => PySem.W.plainGet K (He.ga K "Table") Str.empty
def hdF41 : TestK := fun K => PySem.W.hasDictIn K (He.ga K "Table")
def hdF42 : TestK := fun K => PySem.W.plainOver K (He.ga K "Table")
def hdF43 : TestK := fun K => He.eqO (PySem.W.findIn K (.ref (He.ga K "Table")) "__setattr__") (some (some (.builtin "object.__setattr__")))
def hdF44 : TestK := fun K => PySem.W.makesIn K (He.ga K "Table")
def hdF45 : TestK := fun K => PySem.W.keepIn K (.ref (He.ga K "Table"))
def hdF46 : TestK := fun K => PySem.W.plainGet K (He.ga K "Store") Str.empty
def hdF47 : TestK := fun K => PySem.W.hasDictIn K (He.ga K "Store")
def hdF48 : TestK := fun K => PySem.W.plainOver K (He.ga K "Store")
def hdF49 : TestK := fun K => He.eqO (PySem.W.findIn K (.ref (He.ga K "Store")) "__setattr__") (some (some (.builtin "object.__setattr__")))
def hdF50 : TestK := fun K => PySem.W.makesIn K (He.ga K "Store")
def hdF51 : TestK := fun K => PySem.W.keepIn K (.ref (He.ga K "Store"))
def hdF52 : TestK := fun K => PySem.W.plainGet K (He.ga K "Holds") Str.empty
def hdF53 : TestK := fun K => PySem.W.hasDictIn K (He.ga K "Holds")
def hdF54 : TestK := fun K => PySem.W.plainOver K (He.ga K "Holds")
def hdF55 : TestK := fun K => He.eqO (PySem.W.findIn K (.ref (He.ga K "Holds")) "__setattr__") (some (some (.builtin "object.__setattr__")))
def hdF56 : TestK := fun K => PySem.W.makesIn K (He.ga K "Holds")
def hdF57 : TestK := fun K => PySem.W.keepIn K (.ref (He.ga K "Holds"))
def hdF58 : TestK := fun K => PySem.W.plainGet K (He.ga K "Database") Str.empty
def hdF59 : TestK := fun K => PySem.W.hasDictIn K (He.ga K "Database")
def hdF60 : TestK := fun K => PySem.W.plainOver K (He.ga K "Database")
def hdF61 : TestK := fun K => He.eqO (PySem.W.findIn K (.ref (He.ga K "Database")) "__setattr__") (some (some (.builtin "object.__setattr__")))
def hdF62 : TestK := fun K => PySem.W.makesIn K (He.ga K "Database")
def hdF63 : TestK := fun K => PySem.W.keepIn K (.ref (He.ga K "Database"))
def hdF64 : TestK := fun K => He.eqO (PySem.W.findIn K (.ref (He.ga K "Table")) "columns") (some none)
def hdF65 : TestK := fun K => He.eqO (PySem.W.findIn K (.ref (He.ga K "Table")) "tops") (some none)
def hdF66 : TestK := fun K => He.eqO (PySem.W.findIn K (.ref (He.ga K "Store")) "moment") (some none)
def hdF67 : TestK := fun K => He.eqO (PySem.W.findIn K (.ref (He.ga K "Store")) "_tags") (some none)
def hdF68 : TestK := fun K => He.eqO (PySem.W.findIn K (.ref (He.ga K "Store")) "_versions") (some none)
def hdF69 : TestK := fun K => He.eqO (PySem.W.findIn K (.ref (He.ga K "Holds")) "_store") (some none)
def hdF70 : TestK := fun K => He.eqO (PySem.W.findIn K (.ref (He.ga K "Holds")) "_tables") (some none)
def hdF71 : TestK := fun K => He.eqO (PySem.W.findIn K (.ref (He.ga K "Holds")) "_acts") (some none)
def hdF72 : TestK := fun K => He.eqO (PySem.W.findIn K (.ref (He.ga K "Holds")) "_wishes") (some none)
def hdF73 : TestK := fun K => He.eqO (PySem.W.findIn K (.ref (He.ga K "Database")) "_store") (some none)
def hdF74 : TestK := fun K => He.eqO (PySem.W.findIn K (.ref (He.ga K "Database")) "_holds") (some none)
def hdF75 : TestK := fun K => He.eqO (PySem.W.findIn K (.ref (He.ga K "Database")) "_many") (some none)
def hdF76 : TestK := fun K => He.eqO (PySem.W.findIn K (.ref (He.ga K "BadDatabase")) "at") (some none)
def hdF77 : TestK := fun K => He.eqO (PySem.W.specialIn K (.builtin "object.__class__") "__get__") (some (some (.builtin "getset_descriptor.__get__")))
def hdF78 : TestK := fun K => decide (PySem.W.takesIn K (.builtin "object.__class__") = some true)
def hdF79 : TestK := fun K => oexB K (He.ga K "BadDatabase")
def hdF80 : TestK := fun K => He.eqO (PySem.W.findIn K (.ref (He.ga K "BadDatabase")) "__setattr__") (some (some (.builtin "object.__setattr__")))
def hdF81 : TestK := fun K => decide (PySem.W.subIn K (.ref (He.ga K "BadDatabase")) (.type "BaseException") = some true)
def hdF82 : TestK := fun K => He.eqO (some (PySem.W.typeIn K (.ref (He.ga K "BadDatabase")))) (some (some (.type "type")))
def hdF83 : TestK := fun K => PySem.W.keepIn K (.ref (He.ga K "BadDatabase"))
def hdF84 : TestK := fun K => He.eqO (PySem.W.findIn K (.ref (He.ga K "BadDatabase")) "__getattribute__") (some (some (.builtin "BaseException.__getattribute__")))
def hdF85 : TestK := fun K => He.eqO (PySem.W.findIn K (.ref (He.ga K "BadDatabase")) "__getattr__") (some none)
def hdF86 : TestK := fun K => PySem.W.hasDictIn K (He.ga K "BadDatabase")
def hdF87 : TestK := fun K => (PySem.W.clsIn K (He.ga K "BadDatabase")).isSome
def hdF88 : TestK := fun K => He.eqO (PySem.W.findIn K (.ref (He.ga K "BadDatabase")) "__class__") (some (some (.builtin "object.__class__")))
def hdF89 : TestK := fun K => decide (PySem.W.mroIn K (He.ga K "BadDatabase") (.type "object") = some true)
def hdF90 : TestK := fun K => rvB K mainGlobals "LETTERS" (.str LET)
def hdF91 : TestK := fun K => He.eqO (PySem.W.nsIn K mainGlobals "RESERVED") (some (some (.ref (He.ga K "RESERVED"))))
def hdF92 : TestK := fun K => He.tupB K "RESERVED" (RES.map He.Dv.str)
def hdF93 : TestK := fun K => He.eqO (some (PySem.W.typeIn K (.ref (He.ma K (He.ga K "BadDatabase") "__init__")))) (some (some (.type "function")))
def hdF94 : TestK := fun K => decide (PySem.W.exmOne K (.ref (He.ga K "BadDatabase")) (.ref (He.ga K "BadDatabase")) = some true)
def hdF95 : TestK := fun K => decide (PySem.W.kitOne K (.ref (He.ga K "BadDatabase")) (.ref (He.ga K "NewestrowError")) = some true)
def hdF96 : TestK := fun K => decide (PySem.W.kitOne K (.ref (He.ga K "BadDatabase")) (.type "ValueError") = some true)
def hdF97 : TestK := fun K => He.eqO (PySem.W.nsIn K mainGlobals "len") (some none)
def hdF98 : TestK := fun K => He.eqO (PySem.W.nsIn K mainGlobals "range") (some none)
def hdF99 : TestK := fun K => He.eqO (PySem.W.nsIn K mainGlobals "abs") (some none)
def hdF100 : TestK := fun K => He.eqO (PySem.W.nsIn K mainGlobals "int") (some none)
def hdF101 : TestK := fun K => He.eqO (PySem.W.nsIn K mainGlobals "str") (some none)
def hdF102 : TestK := fun K => He.eqO (PySem.W.nsIn K mainGlobals "bool") (some none)
def hdF103 : TestK := fun K => He.eqO (PySem.W.nsIn K mainGlobals "tuple") (some none)
def hdF104 : TestK := fun K => He.eqO (PySem.W.nsIn K mainGlobals "list") (some none)
def hdF105 : TestK := fun K => He.eqO (PySem.W.nsIn K mainGlobals "isinstance") (some none)
def hdF106 : TestK := fun K => He.eqO (PySem.W.nsIn K mainGlobals "all") (some none)
def hdF107 : TestK := fun K => He.eqO (PySem.W.nsIn K mainGlobals "any") (some none)
def hdF108 : TestK := fun K => He.eqO (PySem.W.nsIn K mainGlobals "max") (some none)
def hdF109 : TestK := fun K => He.eqO (PySem.W.nsIn K mainGlobals "min") (some none)
def hdF110 : TestK := fun K => He.eqO (PySem.W.nsIn K mainGlobals "enumerate") (some none)
def hdF111 : TestK := fun K => He.eqO (PySem.W.nsIn K mainGlobals "zip") (some none)
def hdF112 : TestK := fun K => He.eqO (PySem.W.nsIn K mainGlobals "repr") (some none)
def hdF113 : TestK := fun K => He.eqO (PySem.W.nsIn K mainGlobals "dict") (some none)
def hdF114 : TestK := fun K => He.eqO (PySem.W.nsIn K mainGlobals "sorted") (some none)
def hdF115 : TestK := fun K => He.eqO (PySem.W.nsIn K mainGlobals "ValueError") (some none)
def hdD0 : He5.DefA := { at_ := fun K => (He.ga K "copied"), name := "copied", qual := "copied", params := C8.fnArgs s_copied, body := C8.fnBody s_copied, scope := C8.fnScope s_copied }
def hdD1 : He5.DefA := { at_ := fun K => (He.ga K "is_word"), name := "is_word", qual := "is_word", params := C8.fnArgs s_is_word, body := C8.fnBody s_is_word, scope := C8.fnScope s_is_word }
def hdD2 : He5.DefA := { at_ := fun K => (He.ga K "is_integer"), name := "is_integer", qual := "is_integer", params := C8.fnArgs s_is_integer, body := C8.fnBody s_is_integer, scope := C8.fnScope s_is_integer }
def hdD3 : He5.DefA := { at_ := fun K => (He.ga K "is_tuple_of"), name := "is_tuple_of", qual := "is_tuple_of", params := C8.fnArgs s_is_tuple_of, body := C8.fnBody s_is_tuple_of, scope := C8.fnScope s_is_tuple_of }
def hdD4 : He5.DefA := { at_ := fun K => (He.ga K "is_column"), name := "is_column", qual := "is_column", params := C8.fnArgs s_is_column, body := C8.fnBody s_is_column, scope := C8.fnScope s_is_column }
def hdD5 : He5.DefA := { at_ := fun K => (He.ga K "is_row"), name := "is_row", qual := "is_row", params := C8.fnArgs s_is_row, body := C8.fnBody s_is_row, scope := C8.fnScope s_is_row }
def hdD6 : He5.DefA := { at_ := fun K => (He.ga K "wrong_entry"), name := "wrong_entry", qual := "wrong_entry", params := C8.fnArgs s_wrong_entry, body := C8.fnBody s_wrong_entry, scope := C8.fnScope s_wrong_entry }
def hdD7 : He5.DefA := { at_ := fun K => (He.ga K "name_of"), name := "name_of", qual := "name_of", params := C8.fnArgs s_name_of, body := C8.fnBody s_name_of, scope := C8.fnScope s_name_of }
def hdD8 : He5.DefA := { at_ := fun K => (He.ga K "_law_source"), name := "_law_source", qual := "_law_source", params := C8.fnArgs s__law_source, body := C8.fnBody s__law_source, scope := C8.fnScope s__law_source }
def hdD9 : He5.DefA := { at_ := fun K => (He.ga K "_law_draw"), name := "_law_draw", qual := "_law_draw", params := C8.fnArgs s__law_draw, body := C8.fnBody s__law_draw, scope := C8.fnScope s__law_draw }
def hdD10 : He5.DefA := { at_ := fun K => (He.ga K "_law_of"), name := "_law_of", qual := "_law_of", params := C8.fnArgs s__law_of, body := C8.fnBody s__law_of, scope := C8.fnScope s__law_of }
def hdD11 : He5.DefA := { at_ := fun K => (He.ga K "_law_columns"), name := "_law_columns", qual := "_law_columns", params := C8.fnArgs s__law_columns, body := C8.fnBody s__law_columns, scope := C8.fnScope s__law_columns }
def hdD12 : He5.DefA := { at_ := fun K => (He.ga K "_law_rows"), name := "_law_rows", qual := "_law_rows", params := C8.fnArgs s__law_rows, body := C8.fnBody s__law_rows, scope := C8.fnScope s__law_rows }
def hdD13 : He5.DefA := { at_ := fun K => (He.ga K "_law_odd"), name := "_law_odd", qual := "_law_odd", params := C8.fnArgs s__law_odd, body := C8.fnBody s__law_odd, scope := C8.fnScope s__law_odd }
def hdD14 : He5.DefA := { at_ := fun K => (He.ga K "_law_is_row"), name := "_law_is_row", qual := "_law_is_row", params := C8.fnArgs s__law_is_row, body := C8.fnBody s__law_is_row, scope := C8.fnScope s__law_is_row }
def hdD15 : He5.DefA := { at_ := fun K => (He.ga K "_law_first"), name := "_law_first", qual := "_law_first", params := C8.fnArgs s__law_first, body := C8.fnBody s__law_first, scope := C8.fnScope s__law_first }
def hdD16 : He5.DefA := { at_ := fun K => (He.ga K "_law_told"), name := "_law_told", qual := "_law_told", params := C8.fnArgs s__law_told, body := C8.fnBody s__law_told, scope := C8.fnScope s__law_told }
def hdD17 : He5.DefA := { at_ := fun K => (He.ga K "law"), name := "law", qual := "law", params := C8.fnArgs s_law, body := C8.fnBody s_law, scope := C8.fnScope s_law }
def hdD18 : He5.DefA := { at_ := fun K => (He.ma K (He.ga K "Table") "__init__"), name := "__init__", qual := "Table.__init__", params := C8.fnArgs s_Table____init__, body := C8.fnBody s_Table____init__, scope := C8.fnScope s_Table____init__ }
def hdD19 : He5.DefA := { at_ := fun K => (He.ma K (He.ga K "Table") "__contains__"), name := "__contains__", qual := "Table.__contains__", params := C8.fnArgs s_Table____contains__, body := C8.fnBody s_Table____contains__, scope := C8.fnScope s_Table____contains__ }
def hdD20 : He5.DefA := { at_ := fun K => (He.ma K (He.ga K "Store") "__init__"), name := "__init__", qual := "Store.__init__", params := C8.fnArgs s_Store____init__, body := C8.fnBody s_Store____init__, scope := C8.fnScope s_Store____init__ }
def hdD21 : He5.DefA := { at_ := fun K => (He.ma K (He.ga K "Store") "committed_rows"), name := "committed_rows", qual := "Store.committed_rows", params := C8.fnArgs s_Store__committed_rows, body := C8.fnBody s_Store__committed_rows, scope := C8.fnScope s_Store__committed_rows }
def hdD22 : He5.DefA := { at_ := fun K => (He.ma K (He.ga K "Holds") "__init__"), name := "__init__", qual := "Holds.__init__", params := C8.fnArgs s_Holds____init__, body := C8.fnBody s_Holds____init__, scope := C8.fnScope s_Holds____init__ }
def hdD23 : He5.DefA := { at_ := fun K => (He.ma K (He.ga K "Database") "__init__"), name := "__init__", qual := "Database.__init__", params := C8.fnArgs s_Database____init__, body := C8.fnBody s_Database____init__, scope := C8.fnScope s_Database____init__ }
def hdD24 : He5.DefA := { at_ := fun K => (He.ma K (He.ga K "Database") "committed"), name := "committed", qual := "Database.committed", params := C8.fnArgs s_Database__committed, body := C8.fnBody s_Database__committed, scope := C8.fnScope s_Database__committed }
def hdD25 : He5.DefA := { at_ := fun K => (He.ma K (He.ga K "BadDatabase") "__init__"), name := "__init__", qual := "BadDatabase.__init__", params := C8.fnArgs s_BadDatabase____init__, body := C8.fnBody s_BadDatabase____init__, scope := C8.fnScope s_BadDatabase____init__ }
def hdFsA_0 : List TestK := [hdF0, hdF1, hdF2, hdF3, hdF4, hdF5, hdF6, hdF7, hdF8, hdF9, hdF10, hdF11, hdF12, hdF13, hdF14, hdF15, hdF16, hdF17, hdF18, hdF19, hdF20, hdF21, hdF22, hdF23, hdF24, hdF25, hdF26, hdF27, hdF28, hdF29]
def hdFsA_1 : List TestK := [hdF30, hdF31, hdF32, hdF33, hdF34, hdF35, hdF36, hdF37, hdF38, hdF39, hdF40, hdF41, hdF42, hdF43, hdF44, hdF45, hdF46, hdF47, hdF48, hdF49, hdF50, hdF51, hdF52, hdF53, hdF54, hdF55, hdF56, hdF57]
def hdFsA : List TestK := hdFsA_0 ++ (hdFsA_1)
def hdFsB_0 : List TestK := [hdF58, hdF59, hdF60, hdF61, hdF62, hdF63, hdF64, hdF65, hdF66, hdF67, hdF68, hdF69, hdF70, hdF71, hdF72, hdF73, hdF74, hdF75, hdF76, hdF77, hdF78, hdF79, hdF80, hdF81, hdF82, hdF83, hdF84, hdF85, hdF86, hdF87]
def hdFsB_1 : List TestK := [hdF88, hdF89, hdF90, hdF91, hdF92, hdF93, hdF94, hdF95, hdF96, hdF97, hdF98, hdF99, hdF100, hdF101, hdF102, hdF103, hdF104, hdF105, hdF106, hdF107, hdF108, hdF109, hdF110, hdF111, hdF112, hdF113, hdF114, hdF115]
def hdFsB : List TestK := hdFsB_0 ++ (hdFsB_1)
def hdFs : List TestK := hdFsA ++ hdFsB
def hdDsA_0 : List He5.DefA := [hdD0, hdD1, hdD2, hdD3, hdD4, hdD5, hdD6, hdD7, hdD8, hdD9, hdD10, hdD11, hdD12]
def hdDsA : List He5.DefA := hdDsA_0
def hdDsB_0 : List He5.DefA := [hdD13, hdD14, hdD15, hdD16, hdD17, hdD18, hdD19, hdD20, hdD21, hdD22, hdD23, hdD24, hdD25]
def hdDsB : List He5.DefA := hdDsB_0
def hdDs : List He5.DefA := hdDsA ++ hdDsB
def hdTsA : List He.Tab := []
def hdTsB : List He.Tab := []
def hdTs : List He.Tab := hdTsA ++ hdTsB
def hdN_0 : List Str := ["_wall", "__name__", "copied", "NewestrowError", "BadTable", "BadDatabase", "is_integer", "is_tuple_of", "LETTERS", "is_word", "is_row", "wrong_entry", "RESERVED", "is_column", "Table", "FREE", "BUSY", "OWNS", "is_blocked", "Holds", "name_of", "Store", "Database", "_law_source", "_law_draw", "_law_of", "_law_columns", "_law_all", "_law_rows", "_law_odd"]
def hdN_1 : List Str := ["_law_is_row", "_law_first", "_law_told"]
def hdN : List Str := hdN_0 ++ (hdN_1)
abbrev hdR : PySem.W.OpenRow := PySem.W.OpenLaw.row PySem.Challenge.rw_newestrow_k59_databases_refused
abbrev hdQ : Program := PySem.W.view hdR.prog [42]
abbrev hdK : PySem.W.Hook := hookN 1000 hdFs hdDs hdTs
def hdO (s : PySem.W.SharedT) : He.AlT := lookN hdFs hdDs hdTs (partN 1000 (HandSHeadRun.getT s))
theorem hdO_eq (s : PySem.W.SharedT) : hdO s = hdK.obs s.abs := seenN_eq s
def hdOA (s : PySem.W.SharedT) : He.AlT := lookN hdFsA hdDsA hdTsA (partN 1000 (HandSHeadRun.getT s))
theorem hd_run0A (w : World) : HandSHeadRun.RunEq hdR hdQ (hookN 1000 hdFsA hdDsA hdTsA) hdOA 9000 hdN (w.withFollow "special-get-raises" false) := by
  intro os
  kernel_rfl
theorem hd_run1A (w : World) : HandSHeadRun.RunEq hdR hdQ (hookN 1000 hdFsA hdDsA hdTsA) hdOA 9000 hdN (w.withFollow "special-get-raises" true) := by
  intro os
  kernel_rfl
def hdOB (s : PySem.W.SharedT) : He.AlT := lookN hdFsB hdDsB hdTsB (partN 1000 (HandSHeadRun.getT s))
theorem hd_run0B (w : World) : HandSHeadRun.RunEq hdR hdQ (hookN 1000 hdFsB hdDsB hdTsB) hdOB 9000 hdN (w.withFollow "special-get-raises" false) := by
  intro os
  kernel_rfl
theorem hd_run1B (w : World) : HandSHeadRun.RunEq hdR hdQ (hookN 1000 hdFsB hdDsB hdTsB) hdOB 9000 hdN (w.withFollow "special-get-raises" true) := by
  intro os
  kernel_rfl
theorem hd_run0 (w : World) : HandSHeadRun.RunEq hdR hdQ hdK hdO 9000 hdN (w.withFollow "special-get-raises" false) := runEq_app (f1 := hdFsA) (f2 := hdFsB) (d1 := hdDsA) (d2 := hdDsB) (t1 := hdTsA) (t2 := hdTsB) (hd_run0A w) (hd_run0B w)
theorem hd_run1 (w : World) : HandSHeadRun.RunEq hdR hdQ hdK hdO 9000 hdN (w.withFollow "special-get-raises" true) := runEq_app (f1 := hdFsA) (f2 := hdFsB) (d1 := hdDsA) (d2 := hdDsB) (t1 := hdTsA) (t2 := hdTsB) (hd_run1A w) (hd_run1B w)
theorem hd_run (w : World) : HandSHeadRun.RunEq hdR hdQ hdK hdO 9000 hdN w := PySem.W.byRow2 "special-get-raises" (P := fun w => HandSHeadRun.RunEq hdR hdQ hdK hdO 9000 hdN w) hd_run0 hd_run1 w
end Nw
namespace Nw
open PySem L2 PySem.Spec PyProof.Rows RZ
section
variable {P : Program} {w : World} {K : PySem.W.Frag} {mg : Str → Option Value} {base : Heap}
theorem isInteger {f : Addr} {fd : FuncData} (F : C8.Def K mg "is_integer" s_is_integer f fd) (b : Binds K fd P_is_integer []) (T : Names K mg) : C8.Cal P w K mg base 1 "is_integer" spIsInt [] := by
  refine C8.cal0 (N := N_is_integer) F b .nil sc_is_integer (fun vs H Q E h => ?_) (fun cdv A outer s H vs Q E hr h => ?_)
  · obtain ⟨v, rfl, _⟩ := h
    rfl
  · obtain ⟨v, rfl, hp, k⟩ := h
    refine ⟨_, (pss_one (ps_ret (pe_and (pe_callB call_isi (by rfl) T.n_isinstance (by decide +kernel) (pa_cons (pv 0) (pa_cons (pe_bltn (v := .ty "int") (u := .type "int") (by rfl) T.n_int (by decide +kernel) rfl) pa_nil))) (pe_one (pe_not (pe_callB call_isi (by rfl) T.n_isinstance (by decide +kernel) (pa_cons (pv 0) (pa_cons (pe_bltn (v := .ty "bool") (u := .type "bool") (by rfl) T.n_bool (by decide +kernel) rfl) pa_nil)))))))), ?_⟩
    cases v with
    | non => exact ⟨_, rfl, _, _, _, _, false, rfl, .ty _, .base .non, kit_ty (by decide +kernel), _, rfl, iteF k⟩
    | bl q => exact ⟨_, rfl, _, _, _, _, true, rfl, .ty _, .base (.bl q), kit_ty (by decide +kernel), _, rfl, iteT ⟨_, rfl, _, _, _, _, true, rfl, .ty _, .base (.bl q), kit_ty (by decide +kernel), _, rfl, k⟩⟩
    | int i => exact ⟨_, rfl, _, _, _, _, true, rfl, .ty _, .base (.int i), kit_ty (by decide +kernel), _, rfl, iteT ⟨_, rfl, _, _, _, _, false, rfl, .ty _, .base (.int i), kit_ty (by decide +kernel), _, rfl, k⟩⟩
    | str z => exact ⟨_, rfl, _, _, _, _, false, rfl, .ty _, .base (.str z), kit_ty (by decide +kernel), _, rfl, iteF k⟩
    | ref a =>
      rcases hp with ⟨xs, h⟩ | ⟨xs, h⟩
      · exact ⟨_, rfl, _, _, _, _, false, rfl, .ty _, .base (.lst h), kit_ty (by decide +kernel), _, rfl, iteF k⟩
      · exact ⟨_, rfl, _, _, _, _, false, rfl, .ty _, .base (.tup h), kit_ty (by decide +kernel), _, rfl, iteF k⟩
    | byt q => exact hp.elim
    | flt q => exact hp.elim
    | ty n => exact hp.elim
theorem isTupleOf {f : Addr} {fd : FuncData} (F : C8.Def K mg "is_tuple_of" s_is_tuple_of f fd) (b : Binds K fd P_is_tuple_of []) (T : Names K mg) : C8.Cal P w K mg base 1 "is_tuple_of" spTupOf [] := by
  refine C8.cal0 (N := N_is_tuple_of) F b .nil sc_is_tuple_of (fun vs H Q E h => ?_) (fun cdv A outer s H vs Q E hr h => ?_)
  · obtain ⟨v, n, d, G, rfl, _⟩ := h
    rfl
  · obtain ⟨v, n, d, G, rfl, hd, sG, k⟩ := h
    refine ⟨_, (pss_one (ps_ret (pe_and (pe_callB call_isi (by rfl) T.n_isinstance (by decide +kernel) (pa_cons (pv 0) (pa_cons (pe_bltn (v := .ty "tuple") (u := .type "tuple") (by rfl) T.n_tuple (by decide +kernel) rfl) pa_nil))) (pe_one (pe_cmpR op_eq (pe_callB call_len_seq (by rfl) T.n_len PySem.boot_len (pa_cons (pv 0) pa_nil)) (pv 1) (nomark _)))))), ?_⟩
    cases hd with
    | non => exact ⟨_, rfl, _, _, _, _, false, rfl, .ty _, .base .non, kit_ty (by decide +kernel), _, rfl, iteF k⟩
    | bl q => exact ⟨_, rfl, _, _, _, _, false, rfl, .ty _, .base (.bl q), kit_ty (by decide +kernel), _, rfl, iteF k⟩
    | int i => exact ⟨_, rfl, _, _, _, _, false, rfl, .ty _, .base (.int i), kit_ty (by decide +kernel), _, rfl, iteF k⟩
    | str z => exact ⟨_, rfl, _, _, _, _, false, rfl, .ty _, .base (.str z), kit_ty (by decide +kernel), _, rfl, iteF k⟩
    | lst h da => exact ⟨_, rfl, _, _, _, _, false, rfl, .ty _, .base (.lst (sG _ _ h)), kit_ty (by decide +kernel), _, rfl, iteF k⟩
    | @tup a xs ds h da =>
      refine ⟨_, rfl, _, _, _, _, true, rfl, .ty _, .base (.tup (sG _ _ h)), kit_ty (by decide +kernel), _, rfl, iteT ⟨_, rfl, a, _, rfl, .inr (SqT.of (sG _ _ h)), _, rfl, rfl, ?_⟩⟩
      have e : decide (V.int ((xs.length : Nat) : Int) = V.int n) = tupLen (.tuple ds) n := by
        rw [da.length]
        show _ = decide (((ds.length : Nat) : Int) = n)
        by_cases c : ((ds.length : Nat) : Int) = n
        · rw [c, decide_eq_true rfl, decide_eq_true rfl]
        · rw [decide_eq_false c, decide_eq_false (fun q => c (by injection q))]
      rw [← e] at k
      exact k
theorem isWord_ {f : Addr} {fd : FuncData} (F : C8.Def K mg "is_word" s_is_word f fd) (b : Binds K fd P_is_word []) (T : Names K mg) : C8.Cal P w K mg base 1 "is_word" spWord [] := by
  refine C8.cal0 (N := N_is_word) F b .nil sc_is_word (fun vs H Q E h => ?_) (fun cdv A outer s H vs Q E hr h => ?_)
  · obtain ⟨v, G, rfl, _⟩ := h
    rfl
  · obtain ⟨v, G, rfl, hp, sG, hz, k⟩ := h
    refine ⟨_, (pss_one (ps_ret (pe_and (pe_callB call_isi (by rfl) T.n_isinstance (by decide +kernel) (pa_cons (pv 0) (pa_cons (pe_bltn (v := .ty "str") (u := .type "str") (by rfl) T.n_str (by decide +kernel) rfl) pa_nil))) (pe_and (pe_chain op_le op_le pe_int (pe_callB call_len_str (by rfl) T.n_len PySem.boot_len (pa_cons (pv 0) pa_nil)) pe_int) (pe_one (pe_callB (cr_all rfl) (by rfl) T.n_all (by decide +kernel) (pa_cons (pe_lc (own := [("letter", 1)]) (g := (gName 1)) (tt := tYes) rfl sc_is_word.nd (pi_str (pv 0)) (blkOk_by (own := [("letter", 1)]) (N := N_is_word) (sc := C8.fnScope s_is_word) (by decide +kernel)) (fun _ _ _ _ _ => (pg_name (i := 1) sc_is_word.nd rfl (Or.inl rfl))) (fun _ _ _ _ _ => pts_nil) (fun _ _ _ _ _ => (pe_cmpR op_in_sign (pv 1) (C8.pe_gc rfl T.g_LETTERS) (by rfl)))) pa_nil))))))), ?_⟩
    have k0 := k H (Xt.refl sG)
    cases v with
    | non => exact ⟨_, rfl, _, _, _, _, false, rfl, .ty _, .base .non, kit_ty (by decide +kernel), _, rfl, iteF k0⟩
    | bl q => exact ⟨_, rfl, _, _, _, _, false, rfl, .ty _, .base (.bl q), kit_ty (by decide +kernel), _, rfl, iteF k0⟩
    | int i => exact ⟨_, rfl, _, _, _, _, false, rfl, .ty _, .base (.int i), kit_ty (by decide +kernel), _, rfl, iteF k0⟩
    | ref a =>
      rcases hp with ⟨xs, h⟩ | ⟨xs, h⟩
      · exact ⟨_, rfl, _, _, _, _, false, rfl, .ty _, .base (.lst h), kit_ty (by decide +kernel), _, rfl, iteF k0⟩
      · exact ⟨_, rfl, _, _, _, _, false, rfl, .ty _, .base (.tup h), kit_ty (by decide +kernel), _, rfl, iteF k0⟩
    | byt q => exact hp.elim
    | flt q => exact hp.elim
    | ty n => exact hp.elim
    | str z =>
      have hz' : z.length ≤ 10000 := hz z rfl
      refine ⟨_, rfl, _, _, _, _, true, rfl, .ty _, .base (.str z), kit_ty (by decide +kernel), _, rfl, iteT ?_⟩
      refine ⟨_, rfl, z, rfl, small_line (by omega), _, _, rfl, rfl, _, rfl, ?_⟩
      by_cases c1 : 1 ≤ z.length
      · rw [decide_eq_true (by omega : (1 : Int) ≤ (z.length : Int))]
        refine iteT ⟨_, _, rfl, rfl, _, rfl, ?_⟩
        by_cases c2 : z.length ≤ 8
        · rw [decide_eq_true (by omega : (z.length : Int) ≤ 8)]
          refine iteT ⟨_, rfl, z, rfl, fun Dl hD => ?_⟩
          refine lc_data (b := none) (R := fun _ _ => True) (G := G) walk_str (z.cps.toList.map fun c => .bool (letter c)) (by simp) (by show z.length < 100000; omega) hD sG (fun q => by cases q) trivial (fun _ _ _ _ => trivial) (fun _ _ _ _ _ => trivial) ?_ ?_
          · intro i x H1 G1 H2 d hd X1 _ ⟨e, c, hc, ex⟩ Qy hq
            subst e ex
            have ed : d = .bool (letter c) := by
              rw [List.getElem?_map, Array.getElem?_toList, hc] at hd
              exact (Option.some.inj hd).symm
            subst ed
            exact ⟨rfl, _, rfl, c, LET, rfl, rfl, hq _ _ _ (Xt.refl X1.sub) trivial (.bl _)⟩
          · intro H1 G1 xs X1 _ hl hg da
            have e := DA.bools (ns := z.cps.toList.map letter) (by rw [List.map_map]; exact da)
            refine ⟨Dl, _, rfl, SqL.of (by rw [hl, e]), ?_⟩
            have X2 : Xt none H G H1 G := ⟨X1.sub0, fun _ _ h => h, fun a o h => X1.sub a o (X1.gg a o h), X1.hh, X1.th, fun a o h => .inl h⟩
            have q := k H1 X2
            have e2 : isWord (.str z) = (z.cps.toList.map letter).all id := by
              show (decide (1 ≤ z.length) && decide (z.length ≤ 8) && z.cps.toList.all letter) = _
              rw [decide_eq_true c1, decide_eq_true c2, List.all_map]
              rfl
            rw [e2] at q
            exact q
        · rw [decide_eq_false (by omega : ¬ (z.length : Int) ≤ 8)]
          refine iteF ?_
          have e2 : isWord (.str z) = false := by
            show (decide (1 ≤ z.length) && decide (z.length ≤ 8) && z.cps.toList.all letter) = _
            rw [decide_eq_false c2]; simp
          rw [e2] at k0
          exact k0
      · rw [decide_eq_false (by omega : ¬ (1 : Int) ≤ (z.length : Int))]
        refine iteF ⟨_, rfl, iteF ?_⟩
        have e2 : isWord (.str z) = false := by
          show (decide (1 ≤ z.length) && decide (z.length ≤ 8) && z.cps.toList.all letter) = _
          rw [decide_eq_false c1]; simp
        rw [e2] at k0
        exact k0
theorem isColumn {f : Addr} {fd : FuncData} (F : C8.Def K mg "is_column" s_is_column f fd) (b : Binds K fd P_is_column []) (T : Names K mg) (c_is_word : C8.Cal P w K mg base 1 "is_word" spWord []) (c_is_integer : C8.Cal P w K mg base 1 "is_integer" spIsInt []) (c_is_tuple_of : C8.Cal P w K mg base 1 "is_tuple_of" spTupOf []) : C8.Cal P w K mg base 2 "is_column" spCol [] := by
  refine C8.cal0 (N := N_is_column) F b .nil sc_is_column (fun vs H Q E h => ?_) (fun cdv A outer s H vs Q E hr h => ?_)
  · obtain ⟨v, d, G, rfl, _⟩ := h
    rfl
  · obtain ⟨v, d, G, rfl, hd, hsh, sG, k⟩ := h
    obtain ⟨ra, ru, rs⟩ := T.g_RESERVED
    have T_ := T
    have g_RESERVED := ru
    refine ⟨_, (pss_cons (ps_if (pt_not (pt_val (C8.pe_c c_is_tuple_of hr (by decide) rfl (pa_cons (pv 0) (pa_cons pe_int pa_nil))))) (pss_one (ps_ret pe_bl)) pss_nil)
 (pss_cons (ps_asg (pv 0) (pg_tup rfl (pgs_cons (pg_name (i := 1) sc_is_column.nd rfl (Or.inl rfl)) (pgs_cons (pg_name (i := 2) sc_is_column.nd rfl (Or.inl rfl)) pgs_nil))))
 (pss_one (ps_ret (pe_and (C8.pe_c c_is_word hr (by decide) rfl (pa_cons (pv 1) pa_nil)) (pe_and (pe_cmpR op_notIn_seq (pv 1) (C8.pe_gc rfl g_RESERVED) (by rfl)) (pe_and (C8.pe_c c_is_integer hr (by decide) rfl (pa_cons (pv 2) pa_nil)) (pe_one (pe_chain op_le op_le pe_int (pv 2) pe_int))))))))), ?_⟩
    have k0 := k H (Xt.refl sG)
    refine ⟨_, rfl, v, 2, d, G, rfl, hd, sG, _, rfl, ?_⟩
    cases hd with
    | non => exact k0
    | bl q => exact k0
    | int i => exact k0
    | str z => exact k0
    | lst h da => exact k0
    | @tup a xs ds h da =>
      have hT := sG _ _ h
      by_cases c2 : ds.length = 2
      · have e2 : tupLen (.tuple ds) 2 = true := by
          show decide _ = true
          rw [c2]; rfl
        rw [e2]
        refine iteF ?_
        match ds, xs, da, c2 with
        | [d1, d2], [x1, x2], .cons h1 (.cons h2 .nil), _ =>
          refine ⟨_, rfl, a, _, rfl, SqT.of hT, rfl, _, _, rfl, _, _, rfl, rfl, ?_⟩
          have short : ∀ z, x1 = .str z → z.length ≤ 10000 := fun z e => by
            subst e; cases h1; exact hsh
          refine ⟨_, rfl, x1, G, rfl, h1.plain sG, sG, short, fun H1 X1 => ⟨_, rfl, ?_⟩⟩
          have k1 := k H1 X1
          cases hw : isWord x1 with
          | false =>
            refine iteF ?_
            have e3 : isCol (.tuple [d1, d2]) = false := by
              cases h1 with
              | str z =>
                have : isWordS z = false := hw
                cases d2 <;> simp [isCol, this]
              | _ => rfl
            rw [e3] at k1
            exact k1
          | true =>
            cases h1 with
            | str z =>
              have hw' : isWordS z = true := hw
              refine iteT ⟨_, rfl, ra, _, rfl, .inr (rs H1), rfl, (by decide +kernel), _, rfl, ?_⟩
              rw [inV_strs]
              by_cases hr : z ∈ RES
              · rw [decide_eq_true hr]
                refine iteF ?_
                have e3 : isCol (.tuple [.str z, d2]) = false := by cases d2 <;> simp [isCol, hr]
                rw [e3] at k1
                exact k1
              · rw [decide_eq_false hr]
                refine iteT ⟨_, rfl, x2, rfl, (h2.plain X1.sub), _, rfl, ?_⟩
                cases h2 with
                | int i =>
                  refine iteT ⟨_, rfl, _, _, rfl, rfl, _, rfl, ?_⟩
                  have e3 : isCol (.tuple [.str z, .int i]) = (decide (1 ≤ i) && decide (i ≤ 3)) := by simp [isCol, hw', hr]
                  rw [e3] at k1
                  refine ite2 (fun c3 => ?_) (fun c3 => ?_)
                  · rw [decide_eq_true (of_decide_eq_true c3)] at k1
                    exact ⟨_, _, rfl, rfl, k1⟩
                  · rw [decide_eq_false (fun q => c3 (decide_eq_true q))] at k1
                    exact k1
                | _ =>
                  refine iteF ?_
                  exact k1
            | non => cases hw
            | bl q => cases hw
            | int i => cases hw
            | lst _ _ => cases hw
            | tup _ _ => cases hw
      · have e2 : tupLen (.tuple ds) 2 = false := decide_eq_false (fun q => c2 (by omega))
        rw [e2]
        refine iteT ?_
        have e3 : isCol (.tuple ds) = false := by
          match ds, c2 with
          | [], _ => rfl
          | [.str _], _ => rfl
          | [.none], _ => rfl
          | [.bool _], _ => rfl
          | [.int _], _ => rfl
          | [.list _], _ => rfl
          | [.tuple _], _ => rfl
          | [.dict _], _ => rfl
          | _ :: _ :: _ :: _, _ => simp [isCol]
          | [_, _], c2 => exact absurd rfl c2
        rw [e3] at k0
        exact k0
end
end Nw
namespace Nw
open PySem L2 PySem.Spec PyProof.Rows RZ
theorem isCol_good {c : Col} (h : c.1 ∈ n11) (h1 : 1 ≤ c.2 ∧ c.2 ≤ 3) : isCol (dCol c) = true ∧ shortD (dCol c) := by
  obtain ⟨w1, w2, w3⟩ := n11_word c.1 h
  refine ⟨?_, w3⟩
  show (isWordS c.1 && !decide (c.1 ∈ RES) && decide (1 ≤ c.2) && decide (c.2 ≤ 3)) = true
  rw [w1, decide_eq_false w2, decide_eq_true h1.1, decide_eq_true h1.2]
  rfl
theorem col_inv {G : Hp} {y : V} {c : Col} (h : D G y (dCol c)) : ∃ t, y = .ref t ∧ G t = some (.tup [.str c.1, .int c.2]) := by
  obtain ⟨t, ws, rfl, ht, da⟩ := h.tup_inv
  cases da with
  | cons h1 da =>
    cases da with
    | cons h2 da =>
      cases da
      cases h1
      cases h2
      exact ⟨t, rfl, ht⟩
theorem cols_at {G : Hp} {xs : List V} {cols : List Col} {i : Nat} {y : V} (da : DA G xs (dCols cols)) (h : xs[i]? = some y) : ∃ c t, cols[i]? = some c ∧ y = .ref t ∧ G t = some (.tup [.str c.1, .int c.2]) := by
  obtain ⟨d, h1, h2⟩ := da.get h
  rw [dCols, List.getElem?_map] at h1
  cases e : cols[i]? with
  | none => rw [e] at h1; cases h1
  | some c =>
    rw [e] at h1
    obtain rfl := Option.some.inj h1
    obtain ⟨t, h3, h4⟩ := col_inv h2
    exact ⟨c, t, rfl, h3, h4⟩
theorem flat_strs (l : List Str) : (l.map V.str).all flatV = true := by
  rw [List.all_map]
  exact List.all_eq_true.mpr fun _ _ => rfl
/-- G alone goes back to a smaller part -/
theorem Xt.back {b : Option Addr} {H G H1 G1 : Hp} (x : Xt b H G H1 G1) : Xt b H G H1 G := ⟨x.sub0, fun _ _ h => h, fun a o h => x.sub a o (x.gg a o h), x.hh, x.th, fun a o h => .inl h⟩
theorem nodup_new {α : Type} : ∀ {l : List α} {i : Nat} {x : α}, l.Nodup → l[i]? = some x → x ∉ l.take i
  | [], i, x, _, e => by simp at e
  | a :: l, 0, x, _, _ => by simp
  | a :: l, i + 1, x, h, e => by
    have h2 := List.nodup_cons.mp h
    have e2 : l[i]? = some x := by simpa using e
    have ih := nodup_new h2.2 e2
    intro q
    rw [List.take_succ_cons] at q
    rcases List.mem_cons.mp q with q | q
    · subst q; exact h2.1 (List.mem_of_getElem? e2)
    · exact ih q
end Nw
namespace Nw
open PySem L2 PySem.Spec PyProof.Rows RZ
/-- what the top leaves of the class Table -/
structure TabC (K : PySem.W.Frag) (mg : Str → Option Value) (C : Addr) : Prop where
  cl : Cls K C
  nC : NoAttr K C "columns"
  nT : NoAttr K C "tops"
section
variable {P : Program} {w : World} {K : PySem.W.Frag} {mg : Str → Option Value} {base : Heap}
theorem tInit {f C : Addr} {fd : FuncData} (F : C8.Fun K "__init__" "Table.__init__" s_Table____init__ f fd) (b : Binds K fd P_Table____init__ []) (M : Mk K C f) (hm : mg "Table" = some (.ref C)) (T : Names K mg) (TC : TabC K mg C) (c_is_column : C8.Cal P w K mg base 2 "is_column" spCol []) : C8.Mak P w K mg base 3 "Table" C (spInit C) [] := by
  refine C8.mak0 (N := N_Table____init__) M hm F b .nil sc_Table____init__ (fun vs H Q E h => ?_) (fun cdv A outer s H vs Q E hr h => ?_)
  · obtain ⟨x, dx, a, xs, cols, H0, G, rfl, _⟩ := h
    rfl
  · obtain ⟨x, dx, a, xs, cols, H0, G, rfl, nx, ndx, nex, hH, ha, da, good, sG, k⟩ := h
    have hu := hu_of hr
    refine ⟨_, (pss_cons (ps_if (pt_not (pt_chain op_le op_le pe_int (pe_callB call_len_seq (by rfl) T.n_len PySem.boot_len (pa_cons (pv 1) pa_nil)) pe_int)) (pss_one ps_never) pss_nil)
 (pss_cons (ps_set (i := 2) sc_Table____init__.nd rfl (Or.inl rfl) (pe_lst pa_nil))
 (pss_cons (ps_for PassesOwn.never rfl (pi_enum (by rfl) T.n_enumerate (pa_cons (pv 1) pa_nil)) (pg_tup rfl (pgs_cons (pg_name (i := 3) sc_Table____init__.nd rfl (Or.inl rfl)) (pgs_cons (pg_name (i := 4) sc_Table____init__.nd rfl (Or.inl rfl)) pgs_nil))) (pss_cons (ps_if (PW.pt (pw_or (pt_not (pt_val (C8.pe_c c_is_column hr (by decide) rfl (pa_cons (pv 4) pa_nil)))) (pw_or1 (pt_cmpR op_in_seq (pe_ix ix_tup (pv 4) pe_int (fun _ _ => rfl)) (pv 2) (by rfl))))) (pss_one ps_never) pss_nil)
 (pss_one (ps_expr (pe_bm PySem.F.plainAttrs_list PySem.F.slot_list_append PySem.F.type_list_append mt_append (pv 2) (pa_cons (pe_ix ix_tup (pv 4) pe_int (fun _ _ => rfl)) pa_nil))))))
 (pss_cons (ps_fld (pv 0) (pe_callTy call_tuple_of (by rfl) T.n_tuple (by decide +kernel) (pa_cons (pv 2) pa_nil)) rfl)
 (pss_one (ps_fld (pv 0) (pe_callTy call_tuple_of (by rfl) T.n_tuple (by decide +kernel) (pa_cons (pe_lc (own := [("_", 5), ("top", 6)]) (g := (gTup K 2 (gCons (gName 5) (gCons (gName 6) gNil)))) (tt := tYes) rfl sc_Table____init__.nd (pi_list (pv 1)) (blkOk_by (own := [("_", 5), ("top", 6)]) (N := N_Table____init__) (sc := C8.fnScope s_Table____init__) (by decide +kernel)) (fun _ _ _ _ _ => (pg_tup rfl (pgs_cons (pg_name (i := 5) sc_Table____init__.nd rfl (Or.inl rfl)) (pgs_cons (pg_name (i := 6) sc_Table____init__.nd rfl (Or.inl rfl)) pgs_nil)))) (fun _ _ _ _ _ => pts_nil) (fun _ _ _ _ _ => (pv 6))) pa_nil)) rfl)))))), ?_⟩
    have hdx0 : upd H0 dx (.own x) x = none := by rw [upd_ne nex.symm]; exact nx
    have X0 : Xt none H0 G H G := by rw [hH]; exact (Xt.tmp sG ndx).allocT hdx0
    have hX : H x = some (.ins C dx []) := by rw [hH]; exact upd_same
    have hDX : H dx = some (.own x) := by rw [hH, upd_ne nex]; exact upd_same
    have hA := X0.hh a _ (fun q => by cases q) ha
    have gx : G x = none := sG.free nx
    have gdx : G dx = none := sG.free ndx
    have hl : xs.length = cols.length := by rw [da.length, dCols, List.length_map]
    have hl1 := good.len.1
    have hl3 := good.len.2
    clear hH
    refine ⟨_, rfl, a, _, rfl, .inl (SqL.of hA), _, _, rfl, rfl, _, rfl, ?_⟩
    rw [decide_eq_true (by omega : (1 : Int) ≤ ((xs.length : Nat) : Int))]
    refine iteT ⟨_, _, rfl, rfl, _, rfl, ?_⟩
    rw [decide_eq_true (by omega : ((xs.length : Nat) : Int) ≤ 3)]
    refine iteF ⟨Nat.zero_le _, fun nl hnl => ?_⟩
    have X1 := X0.allocT (o := .lst []) hnl
    have nl0 := X0.fresh hnl
    have n1 : x ≠ nl := fun q => by subst q; rw [hX] at hnl; cases hnl
    have n2 : dx ≠ nl := fun q => by subst q; rw [hDX] at hnl; cases hnl
    have n3 : a ≠ nl := fun q => by subst q; rw [hA] at hnl; cases hnl
    refine ⟨_, rfl, a, xs, rfl, SqL.of (by rw [upd_ne n3]; exact hA), for_it (walk_enum (xs := xs)) (fun i σ' H' => ∃ (G' : Hp) (v3 v4 : Option V), σ' = [some (.ref x), some (.ref a), some (.ref nl), v3, v4, none, none] ∧ Xt none H0 G H' G' ∧
      H' nl = some (.lst (((cols.map (·.1)).take i).map V.str)) ∧ H' x = some (.ins C dx []) ∧ H' dx = some (.own x) ∧ H' a = some (.lst xs) ∧ G' nl = none ∧ G' x = none ∧ G' dx = none ∧ DA G' xs (dCols cols)) ?_ ?_ ?_ ?_⟩
    · exact ⟨G, none, none, rfl, X1, upd_same, by rw [upd_ne n1]; exact hX, by rw [upd_ne n2]; exact hDX, by rw [upd_ne n3]; exact hA, X0.sub.free hnl, gx, gdx, da⟩
    · rintro i σ' H' hi ⟨G', v3, v4, rfl, X, h1, h2, h3, h4, _⟩
      exact SqL.of h4
    · rintro i y σ' H1 H2 hi ⟨G', v3, v4, rfl, X, h1, h2, h3, h4, g1, g2, g3, da'⟩ ⟨T_, u1, u2, rfl, hT, rfl, e1, e2⟩
      obtain ⟨c, t, hc, rfl, ht⟩ := cols_at da' e2
      obtain rfl := Option.some.inj e1
      have hcm : c ∈ cols := List.mem_of_getElem? hc
      obtain ⟨q1, q2⟩ := isCol_good (good.names c hcm) (good.tops c hcm)
      have X2 := X.allocT (o := .tup [.int ((i : Nat) : Int), .ref t]) hT
      have hn1 : c.1 ∉ (cols.map (·.1)).take i := nodup_new good.nd (by rw [List.getElem?_map, hc]; rfl)
      refine ⟨T_, _, rfl, SqT.of upd_same, rfl, _, _, rfl, _, _, rfl, rfl, ?_⟩
      refine ⟨_, rfl, .ref t, dCol c, G', rfl, .tup ht (.cons (.str _) (.cons (.int _) .nil)), q2, X2.sub, fun H3 X3 => ⟨_, rfl, ?_⟩⟩
      rw [q1]
      have k3 : ∀ b o, H1 b = some o → H3 b = some o := fun b o e => X3.hh b o (fun q => by cases q) (upd_same_ hT b o e)
      refine iteF ⟨_, rfl, t, _, _, _, rfl, rfl, SqT.of (X3.sub _ _ ht), rfl, _, rfl, nl, _, rfl, .inl (SqL.of (k3 _ _ h1)), rfl, flat_strs _, _, rfl, ?_⟩
      rw [inV_strs, decide_eq_false hn1]
      refine iteF ⟨_, rfl, .inl ⟨rfl, _, SqL.of (k3 _ _ h1)⟩, _, rfl, t, _, _, _, rfl, rfl, SqT.of (X3.sub _ _ ht), rfl, nl, _, _, rfl, rfl, k3 _ _ h1, small_lt (by rw [List.length_map, List.length_take, List.length_map]; omega), ?_⟩
      refine ⟨G', _, _, rfl, (X2.trans X3).set nl0 g1, ?_, by rw [upd_ne n1]; exact k3 _ _ h2, by rw [upd_ne n2]; exact k3 _ _ h3, by rw [upd_ne n3]; exact k3 _ _ h4, g1, g2, g3, da'⟩
      rw [upd_same, take_succ_of (x := c.1) (by rw [List.getElem?_map, hc]; rfl), List.map_append]
      rfl
    · rintro σ' H1 ⟨G', v3, v4, rfl, X, h1, h2, h3, h4, g1, g2, g3, da'⟩
      rw [show (cols.map (·.1)).take xs.length = cols.map (·.1) from List.take_of_length_le (by rw [List.length_map]; omega)] at h1
      refine ⟨_, rfl, nl, _, rfl, .inl ⟨SqL.of h1, fun cx hcx => ?_⟩⟩
      have m1 : x ≠ cx := fun q => by subst q; rw [h2] at hcx; cases hcx
      have m2 : dx ≠ cx := fun q => by subst q; rw [h3] at hcx; cases hcx
      have m3 : a ≠ cx := fun q => by subst q; rw [h4] at hcx; cases hcx
      have X2 := X.alloc (o := .tup ((cols.map (·.1)).map V.str)) hcx
      have g2' := none_of_ne (o := HO.tup ((cols.map (·.1)).map V.str)) g2 m1
      have g3' := none_of_ne (o := HO.tup ((cols.map (·.1)).map V.str)) g3 m2
      refine ⟨_, rfl, x, C, dx, _, rfl, by rw [upd_ne m1]; exact h2, TC.cl, TC.nC, (by show 0 < 1000; decide), ?_⟩
      have X3 := X2.set (o := .ins C dx (putF "columns" (.ref cx) [])) nx g2'
      have s3 : Same G' (upd G' cx (.tup ((cols.map (·.1)).map V.str))) := upd_same_ (X.sub.free hcx)
      have hA3 : (upd (upd H1 cx (.tup ((cols.map (·.1)).map V.str))) x (.ins C dx (putF "columns" (.ref cx) []))) a = some (.lst xs) := by
        have : a ≠ x := fun q => by subst q; rw [h2] at h4; cases h4
        rw [upd_ne this, upd_ne m3]; exact h4
      have hDX3 : (upd (upd H1 cx (.tup ((cols.map (·.1)).map V.str))) x (.ins C dx (putF "columns" (.ref cx) []))) dx = some (.own x) := by
        rw [upd_ne nex, upd_ne m2]; exact h3
      refine ⟨_, rfl, a, rfl, ⟨_, SqL.of hA3⟩, fun Dl hD => ?_⟩
      refine lc_data (b := none) (R := fun _ _ => True) (walk_list (xs := xs)) (cols.map fun c => .int c.2) (by rw [List.length_map, hl]) (by omega) hD X3.sub (fun q => by cases q) trivial (fun _ _ _ _ => trivial) (fun i H4 G4 X4 _ => SqL.of (X4.hh _ _ (fun q => by cases q) hA3)) ?_ ?_
      · rintro i y H4 G4 H5 d hd X4 _ ⟨rfl, hy⟩ Qy hq
        obtain ⟨c, t, hc, rfl, ht⟩ := cols_at (da'.mono s3) hy
        rw [List.getElem?_map, hc] at hd
        obtain rfl := Option.some.inj hd
        exact ⟨t, _, rfl, SqT.of (X4.sub _ _ (X4.gg _ _ ht)), rfl, _, _, rfl, _, _, rfl, rfl, rfl, _, rfl, hq _ _ _ (Xt.refl X4.sub) trivial (.int _)⟩
      · intro H4 G4 ys X4 _ hl4 hg4 da4
        have e4 := DA.ints (ns := cols.map (·.2)) (by rw [List.map_map]; exact da4)
        refine ⟨Dl, _, rfl, .inl ⟨SqL.of hl4, fun tx htx => ?_⟩⟩
        have hX4 := X4.hh x _ (fun q => by cases q) (upd_same)
        have hDX4 := X4.hh dx _ (fun q => by cases q) hDX3
        have m4 : x ≠ tx := fun q => by subst q; rw [hX4] at htx; cases htx
        have m5 : dx ≠ tx := fun q => by subst q; rw [hDX4] at htx; cases htx
        refine ⟨_, rfl, x, C, dx, _, rfl, by rw [upd_ne m4]; exact hX4, TC.cl, TC.nT, (by show 1 < 1000; decide), ?_⟩
        have gx4 := X4.non (ne_none_of (upd_same)) g2'
        have gd4 := X4.non (ne_none_of hDX3) g3'
        have X5 := (X3.trans X4).alloc (o := .tup ys) htx
        have X6 := X5.set (o := .ins C dx (putF "tops" (.ref tx) (putF "columns" (.ref cx) []))) nx (none_of_ne gx4 m4)
        rw [tf_put] at X6 ⊢
        have X7 := X6.fix nx upd_same
        have X8 := X7.fix (l := dx) (o := .own x) ndx (by rw [upd_ne nex, upd_ne m5]; exact hDX4)
        refine k _ _ X8 ⟨dx, cx, tx, by rw [upd_ne nex.symm, upd_same], upd_same, ?_, ?_⟩
        · have hc4 := X4.gg cx _ upd_same
          rw [upd_ne m2.symm, upd_ne m1.symm, upd_ne (ne_of_none (X4.sub _ _ hc4) htx), hc4, List.map_map]; rfl
        · rw [upd_ne m5.symm, upd_ne m4.symm, upd_same, e4, List.map_map]; rfl
end
end Nw
namespace Nw
open PySem L2 PySem.Spec PyProof.Rows RZ
def spAllValues (C : Addr) : Sp := fun vs H Q _ => ∃ (x : Addr) (cols : List Col) (G : Hp), vs = [.ref x] ∧ TabAt C G x cols ∧ Good n11 cols ∧ Same G H ∧ OwnL H G (dRows (allV (cols.map (·.2)))) Q
def spLenT (C : Addr) : Sp := fun vs H Q _ => ∃ (x : Addr) (cols : List Col) (G : Hp), vs = [.ref x] ∧ TabAt C G x cols ∧ Same G H ∧ Q (.int ((cols.length : Nat) : Int)) H
/-- is it values of these tops -/
def isIn : List Int → List PyData → Bool
  | [], [] => true
  | t :: ts, .int v :: vs => decide (0 ≤ v) && decide (v ≤ t) && isIn ts vs
  | _, _ => false
def inTab (tops : List Int) : PyData → Bool
  | .tuple vs => isIn tops vs
  | _ => false
def spIn (C : Addr) : Sp := fun vs H Q _ => ∃ (x : Addr) (cols : List Col) (v : V) (d : PyData) (G : Hp), vs = [.ref x, v] ∧ TabAt C G x cols ∧ Good n11 cols ∧ D G v d ∧ Same G H ∧ ∀ H', Xt none H G H' G → Q (.bl (inTab (cols.map (·.2)) d)) H'
/-- == of tables: another thing, or a table -/
inductive Other (C : Addr) (G : Hp) : V → Option (List Col) → Prop
  | data {v : V} {d : PyData} : D G v d → Other C G v none
  | tab {y : Addr} {cols : List Col} : TabAt C G y cols → Good n11 cols → Other C G (.ref y) (some cols)
def spEq_ (C : Addr) : Sp := fun vs H Q _ => ∃ (x : Addr) (cols : List Col) (v : V) (o : Option (List Col)) (G : Hp), vs = [.ref x, v] ∧ TabAt C G x cols ∧ Good n11 cols ∧ Other C G v o ∧ Same G H ∧ Q (.bl (decide (o = some cols))) H
/-- the text of a table -/
def colText (c : Col) : Str := Str.empty ++ c.1 ++ "=" ++ toString c.2
def tabText (cols : List Col) : Str := Str.empty ++ "Table(" ++ Txt.join ", " (cols.map colText) ++ ")"
def spRepr (C : Addr) : Sp := fun vs H Q _ => ∃ (x : Addr) (cols : List Col) (G : Hp), vs = [.ref x] ∧ TabAt C G x cols ∧ Good n11 cols ∧ Same G H ∧ ∀ H', Xt none H G H' G → Q (.str (tabText cols)) H'
theorem stepV_len {found : List (List Int)} {t : Int} (h : 1 ≤ t ∧ t ≤ 3) : (stepV found t).length ≤ 4 * found.length := by
  unfold stepV
  induction found with
  | nil => simp
  | cons a l ih =>
    rw [List.map_cons, List.flatten_cons, List.length_append, List.length_map, List.length_range, List.length_cons]
    omega
theorem allV_len : ∀ {tops : List Int} {found : List (List Int)}, (∀ t ∈ tops, 1 ≤ t ∧ t ≤ 3) → (tops.foldl stepV found).length ≤ 4 ^ tops.length * found.length
  | [], found, _ => by simp
  | t :: ts, found, h => by
    have ih := allV_len (tops := ts) (found := stepV found t) fun x hx => h x (List.mem_cons_of_mem _ hx)
    have h1 := stepV_len (found := found) (h t List.mem_cons_self)
    rw [List.foldl_cons, List.length_cons]
    calc _ ≤ 4 ^ ts.length * (stepV found t).length := ih
      _ ≤ 4 ^ ts.length * (4 * found.length) := Nat.mul_le_mul_left _ h1
      _ = 4 ^ (ts.length + 1) * found.length := by rw [Nat.pow_succ, Nat.mul_assoc]
theorem allV_small {tops : List Int} {i : Nat} (hl : tops.length ≤ 3) (h : ∀ t ∈ tops, 1 ≤ t ∧ t ≤ 3) : (allV (tops.take i)).length ≤ 64 := by
  have := allV_len (tops := tops.take i) (found := [[]]) fun t ht => h t (List.mem_of_mem_take ht)
  have l : (tops.take i).length ≤ 3 := by rw [List.length_take]; omega
  have p : 4 ^ (tops.take i).length ≤ 4 ^ 3 := Nat.pow_le_pow_right (by decide) l
  unfold allV
  simp at this
  have e : (4 : Nat) ^ 3 = 64 := by decide
  simp at p
  omega
theorem allV_succ {tops : List Int} {i : Nat} {t : Int} (h : tops[i]? = some t) : allV (tops.take (i + 1)) = stepV (allV (tops.take i)) t := by
  unfold allV
  rw [take_succ_of h, List.foldl_append]
  rfl
theorem D.row {G : Hp} {v : V} {r : List Int} (h : D G v (dRow r)) : ∃ t, v = .ref t ∧ G t = some (.tup (r.map V.int)) := by
  obtain ⟨t, ws, rfl, ht, da⟩ := h.tup_inv
  exact ⟨t, rfl, by rw [ht, da.ints]⟩
theorem D.ofRow {G : Hp} {t : Addr} {r : List Int} (h : G t = some (.tup (r.map V.int))) : D G (.ref t) (dRow r) := .tup h (DA.ofInts r)
theorem rows_at {G : Hp} {xs : List V} {rs : List (List Int)} {i : Nat} {y : V} (da : DA G xs (dRows rs)) (h : xs[i]? = some y) : ∃ r t, rs[i]? = some r ∧ y = .ref t ∧ G t = some (.tup (r.map V.int)) := by
  obtain ⟨d, h1, h2⟩ := da.get h
  rw [dRows, List.getElem?_map] at h1
  cases e : rs[i]? with
  | none => rw [e] at h1; cases h1
  | some r =>
    rw [e] at h1
    obtain rfl := Option.some.inj h1
    obtain ⟨t, h3, h4⟩ := h2.row
    exact ⟨r, t, rfl, h3, h4⟩
theorem dRows_step (found : List (List Int)) (t : Int) : (found.map fun row => ((List.range (t + 1).toNat).map fun v => dRow (row ++ [((v : Nat) : Int)]))).flatten = dRows (stepV found t) := by
  unfold dRows stepV
  rw [List.map_flatten, List.map_map]
  congr 1
  refine List.map_congr_left fun r _ => ?_
  show _ = List.map dRow _
  rw [List.map_map]
  rfl
theorem stepV_mem {found : List (List Int)} {t : Int} {r : List Int} (h : r ∈ stepV found t) : ∃ q v, q ∈ found ∧ r = q ++ [v] ∧ 0 ≤ v ∧ v ≤ t := by
  unfold stepV at h
  obtain ⟨l, hl, hr⟩ := List.mem_flatten.mp h
  obtain ⟨q, hq, rfl⟩ := List.mem_map.mp hl
  obtain ⟨v, hv, rfl⟩ := List.mem_map.mp hr
  have := List.mem_range.mp hv
  exact ⟨q, _, hq, rfl, by omega, by omega⟩
theorem allV_row : ∀ {tops : List Int} {found : List (List Int)} {n : Nat}, (∀ r ∈ found, r.length = n) → ∀ r ∈ tops.foldl stepV found, r.length = n + tops.length
  | [], found, n, h, r, hr => h r hr
  | t :: ts, found, n, h, r, hr => by
    have := allV_row (tops := ts) (found := stepV found t) (n := n + 1) (fun r hr => by
      obtain ⟨q, v, hq, rfl, _⟩ := stepV_mem hr
      rw [List.length_append, h q hq]; rfl) r hr
    rw [this, List.length_cons]; omega
def isOne : Int → PyData → Bool
  | t, .int v => decide (0 ≤ v) && decide (v ≤ t)
  | _, _ => false
theorem isIn_zip : ∀ (ts : List Int) (ds : List PyData), ts.length = ds.length → (List.zipWith isOne ts ds).all id = isIn ts ds
  | [], [], _ => rfl
  | [], _ :: _, h => by cases h
  | _ :: _, [], h => by cases h
  | t :: ts, d :: ds, h => by
    have ih := isIn_zip ts ds (by simpa using h)
    rw [List.zipWith_cons_cons, List.all_cons, ih]
    cases d <;> simp [isIn, isOne]
/-! ### == of data -/
theorem layAll_map {α : Type} (f : α → PyData) (n : Nat) : ∀ (l : List α), (∀ a ∈ l, (f a).canLay0 = true ∧ (f a).depth ≤ n) → PyData.canLayAll0 (l.map f) = true ∧ PyData.depthAll (l.map f) ≤ n
  | [], _ => ⟨rfl, Nat.zero_le _⟩
  | a :: l, h => by
    have ih := layAll_map f n l fun x hx => h x (List.mem_cons_of_mem _ hx)
    have h1 := h a List.mem_cons_self
    rw [List.map_cons]
    refine ⟨?_, ?_⟩
    · show ((f a).canLay0 && PyData.canLayAll0 (l.map f)) = true
      rw [h1.1, ih.1]; rfl
    · show max (f a).depth (PyData.depthAll (l.map f)) ≤ n
      exact Nat.max_le.mpr ⟨h1.2, ih.2⟩
theorem shaped_tup {ds : List PyData} (h : PyData.canLayAll0 ds = true ∧ PyData.depthAll ds ≤ 63) : SeqAt.shaped (.tuple ds) = true := by
  show ((PyData.tuple ds).canLay0 && decide ((PyData.tuple ds).depth ≤ 64)) = true
  have h1 : (PyData.tuple ds).canLay0 = true := h.1
  have h2 : (PyData.tuple ds).depth ≤ 64 := by show PyData.depthAll ds + 1 ≤ 64; omega
  rw [h1, decide_eq_true h2]; rfl
theorem shaped_lst {ds : List PyData} (h : PyData.canLayAll0 ds = true ∧ PyData.depthAll ds ≤ 63) : SeqAt.shaped (.list ds) = true := by
  show ((PyData.list ds).canLay0 && decide ((PyData.list ds).depth ≤ 64)) = true
  have h1 : (PyData.list ds).canLay0 = true := h.1
  have h2 : (PyData.list ds).depth ≤ 64 := by show PyData.depthAll ds + 1 ≤ 64; omega
  rw [h1, decide_eq_true h2]; rfl
theorem eqvAll_map {α : Type} [DecidableEq α] (f : α → PyData) (hf : ∀ a b, PyData.eqv (f a) (f b) = decide (a = b)) : ∀ (l m : List α), PyData.eqvAll (l.map f) (m.map f) = decide (l = m)
  | [], [] => by simp [PyData.eqvAll]
  | [], b :: m => by simp [PyData.eqvAll]
  | a :: l, [] => by simp [PyData.eqvAll]
  | a :: l, b :: m => by
    rw [List.map_cons, List.map_cons]
    show (PyData.eqv (f a) (f b) && PyData.eqvAll (l.map f) (m.map f)) = _
    rw [hf, eqvAll_map f hf l m]
    by_cases h1 : a = b
    · by_cases h2 : l = m
      · simp [h1, h2]
      · simp [h1, h2]
    · simp [h1]
theorem eqv_strs (l m : List Str) : PyData.eqv (.tuple (l.map .str)) (.tuple (m.map .str)) = decide (l = m) := by
  refine eqvAll_map PyData.str (fun a b => ?_) l m
  show (a == b) = decide (a = b)
  by_cases h : a = b
  · subst h; simp
  · rw [decide_eq_false h]; simpa using h
theorem eqv_ints_ (l m : List Int) : PyData.eqvAll (l.map .int) (m.map .int) = decide (l = m) := by
  refine eqvAll_map PyData.int (fun a b => ?_) l m
  show (a == b) = decide (a = b)
  by_cases h : a = b
  · subst h; simp
  · rw [decide_eq_false h]; simpa using h
theorem eqv_ints (l m : List Int) : PyData.eqv (.tuple (l.map .int)) (.tuple (m.map .int)) = decide (l = m) := eqv_ints_ l m
theorem eqv_rows (l m : List (List Int)) : PyData.eqv (.list (dRows l)) (.list (dRows m)) = decide (l = m) := eqvAll_map dRow (fun a b => eqv_ints a b) l m
theorem n11_ok : ∀ n ∈ n11, (PyData.str n).canLay0 = true := by decide +kernel
theorem sh_names {cols : List Col} (h : ∀ c ∈ cols, c.1 ∈ n11) : SeqAt.shaped (.tuple ((cols.map (·.1)).map .str)) = true :=
  shaped_tup (layAll_map _ 63 _ fun a ha => by
    obtain ⟨c, hc, rfl⟩ := List.mem_map.mp ha
    exact ⟨n11_ok _ (h c hc), Nat.zero_le _⟩)
theorem sh_ints (l : List Int) : SeqAt.shaped (.tuple (l.map .int)) = true := shaped_tup (layAll_map _ 63 _ fun a _ => ⟨rfl, Nat.zero_le _⟩)
theorem sh_rows (l : List (List Int)) : SeqAt.shaped (.list (dRows l)) = true := shaped_lst (layAll_map _ 63 _ fun r _ => by
  have h := layAll_map PyData.int 0 r fun a _ => ⟨rfl, Nat.zero_le _⟩
  refine ⟨h.1, ?_⟩
  show PyData.depthAll (r.map .int) + 1 ≤ 63
  omega)
theorem cols_ext : ∀ {l m : List Col}, l.map (·.1) = m.map (·.1) → l.map (·.2) = m.map (·.2) → l = m
  | [], [], _, _ => rfl
  | [], _ :: _, h, _ => by cases h
  | _ :: _, [], h, _ => by cases h
  | (a, b) :: l, (c, d) :: m, h1, h2 => by
    simp only [List.map_cons, List.cons.injEq] at h1 h2
    rw [h1.1, h2.1, cols_ext h1.2 h2.2]
/-! ### texts -/
theorem tops3 {t : Int} (h : 1 ≤ t ∧ t ≤ 3) : t = 1 ∨ t = 2 ∨ t = 3 := by omega
theorem colText_len : ∀ n ∈ n11, ∀ t ∈ ([1, 2, 3] : List Int), (Str.empty ++ n).length ≤ 10 ∧ (Str.empty ++ n ++ "=").length ≤ 10 ∧ (colText (n, t)).length ≤ 10 ∧ ((toString t : String) : Str).length ≤ 10 ∧ t.natAbs.log2 < 1920 ∧ n.length ≤ 10 := by decide +kernel
theorem colText_ok {c : Col} (h : c.1 ∈ n11) (ht : 1 ≤ c.2 ∧ c.2 ≤ 3) : (Str.empty ++ c.1).length ≤ 10 ∧ (Str.empty ++ c.1 ++ "=").length ≤ 10 ∧ (colText c).length ≤ 10 ∧ ((toString c.2 : String) : Str).length ≤ 10 ∧ c.2.natAbs.log2 < 1920 ∧ c.1.length ≤ 10 :=
  colText_len c.1 h c.2 (by rcases tops3 ht with e | e | e <;> rw [e] <;> decide)
theorem piled_le (n : Nat) : ∀ (l : List Str), (∀ y ∈ l, y.length ≤ n) → piled l ≤ (n + 2) * l.length
  | [], _ => Nat.zero_le _
  | y :: l, h => by
    have ih := piled_le n l fun z hz => h z (List.mem_cons_of_mem _ hz)
    have h1 := h y List.mem_cons_self
    rw [piled_cons, List.length_cons, Nat.mul_succ]
    omega
theorem sum_le (n : Nat) : ∀ (l : List Str), (∀ y ∈ l, y.length ≤ n) → (l.map (·.length)).sum ≤ n * l.length
  | [], _ => Nat.zero_le _
  | y :: l, h => by
    have ih := sum_le n l fun z hz => h z (List.mem_cons_of_mem _ hz)
    have h1 := h y List.mem_cons_self
    rw [List.map_cons, List.sum_cons, List.length_cons, Nat.mul_succ]
    omega
theorem join_small {l : List Str} (h : ∀ y ∈ l, y.length ≤ 10) (hl : l.length ≤ 3) : (Txt.join ", " l).length ≤ 40 := by
  rw [TL.join_eq]
  by_cases e : l = []
  · subst e; decide +kernel
  · have := join_length_add l e
    have := piled_le 10 l h
    omega
end Nw
namespace Nw
open PySem L2 PySem.Spec PyProof.Rows RZ
/-- isinstance against the class at C -/
structure IsC (K : PySem.W.Frag) (C : Addr) : Prop where
  non : PySem.W.kitOne K (.type "NoneType") (.ref C) = some false
  bl : PySem.W.kitOne K (.type "bool") (.ref C) = some false
  int : PySem.W.kitOne K (.type "int") (.ref C) = some false
  str : PySem.W.kitOne K (.type "str") (.ref C) = some false
  lst : PySem.W.kitOne K (.type "list") (.ref C) = some false
  tup : PySem.W.kitOne K (.type "tuple") (.ref C) = some false
  ha : PySem.W.findIn K (.ref C) "__class__" = some (some (.builtin "object.__class__"))
  hn : PySem.W.specialIn K (.builtin "object.__class__") "__get__" = some (some (.builtin "getset_descriptor.__get__"))
  htk : PySem.W.takesIn K (.builtin "object.__class__") = some true
  hm : PySem.W.mroIn K C (.type "object") = some true
section
variable {P : Program} {w : World} {K : PySem.W.Frag} {mg : Str → Option Value} {base : Heap}
theorem tContains {f C : Addr} {fd : FuncData} (F : C8.Fun K "__contains__" "Table.__contains__" s_Table____contains__ f fd) (b : Binds K fd P_Table____contains__ []) (TC : TabC K mg C) (h1 : PySem.W.findIn K (.ref C) "__contains__" = some (some (.ref f))) (h2 : PySem.W.isFn K (.ref f) = true) (T : Names K mg)
    (c_is_integer : C8.Cal P w K mg base 1 "is_integer" spIsInt []) (c_is_tuple_of : C8.Cal P w K mg base 1 "is_tuple_of" spTupOf []) : Own P w K mg base 2 C "__contains__" (spIn C) := by
  refine ⟨f, fd, _, C8.fn0 (N := N_Table____contains__) F sc_Table____contains__ (fun vs H Q E h => ?_) (fun cdv A outer s H vs Q E hr h => ?_), h1, h2, b⟩
  · obtain ⟨x, cols, v, d, G, rfl, _⟩ := h
    rfl
  · obtain ⟨x, cols, v, d, G, rfl, ⟨dx, cx, tx, t1, t2, t3, t4⟩, good, hd, sG, k⟩ := h
    refine ⟨_, (pss_cons (ps_if (pt_not (pt_val (C8.pe_c c_is_tuple_of hr (by decide) rfl (pa_cons (pv 1) (pa_cons (pe_callB call_len_seq (by rfl) T.n_len PySem.boot_len (pa_cons (pe_fld (pv 0) rfl) pa_nil)) pa_nil))))) (pss_one (ps_ret pe_bl)) pss_nil)
 (pss_one (ps_ret (pe_callB (cr_all rfl) (by rfl) T.n_all (by decide +kernel) (pa_cons (pe_lc (own := [("value", 2), ("top", 3)]) (g := (gTup K 2 (gCons (gName 2) (gCons (gName 3) gNil)))) (tt := tYes) rfl sc_Table____contains__.nd (RZ.pi_zipA (by rfl) T.n_zip (pa_cons (pv 1) (pa_cons (pe_fld (pv 0) rfl) pa_nil))) (blkOk_by (own := [("value", 2), ("top", 3)]) (N := N_Table____contains__) (sc := C8.fnScope s_Table____contains__) (by decide +kernel)) (fun _ _ _ _ _ => (pg_tup rfl (pgs_cons (pg_name (i := 2) sc_Table____contains__.nd rfl (Or.inl rfl)) (pgs_cons (pg_name (i := 3) sc_Table____contains__.nd rfl (Or.inl rfl)) pgs_nil)))) (fun _ _ _ _ _ => pts_nil) (fun _ _ _ _ _ => (pe_and (C8.pe_c c_is_integer (by exact hr) (by decide) rfl (pa_cons (pv 2) pa_nil)) (pe_one (pe_chain op_le op_le pe_int (pv 2) (pv 3)))))) pa_nil))))), ?_⟩
    have k0 := k H (Xt.refl sG)
    refine ⟨_, rfl, _, rfl, x, C, dx, _, _, rfl, sG _ _ t1, TC.cl, TC.nT, tf_t _ _, tx, _, rfl, .inr (SqT.of (sG _ _ t4)), v, _, d, G, rfl, hd, sG, _, rfl, ?_⟩
    cases hd with
    | non => exact k0
    | bl q => exact k0
    | int i => exact k0
    | str z => exact k0
    | lst h da => exact k0
    | @tup a xs ds h da =>
      have hl := da.length
      have len_ne : ∀ (ts : List Int) (ds : List PyData), ts.length ≠ ds.length → isIn ts ds = false := by
        intro ts
        induction ts with
        | nil => intro ds hn; cases ds with
          | nil => exact absurd rfl hn
          | cons _ _ => rfl
        | cons t ts ih =>
          intro ds hn
          cases ds with
          | nil => rfl
          | cons d ds =>
            have q := ih ds (fun e => hn (by rw [List.length_cons, List.length_cons, e]))
            cases d <;> simp [isIn, q]
      by_cases c2 : xs.length = cols.length
      · have e2 : tupLen (.tuple ds) (((cols.map fun c => V.int c.2).length : Nat) : Int) = true := decide_eq_true (by rw [List.length_map, ← hl, c2])
        rw [e2]
        refine iteF ?_
        refine ⟨_, rfl, _, rfl, x, C, dx, _, _, rfl, sG _ _ t1, TC.cl, TC.nT, tf_t _ _, a, tx, xs, _, rfl, .inr ⟨SqT.of (sG _ _ h), SqT.of (sG _ _ t4), fun Dl hD => ?_⟩⟩
        have l3 := good.len.2
        refine lc_data (b := none) (R := fun _ _ => True) (G := G) (walk_zipT (n := xs.length) (by rw [List.length_map, c2]; omega)) (List.zipWith (fun t d => .bool (isOne t d)) (cols.map (·.2)) ds) (by rw [List.length_zipWith, List.length_map, ← hl, c2]; omega) (by omega) hD sG (fun q => by cases q) trivial (fun _ _ _ _ => trivial) (fun i H4 G4 X4 _ => ⟨SqT.of (X4.sub _ _ (X4.gg _ _ h)), SqT.of (X4.sub _ _ (X4.gg _ _ t4))⟩) ?_ ?_
        · rintro i y H1 G1 H2 d hd X1 _ ⟨T_, u1, u2, rfl, hT, rfl, e1, e2⟩ Qy hq
          obtain ⟨dv, hdv, du⟩ := da.get e1
          obtain ⟨c, hc, rfl⟩ : ∃ c, cols[i]? = some c ∧ u2 = .int c.2 := by
            have e2' : (cols.map fun c => V.int c.2)[i]? = some u2 := e2
            rw [List.getElem?_map] at e2'
            cases e : cols[i]? with
            | none => rw [e] at e2'; cases e2'
            | some c => rw [e] at e2'; exact ⟨c, rfl, (Option.some.inj e2').symm⟩
          have ed : d = .bool (isOne c.2 dv) := by
            rw [List.getElem?_zipWith, List.getElem?_map, hc, hdv] at hd
            exact (Option.some.inj hd).symm
          subst ed
          have X2 := Xt.tmp (b := none) (o := .tup [u1, .int c.2]) X1.sub hT
          have du1 := du.mono X1.gg
          refine ⟨T_, _, rfl, SqT.of upd_same, rfl, _, _, rfl, _, _, rfl, rfl, rfl, _, rfl, u1, rfl, du1.plain X2.sub, _, rfl, ?_⟩
          cases du1 with
          | int v =>
            refine iteT ⟨_, rfl, _, _, rfl, rfl, _, rfl, ?_⟩
            have q := hq
            by_cases c3 : 0 ≤ v
            · rw [decide_eq_true c3]
              refine iteT ⟨_, rfl, _, _, rfl, rfl, hq _ _ _ X2 trivial ?_⟩
              have e : isOne c.2 (.int v) = decide (v ≤ c.2) := by simp [isOne, c3]
              rw [e]
              exact .bl _
            · rw [decide_eq_false c3]
              refine iteF (hq _ _ _ X2 trivial ?_)
              have e : isOne c.2 (.int v) = false := by simp [isOne, c3]
              rw [e]
              exact .bl _
          | non => exact iteF (hq _ _ _ X2 trivial (.bl false))
          | bl q => exact iteF (hq _ _ _ X2 trivial (.bl false))
          | str q => exact iteF (hq _ _ _ X2 trivial (.bl false))
          | lst _ _ => exact iteF (hq _ _ _ X2 trivial (.bl false))
          | tup _ _ => exact iteF (hq _ _ _ X2 trivial (.bl false))
        · intro H1 G1 ys X1 _ hl1 hg1 da1
          have e := DA.bools (ns := List.zipWith isOne (cols.map (·.2)) ds) (by rw [List.map_zipWith]; exact da1)
          refine ⟨Dl, _, rfl, SqL.of (by rw [hl1, e]), ?_⟩
          rw [isIn_zip _ _ (by rw [List.length_map, ← hl, c2])]
          exact k H1 X1.back
      · have e2 : tupLen (.tuple ds) (((cols.map fun c => V.int c.2).length : Nat) : Int) = false := decide_eq_false (fun q => c2 (by rw [List.length_map] at q; omega))
        rw [e2]
        refine iteT ?_
        have e3 : inTab (cols.map (·.2)) (.tuple ds) = false := len_ne _ _ (by rw [List.length_map, ← hl]; exact fun q => c2 q.symm)
        rw [e3] at k0
        exact k0
end
end Nw
namespace Nw
open PySem L2 PySem.Spec PyProof.Rows RZ
/-! rows of a database, the first wrong one -/
def okName : PyData → Bool
  | .none => true
  | .str z => isWordS z
  | _ => false
def isRowD (tops : List Int) : PyData → Bool
  | .tuple [n, v] => okName n && inTab tops v
  | _ => false
def spRow (C : Addr) : Sp := fun vs H Q _ => ∃ (v : V) (x : Addr) (d : PyData) (cols : List Col) (G : Hp), vs = [v, .ref x] ∧ D G v d ∧ shortD d ∧ TabAt C G x cols ∧ Good n11 cols ∧ Same G H ∧ ∀ H', Xt none H G H' G → Q (.bl (isRowD (cols.map (·.2)) d)) H'
/-- the first row that is wrong or whose name stands already -/
def badE (tops : List Int) : List Str → Nat → List PyData → Option Nat
  | _, _, [] => none
  | ns, i, d :: r => if isRowD tops d = true then match d with
      | .tuple [.str z, _] => if z ∈ ns then some i else badE tops (ns ++ [z]) (i + 1) r
      | _ => badE tops ns (i + 1) r
    else some i
def optV : Option Nat → V
  | none => .non
  | some i => .int ((i : Nat) : Int)
def spWrongE (C : Addr) : Sp := fun vs H Q _ => ∃ (a x : Addr) (ds : List PyData) (cols : List Col) (G : Hp), vs = [.ref a, .ref x] ∧ D G (.ref a) (.list ds) ∧ ds.length ≤ 100 ∧ (∀ d ∈ ds, shortD d) ∧ TabAt C G x cols ∧ Good n11 cols ∧ Same G H ∧
  ∀ H', Xt none H G H' G → Q (optV (badE (cols.map (·.2)) [] 0 ds)) H'
def flatE (v : V) : Prop := (∃ i : Int, v = .int i) ∨ ∃ z : Str, v = .str z
def spCopied : Sp := fun vs H Q _ => ∃ v : V, vs = [v] ∧ flatE v ∧ Q v H
def spErrF (C : Addr) (a : Str) : Sp := fun vs H Q _ => ∃ (x : Addr) (v : V), vs = [.ref x, v] ∧ flatE v ∧ H x = some (exo x C none) ∧ ∀ dx, H dx = none → dx ≠ x → Q .non (upd (upd H dx (exd dx [(a, v)])) x (exo x C (some dx)))
theorem err_heap {H : Hp} {e d : Addr} {o1 o2 o3 o4 : HO} (he : H e = none) (ne : d ≠ e) : upd (del (upd (upd (upd H e o1) d o2) e o3) e) d o4 = upd H d o4 := by
  funext b
  by_cases q : b = d
  · subst q; rw [upd_same, upd_same]
  · rw [upd_ne q, upd_ne q]
    by_cases q2 : b = e
    · subst q2; rw [del_same, he]
    · rw [del_ne q2, upd_ne q2, upd_ne q, upd_ne q2]
theorem drop_cons {α : Type} : ∀ {l : List α} {i : Nat} {x : α}, l[i]? = some x → l.drop i = x :: l.drop (i + 1)
  | y :: l, 0, x, h => by rw [List.drop_zero]; simp at h; subst h; rfl
  | y :: l, i + 1, x, h => by rw [List.drop_succ_cons, List.drop_succ_cons]; exact drop_cons (l := l) (by simpa using h)
theorem badE_no {tops : List Int} {ns : List Str} {i : Nat} {d : PyData} {r : List PyData} (h : isRowD tops d = false) : badE tops ns i (d :: r) = some i := by
  show (if isRowD tops d = true then _ else some i) = some i
  rw [h]; rfl
theorem badE_non {tops : List Int} {ns : List Str} {i : Nat} {v : PyData} {r : List PyData} (h : isRowD tops (.tuple [.none, v]) = true) : badE tops ns i (.tuple [.none, v] :: r) = badE tops ns (i + 1) r := by
  show (if isRowD tops (.tuple [.none, v]) = true then badE tops ns (i + 1) r else some i) = _
  rw [if_pos h]
theorem badE_str {tops : List Int} {ns : List Str} {i : Nat} {z : Str} {v : PyData} {r : List PyData} (h : isRowD tops (.tuple [.str z, v]) = true) : badE tops ns i (.tuple [.str z, v] :: r) = if z ∈ ns then some i else badE tops (ns ++ [z]) (i + 1) r := by
  show (if isRowD tops (.tuple [.str z, v]) = true then (if z ∈ ns then some i else badE tops (ns ++ [z]) (i + 1) r) else some i) = _
  rw [if_pos h]
theorem isRow_inv {tops : List Int} {d : PyData} (h : isRowD tops d = true) : ∃ v, inTab tops v = true ∧ (d = .tuple [.none, v] ∨ ∃ z, isWordS z = true ∧ d = .tuple [.str z, v]) := by
  unfold isRowD at h
  split at h
  · rename_i n v
    obtain ⟨h1, h2⟩ := Bool.and_eq_true_iff.mp h
    refine ⟨v, h2, ?_⟩
    cases n with
    | none => exact .inl rfl
    | str z => exact .inr ⟨z, h1, rfl⟩
    | _ => cases h1
  · cases h
theorem inV_non : ∀ l : List Str, inV V.non (l.map V.str) = false
  | [] => rfl
  | y :: l => by
    have ih := inV_non l
    unfold inV at ih ⊢
    rw [List.map_cons, List.any_cons, ih]
    rfl
def spName : Sp := fun vs H Q _ => ∃ k : L2.Key, vs = [kV k] ∧ ∀ v, v = (match k with | .inl _ => V.non | .inr z => .str z) → Q v H
section
variable {P : Program} {w : World} {K : PySem.W.Frag} {mg : Str → Option Value} {base : Heap}
theorem isRow {f C : Addr} {fd : FuncData} (F : C8.Def K mg "is_row" s_is_row f fd) (b : Binds K fd P_is_row []) (T : Names K mg) (c_is_word : C8.Cal P w K mg base 1 "is_word" spWord []) (c_is_tuple_of : C8.Cal P w K mg base 1 "is_tuple_of" spTupOf []) (o_Table__contains : Own P w K mg base 2 C "__contains__" (spIn C)) : C8.Cal P w K mg base 3 "is_row" (spRow C) [] := by
  refine C8.cal0 (N := N_is_row) F b .nil sc_is_row (fun vs H Q E h => ?_) (fun cdv A outer s H vs Q E hr h => ?_)
  · obtain ⟨v, x, d, cols, G, rfl, _⟩ := h
    rfl
  · obtain ⟨v, x, d, cols, G, rfl, hd, hsh, ta, good, sG, k⟩ := h
    refine ⟨_, (pss_cons (ps_if (pt_not (pt_val (C8.pe_c c_is_tuple_of hr (by decide) rfl (pa_cons (pv 0) (pa_cons pe_int pa_nil))))) (pss_one (ps_ret pe_bl)) pss_nil)
 (pss_cons (ps_asg (pv 0) (pg_tup rfl (pgs_cons (pg_name (i := 2) sc_is_row.nd rfl (Or.inl rfl)) (pgs_cons (pg_name (i := 3) sc_is_row.nd rfl (Or.inl rfl)) pgs_nil))))
 (pss_one (ps_ret (pe_and (pe_or (pe_cmpR op_isN (pv 2) pe_non (nomark _)) (pe_one (C8.pe_c c_is_word hr (by decide) rfl (pa_cons (pv 2) pa_nil)))) (pe_one (pe_cmpR (op_inO o_Table__contains (by exact hr.mono (by decide))) (pv 3) (pv 1) (by rfl)))))))), ?_⟩
    have k0 := k H (Xt.refl sG)
    refine ⟨_, rfl, v, 2, d, G, rfl, hd, sG, _, rfl, ?_⟩
    cases hd with
    | non => exact k0
    | bl q => exact k0
    | int i => exact k0
    | str z => exact k0
    | lst h da => exact k0
    | @tup a xs ds h da =>
      have hT := sG _ _ h
      by_cases c2 : ds.length = 2
      · have e2 : tupLen (.tuple ds) 2 = true := by
          show decide _ = true
          rw [c2]; rfl
        rw [e2]
        refine iteF ?_
        match ds, xs, da, c2 with
        | [d1, d2], [x1, x2], .cons h1 (.cons h2 .nil), _ =>
          refine ⟨_, rfl, a, _, rfl, SqT.of hT, rfl, _, _, rfl, _, _, rfl, rfl, ?_⟩
          have short : ∀ z, x1 = .str z → z.length ≤ 10000 := fun z e => by
            subst e; cases h1; exact hsh
          obtain ⟨dx, cx, tx, t1, _⟩ := id ta
          have last : ∀ H1, Xt none H G H1 G → okName d1 = true → (∃ (a' dx' : Addr) (fs' : List (Str × V)), V.ref x = .ref a' ∧ H1 a' = some (.ins C dx' fs') ∧ spIn C [.ref a', x2] H1 (fun v H' => ∃ r : Bool, v = .bl r ∧ Q (.bl (if false then !r else r)) H') (fun _ _ _ => False)) := fun H1 X1 ok => by
            refine ⟨x, dx, _, rfl, X1.sub _ _ t1, x, cols, x2, d2, G, rfl, ta, good, h2, X1.sub, fun H2 X2 => ⟨_, rfl, ?_⟩⟩
            have k2 := k H2 (X1.trans X2)
            have e : isRowD (cols.map (·.2)) (.tuple [d1, d2]) = inTab (cols.map (·.2)) d2 := by
              show (okName d1 && _) = _
              rw [ok]; rfl
            rw [e] at k2
            exact k2
          have fail : ∀ H1, Xt none H G H1 G → okName d1 = false → Q (.bl false) H1 := fun H1 X1 no => by
            have k1 := k H1 X1
            have e : isRowD (cols.map (·.2)) (.tuple [d1, d2]) = false := by
              show (okName d1 && _) = _
              rw [no]; rfl
            rw [e] at k1
            exact k1
          have pl := h1.plain sG
          refine ⟨_, rfl, rfl, _, rfl, ?_⟩
          cases h1 with
          | non =>
            rw [show decide (V.non = V.non) = true by simp]
            exact iteT ⟨_, rfl, iteT ⟨_, rfl, _, rfl, last H (Xt.refl sG) rfl⟩⟩
          | bl q =>
            rw [show decide (V.bl q = V.non) = false by simp]
            exact iteF ⟨_, rfl, _, G, rfl, pl, sG, short, fun H1 X1 => ⟨_, rfl, iteF (fail H1 X1 rfl)⟩⟩
          | int i =>
            rw [show decide (V.int i = V.non) = false by simp]
            exact iteF ⟨_, rfl, _, G, rfl, pl, sG, short, fun H1 X1 => ⟨_, rfl, iteF (fail H1 X1 rfl)⟩⟩
          | @lst p _ _ _ _ =>
            rw [show decide (V.ref p = V.non) = false by simp]
            exact iteF ⟨_, rfl, _, G, rfl, pl, sG, short, fun H1 X1 => ⟨_, rfl, iteF (fail H1 X1 rfl)⟩⟩
          | @tup p _ _ _ _ =>
            rw [show decide (V.ref p = V.non) = false by simp]
            exact iteF ⟨_, rfl, _, G, rfl, pl, sG, short, fun H1 X1 => ⟨_, rfl, iteF (fail H1 X1 rfl)⟩⟩
          | str z =>
            rw [show decide (V.str z = V.non) = false by simp]
            refine iteF ⟨_, rfl, _, G, rfl, pl, sG, short, fun H1 X1 => ⟨_, rfl, ?_⟩⟩
            show (if isWordS z = true then _ else _)
            cases hw : isWordS z with
            | false => exact iteF (fail H1 X1 hw)
            | true => exact iteT ⟨_, rfl, _, rfl, last H1 X1 hw⟩
      · have e2 : tupLen (.tuple ds) 2 = false := decide_eq_false fun q => c2 (by omega)
        rw [e2]
        have e3 : isRowD (cols.map (·.2)) (.tuple ds) = false := by
          match ds, c2 with
          | [], _ => rfl
          | [_], _ => rfl
          | [_, _], h => exact absurd rfl h
          | _ :: _ :: _ :: _, _ => rfl
        rw [e3] at k0
        exact iteT k0
theorem wrongEntry {f C : Addr} {fd : FuncData} (F : C8.Def K mg "wrong_entry" s_wrong_entry f fd) (b : Binds K fd P_wrong_entry []) (T : Names K mg) (c_is_row : C8.Cal P w K mg base 3 "is_row" (spRow C) []) : C8.Cal P w K mg base 4 "wrong_entry" (spWrongE C) [] := by
  refine C8.cal0 (N := N_wrong_entry) F b .nil sc_wrong_entry (fun vs H Q E h => ?_) (fun cdv A outer s H vs Q E hr h => ?_)
  · obtain ⟨a, x, ds, cols, G, rfl, _⟩ := h
    rfl
  · obtain ⟨a, x, ds, cols, G, rfl, hd, h100, hsh, ta, good, sG, k⟩ := h
    have hu := hu_of hr
    refine ⟨_, (pss_cons (ps_set (i := 2) sc_wrong_entry.nd rfl (Or.inl rfl) (pe_lst pa_nil))
 (pss_cons (ps_for PassesOwn.never rfl (pi_enum (by rfl) T.n_enumerate (pa_cons (pv 0) pa_nil)) (pg_tup rfl (pgs_cons (pg_name (i := 3) sc_wrong_entry.nd rfl (Or.inl rfl)) (pgs_cons (pg_name (i := 4) sc_wrong_entry.nd rfl (Or.inl rfl)) pgs_nil))) (pss_cons (ps_if (pt_not (pt_val (C8.pe_c c_is_row hr (by decide) rfl (pa_cons (pv 4) (pa_cons (pv 1) pa_nil))))) (pss_one (ps_ret (pv 3))) pss_nil)
 (pss_cons (ps_set (i := 5) sc_wrong_entry.nd rfl (Or.inl rfl) (pe_ix ix_tup (pv 4) pe_int (fun _ _ => rfl)))
 (pss_cons (ps_if (pt_cmpR op_in_seq (pv 5) (pv 2) (by rfl)) (pss_one (ps_ret (pv 3))) pss_nil)
 (pss_one (ps_if (pt_cmpR op_notN (pv 5) pe_non (nomark _)) (pss_one (ps_expr (pe_bm PySem.F.plainAttrs_list PySem.F.slot_list_append PySem.F.type_list_append mt_append (pv 2) (pa_cons (pv 5) pa_nil)))) pss_nil))))))
 (pss_one (ps_ret pe_non)))), ?_⟩
    obtain ⟨a_, xs, e0, ha, da⟩ := id hd.list_inv
    cases e0
    have hl : xs.length = ds.length := da.length
    refine ⟨Nat.zero_le _, fun nl hnl => ?_⟩
    have gnl : G nl = none := sG.free hnl
    have X0 := Xt.tmp (b := none) (o := .lst []) sG hnl
    refine ⟨_, rfl, a, xs, rfl, SqL.of (X0.sub _ _ ha), ?_⟩
    refine for_it (walk_enum (xs := xs)) (fun i σ' H' => ∃ (v3 v4 v5 : Option V) (ns : List Str), σ' = [some (.ref a), some (.ref x), some (.ref nl), v3, v4, v5] ∧ Xt none H G H' G ∧ H' nl = some (.lst (ns.map V.str)) ∧ ns.length ≤ i ∧ badE (cols.map (·.2)) [] 0 ds = badE (cols.map (·.2)) ns i (ds.drop i)) ?_ ?_ ?_ ?_
    · exact ⟨none, none, none, [], rfl, X0, upd_same, Nat.le_refl _, rfl⟩
    · rintro i σ' H' hi ⟨v3, v4, v5, ns, rfl, X, _⟩
      exact SqL.of (X.sub _ _ ha)
    · rintro i y σ' H1 H0_ hi ⟨v3, v4, v5, ns, rfl, X, hn, ln, hb⟩ ⟨T_, u1, u2, rfl, hT, rfl, e1, e2⟩
      obtain rfl := Option.some.inj e1
      obtain ⟨d, hdd, dy⟩ := da.get e2
      rw [drop_cons hdd] at hb
      have X2 := X.allocT (o := .tup [.int ((i : Nat) : Int), u2]) hT
      have hn2 := upd_same_ (o := .tup [.int ((i : Nat) : Int), u2]) hT _ _ hn
      refine ⟨T_, _, rfl, SqT.of upd_same, rfl, _, _, rfl, _, _, rfl, rfl, ?_⟩
      generalize upd H1 T_ (.tup [.int ((i : Nat) : Int), u2]) = H2 at X2 hn2 ⊢
      refine ⟨_, rfl, _, rfl, u2, x, d, cols, G, rfl, dy, hsh d (List.mem_of_getElem? hdd), ta, good, X2.sub, fun H3 X3 => ⟨_, rfl, ?_⟩⟩
      have X23 := X2.trans X3
      have hn3 := X3.hh nl _ (fun q => by cases q) hn2
      cases ir : isRowD (cols.map (·.2)) d with
      | false =>
        rw [badE_no ir] at hb
        have q := k H3 X23
        rw [hb] at q
        exact iteT ⟨_, rfl, q⟩
      | true =>
        refine iteF ?_
        obtain ⟨v, hv, hk⟩ := isRow_inv ir
        obtain ⟨t, vs, rfl, ht, dw⟩ : ∃ (t : Addr) (vs : List V), u2 = .ref t ∧ G t = some (.tup vs) ∧ ∃ ds', d = .tuple ds' ∧ DA G vs ds' := by
          rcases hk with rfl | ⟨z, _, rfl⟩
          · obtain ⟨t, vs, e, ht, dw⟩ := D.tup_inv dy
            exact ⟨t, vs, e, ht, _, rfl, dw⟩
          · obtain ⟨t, vs, e, ht, dw⟩ := D.tup_inv dy
            exact ⟨t, vs, e, ht, _, rfl, dw⟩
        obtain ⟨ds', ed, dw⟩ := dw
        have ht3 := X23.sub _ _ ht
        have li : i < 100 := by omega
        rcases hk with rfl | ⟨z, hz, rfl⟩
        · cases ed
          cases dw with
          | cons g1 dw =>
          cases dw with
          | cons g2 dw =>
          cases dw
          cases g1
          rw [badE_non ir] at hb
          refine ⟨_, rfl, t, _, _, _, rfl, rfl, SqT.of ht3, rfl, ?_⟩
          refine ⟨_, rfl, _, rfl, nl, _, rfl, .inl (SqL.of hn3), rfl, flat_strs _, _, rfl, ?_⟩
          rw [inV_non]
          refine iteF ⟨_, rfl, rfl, _, rfl, ?_⟩
          rw [show (!decide (V.non = V.non)) = false by simp]
          exact iteF ⟨_, _, _, ns, rfl, X23, hn3, by omega, hb⟩
        · cases ed
          cases dw with
          | cons g1 dw =>
          cases dw with
          | cons g2 dw =>
          cases dw
          cases g1
          rw [badE_str ir] at hb
          refine ⟨_, rfl, t, _, _, _, rfl, rfl, SqT.of ht3, rfl, ?_⟩
          refine ⟨_, rfl, _, rfl, nl, _, rfl, .inl (SqL.of hn3), rfl, flat_strs _, _, rfl, ?_⟩
          rw [inV_strs]
          by_cases c : z ∈ ns
          · rw [decide_eq_true c]
            rw [if_pos c] at hb
            have q := k H3 X23
            rw [hb] at q
            exact iteT ⟨_, rfl, q⟩
          · rw [decide_eq_false c]
            rw [if_neg c] at hb
            refine iteF ⟨_, rfl, rfl, _, rfl, ?_⟩
            rw [show (!decide (V.str z = V.non)) = true by simp]
            refine iteT ⟨_, rfl, .inl ⟨rfl, _, SqL.of hn3⟩, _, rfl, nl, _, _, rfl, rfl, hn3, small_lt (by rw [List.length_map]; omega), ?_⟩
            refine ⟨_, _, _, ns ++ [z], rfl, X23.set hnl gnl, ?_, by rw [List.length_append]; show _ + 1 ≤ _; omega, hb⟩
            rw [upd_same, List.map_append]; rfl
    · rintro σ' H' ⟨v3, v4, v5, ns, rfl, X, hn, ln, hb⟩
      rw [hl, List.drop_eq_nil_of_le (Nat.le_refl _)] at hb
      have q := k H' X
      rw [hb] at q
      exact q
theorem nameOf {f : Addr} {fd : FuncData} (F : C8.Def K mg "name_of" s_name_of f fd) (b : Binds K fd P_name_of []) (T : Names K mg) : C8.Cal P w K mg base 1 "name_of" spName [] := by
  refine C8.cal0 (N := N_name_of) F b .nil sc_name_of (fun vs H Q E h => ?_) (fun cdv A outer s H vs Q E hr h => ?_)
  · obtain ⟨k, rfl, _⟩ := h
    rfl
  · obtain ⟨k, rfl, q⟩ := h
    refine ⟨_, (pss_one (ps_ret (pe_ifExp (pt_val (pe_callB call_isi (by rfl) T.n_isinstance (by decide +kernel) (pa_cons (pv 0) (pa_cons (pe_bltn (v := .ty "str") (u := .type "str") (by rfl) T.n_str (by decide +kernel) rfl) pa_nil)))) (pv 0) pe_non))), ?_⟩
    cases k with
    | inl i => exact ⟨_, rfl, _, _, _, _, false, rfl, .ty _, .base (.int i), kit_ty (by decide +kernel), _, rfl, iteF (q _ rfl)⟩
    | inr z => exact ⟨_, rfl, _, _, _, _, true, rfl, .ty _, .base (.str z), kit_ty (by decide +kernel), _, rfl, iteT ⟨_, rfl, q _ rfl⟩⟩
theorem copied_ {f : Addr} {fd : FuncData} (F : C8.Def K mg "copied" s_copied f fd) (b : Binds K fd P_copied []) (T : Names K mg) (n_dict : mg "dict" = none) : C8.Cal P w K mg base 1 "copied" spCopied [] := by
  refine C8.cal0 (N := N_copied) F b .nil sc_copied (fun vs H Q E h => ?_) (fun cdv A outer s H vs Q E hr h => ?_)
  · obtain ⟨v, rfl, _⟩ := h
    rfl
  · obtain ⟨v, rfl, fl, k⟩ := h
    refine ⟨_, pss_cons (ps_if (pt_val (pe_callB call_isi (by rfl) T.n_isinstance (by decide +kernel) (pa_cons (pv 0) (pa_cons (pe_bltn (v := .ty "list") (u := .type "list") (by rfl) T.n_list (by decide +kernel) rfl) pa_nil)))) (pss_one ps_never) pss_nil)
      (pss_cons (ps_if (pt_val (pe_callB call_isi (by rfl) T.n_isinstance (by decide +kernel) (pa_cons (pv 0) (pa_cons (pe_bltn (v := .ty "tuple") (u := .type "tuple") (by rfl) T.n_tuple (by decide +kernel) rfl) pa_nil)))) (pss_one ps_never) pss_nil)
      (pss_cons (ps_if (pt_val (pe_callB call_isi (by rfl) T.n_isinstance (by decide +kernel) (pa_cons (pv 0) (pa_cons (pe_bltn (v := .ty "dict") (u := .type "dict") (by rfl) n_dict (by decide +kernel) rfl) pa_nil)))) (pss_one ps_never) pss_nil)
      (pss_one (ps_ret (pv 0))))), ?_⟩
    rcases fl with ⟨i, rfl⟩ | ⟨z, rfl⟩
    · refine ⟨_, rfl, _, _, _, _, false, rfl, .ty _, .base (.int i), kit_ty (by decide +kernel), _, rfl, iteF ?_⟩
      refine ⟨_, rfl, _, _, _, _, false, rfl, .ty _, .base (.int i), kit_ty (by decide +kernel), _, rfl, iteF ?_⟩
      refine ⟨_, rfl, _, _, _, _, false, rfl, .ty _, .base (.int i), kit_ty (by decide +kernel), _, rfl, iteF ?_⟩
      exact ⟨_, rfl, k⟩
    · refine ⟨_, rfl, _, _, _, _, false, rfl, .ty _, .base (.str z), kit_ty (by decide +kernel), _, rfl, iteF ?_⟩
      refine ⟨_, rfl, _, _, _, _, false, rfl, .ty _, .base (.str z), kit_ty (by decide +kernel), _, rfl, iteF ?_⟩
      refine ⟨_, rfl, _, _, _, _, false, rfl, .ty _, .base (.str z), kit_ty (by decide +kernel), _, rfl, iteF ?_⟩
      exact ⟨_, rfl, k⟩
theorem badInit {f C : Addr} {fd : FuncData} (F : C8.Fun K "__init__" "BadDatabase.__init__" s_BadDatabase____init__ f fd) (OC : OexC K C) (nA : PySem.W.findIn K (.ref C) "at" = some none) (c_copied : C8.Cal P w K mg base 1 "copied" spCopied []) :
    FnOk P w K mg base C8.CX0 2 f fd P_BadDatabase____init__ (spErrF C "at") := by
  refine C8.fn0 (N := N_BadDatabase____init__) F sc_BadDatabase____init__ (fun vs H Q E h => ?_) (fun cdv A outer s H vs Q E hr h => ?_)
  · obtain ⟨x, v, rfl, _⟩ := h
    rfl
  · obtain ⟨x, v, rfl, fl, hx, k⟩ := h
    refine ⟨_, pss_one (ps_ost (pv 0) (C8.pe_c c_copied hr (by decide) rfl (pa_cons (pv 1) pa_nil))), ?_⟩
    exact ⟨_, rfl, v, rfl, fl, _, rfl, x, C, rfl, OC, nA, .inl ⟨hx, fun dx hd ne => k dx hd ne⟩⟩
end
end Nw
namespace Nw
open PySem L2 PySem.Spec PyProof.Rows RZ
/-! the store of a database -/
abbrev Rw := Option Str × PyData
def optS : Option Str → PyData
  | none => .none
  | some z => .str z
def nmV : Option Str → V
  | none => .non
  | some z => .str z
def rwD (r : Rw) : PyData := .tuple [optS r.1, r.2]
def keyR (i : Nat) (r : Rw) : L2.Key := match r.1 with
  | none => .inl ((i : Nat) : Int)
  | some z => .inr z
def VersAt (G : Hp) (v : V) (i : Nat) (d : PyData) : Prop := ∃ (l t1 t2 : Addr) (u : V), v = .ref l ∧ G l = some (.lst [.ref t1]) ∧ G t1 = some (.tup [.int 0, .ref t2]) ∧ G t2 = some (.tup [.int ((i : Nat) : Int), u]) ∧ D G u d
theorem VersAt.mono {G G' : Hp} (s : Same G G') {v : V} {i : Nat} {d : PyData} (h : VersAt G v i d) : VersAt G' v i d := by
  obtain ⟨l, t1, t2, u, h1, h2, h3, h4, h5⟩ := h
  exact ⟨l, t1, t2, u, h1, s _ _ h2, s _ _ h3, s _ _ h4, h5.mono s⟩
def KvAt (G : Hp) (kvs : List (L2.Key × V)) (rs : List Rw) : Prop := kvs.length = rs.length ∧ ∀ (i : Nat) (kv : L2.Key × V) (r : Rw), kvs[i]? = some kv → rs[i]? = some r → kv.1 = keyR i r ∧ VersAt G kv.2 i r.2
theorem KvAt.mono {G G' : Hp} (s : Same G G') {kvs : List (L2.Key × V)} {rs : List Rw} (h : KvAt G kvs rs) : KvAt G' kvs rs :=
  ⟨h.1, fun i kv r a b => ⟨(h.2 i kv r a b).1, (h.2 i kv r a b).2.mono s⟩⟩
theorem KvAt.snoc {G : Hp} {kvs : List (L2.Key × V)} {rs : List Rw} {r : Rw} {v : V} (h : KvAt G kvs rs) (hv : VersAt G v rs.length r.2) : KvAt G (kvs ++ [(keyR rs.length r, v)]) (rs ++ [r]) := by
  refine ⟨by rw [List.length_append, List.length_append, h.1]; rfl, fun i kv r' a b => ?_⟩
  rcases Nat.lt_or_ge i rs.length with c | c
  · rw [List.getElem?_append_left (by rw [h.1]; exact c)] at a
    rw [List.getElem?_append_left c] at b
    exact h.2 i kv r' a b
  · have e : i = rs.length := by
      have := (List.getElem?_eq_some_iff.mp b).1
      rw [List.length_append] at this
      have : i < rs.length + 1 := this
      omega
    subst e
    rw [← h.1, List.getElem?_append_right (Nat.le_refl _), Nat.sub_self] at a
    rw [List.getElem?_append_right (Nat.le_refl _), Nat.sub_self] at b
    obtain rfl := Option.some.inj a
    obtain rfl := Option.some.inj b
    exact ⟨by rw [h.1], hv⟩
/-- the names that stand there -/
def nmsR (rs : List Rw) : List Str := rs.filterMap (·.1)
theorem nms_snoc (rs : List Rw) (r : Rw) : nmsR (rs ++ [r]) = nmsR rs ++ r.1.toList := by
  unfold nmsR
  rw [List.filterMap_append]
  congr 1
theorem KvAt.fresh {G : Hp} {kvs : List (L2.Key × V)} {rs : List Rw} {r : Rw} (h : KvAt G kvs rs) (nd : ∀ z, r.1 = some z → z ∉ nmsR rs) : valV kvs (keyR rs.length r) = none := by
  cases e : valV kvs (keyR rs.length r) with
  | none => rfl
  | some v =>
    have m := valV_in e
    obtain ⟨kv, hm, hk⟩ := List.mem_map.mp m
    obtain ⟨i, hi⟩ := List.mem_iff_getElem?.mp hm
    have li := (List.getElem?_eq_some_iff.mp hi).1
    rw [h.1] at li
    obtain ⟨q, hq⟩ : ∃ q, rs[i]? = some q := ⟨_, List.getElem?_eq_getElem li⟩
    have e1 := (h.2 i kv q hi hq).1
    rw [hk] at e1
    unfold keyR at e1
    cases hr : r.1 with
    | none =>
      rw [hr] at e1
      cases hq1 : q.1 with
      | none =>
        rw [hq1] at e1
        have e1 : (Sum.inl ((rs.length : Nat) : Int) : L2.Key) = Sum.inl ((i : Nat) : Int) := e1
        have := Sum.inl.inj e1
        omega
      | some z => rw [hq1] at e1; cases e1
    | some z =>
      rw [hr] at e1
      cases hq1 : q.1 with
      | none => rw [hq1] at e1; cases e1
      | some y =>
        rw [hq1] at e1
        have e1 : (Sum.inr z : L2.Key) = Sum.inr y := e1
        obtain rfl := Sum.inr.inj e1
        refine absurd ?_ (nd _ hr)
        unfold nmsR
        exact List.mem_filterMap.mpr ⟨q, List.mem_of_getElem? hq, hq1⟩
/-- what the top leaves of a class with these fields -/
structure ClsF (K : PySem.W.Frag) (C : Addr) (fs : List Str) : Prop where
  cl : Cls K C
  no : ∀ n ∈ fs, NoAttr K C n
def stoF (n : Nat) (d : Addr) : List (Str × V) := putF "_versions" (.ref d) (putF "_tags" (.int ((n : Nat) : Int)) (putF "moment" (.int 0) []))
def STF : List Str := ["moment", "_tags", "_versions"]
def spSto (C : Addr) : Sp := fun vs H Q _ => ∃ (x dx a : Addr) (xs : List V) (rs : List Rw) (H0 G : Hp), vs = [.ref x, .ref a] ∧ H0 x = none ∧ H0 dx = none ∧ dx ≠ x ∧ H = upd (upd H0 dx (.own x)) x (.ins C dx []) ∧ H0 a = some (.lst xs) ∧ DA G xs (rs.map rwD) ∧ rs.length ≤ 100 ∧ (nmsR rs).Nodup ∧ Same G H0 ∧
  ∀ (d : Addr) (kvs : List (L2.Key × V)) (H' G' : Hp), Xt none H0 G H' G' → H0 d = none → G' d = none → H' d = some (.dK kvs) → G' x = some (.ins C dx (stoF rs.length d)) → G' dx = some (.own x) → KvAt G' kvs rs → Q .non H'
section
variable {P : Program} {w : World} {K : PySem.W.Frag} {mg : Str → Option Value} {base : Heap}
theorem stoInit {f C : Addr} {fd : FuncData} (F : C8.Fun K "__init__" "Store.__init__" s_Store____init__ f fd) (b : Binds K fd P_Store____init__ []) (M : Mk K C f) (hm : mg "Store" = some (.ref C)) (T : Names K mg) (SC : ClsF K C STF) : C8.Mak P w K mg base 1 "Store" C (spSto C) [] := by
  refine C8.mak0 (N := N_Store____init__) M hm F b .nil sc_Store____init__ (fun vs H Q E h => ?_) (fun cdv A outer s H vs Q E hr h => ?_)
  · obtain ⟨x, dx, a, xs, rs, H0, G, rfl, _⟩ := h
    rfl
  · obtain ⟨x, dx, a, xs, rs, H0, G, rfl, nx, ndx, nex, hH, ha0, da, h100, nd, sG, k⟩ := h
    have hu := hu_of hr
    refine ⟨_, (pss_cons (ps_fld (pv 0) pe_int rfl)
 (pss_cons (ps_fld (pv 0) (pe_callB call_len_seq (by rfl) T.n_len PySem.boot_len (pa_cons (pv 1) pa_nil)) rfl)
 (pss_cons (ps_fld (pv 0) pe_dnewK rfl)
 (pss_one (ps_for PassesOwn.never rfl (pi_enum (by rfl) T.n_enumerate (pa_cons (pv 1) pa_nil)) (pg_tup rfl (pgs_cons (pg_name (i := 2) sc_Store____init__.nd rfl (Or.inl rfl)) (pgs_cons (pg_tup rfl (pgs_cons (pg_name (i := 3) sc_Store____init__.nd rfl (Or.inl rfl)) (pgs_cons (pg_name (i := 4) sc_Store____init__.nd rfl (Or.inl rfl)) pgs_nil))) pgs_nil))) (pss_one (ps_dput hu (pe_fld (pv 0) rfl) (pe_ifExp (pt_cmpR op_isN (pv 3) pe_non (nomark _)) (pv 2) (pv 3)) (pe_lst (pa_cons (pe_tup (pa_cons pe_int (pa_cons (pe_tup (pa_cons (pv 2) (pa_cons (pv 4) pa_nil))) pa_nil))) pa_nil)) rfl))))))), ?_⟩
    have hl : xs.length = rs.length := by rw [da.length, List.length_map]
    have hdx0 : upd H0 dx (.own x) x = none := by rw [upd_ne nex.symm]; exact nx
    have X0 : Xt none H0 G H G := by rw [hH]; exact (Xt.tmp sG ndx).allocT hdx0
    have hX : H x = some (.ins C dx []) := by rw [hH]; exact upd_same
    have hDX : H dx = some (.own x) := by rw [hH, upd_ne nex]; exact upd_same
    have gx : G x = none := sG.free nx
    have gdx : G dx = none := sG.free ndx
    have nn : ∀ a : Addr, (none : Option Addr) ≠ some a := fun a q => by cases q
    have nax : a ≠ x := fun q => by rw [q, nx] at ha0; cases ha0
    clear hH
    refine ⟨_, rfl, x, C, dx, _, rfl, hX, SC.cl, SC.no _ (by decide +kernel), by decide, ?_⟩
    have X1 := X0.set (o := .ins C dx (putF "moment" (.int 0) [])) nx gx
    have hDX1 : upd H x (.ins C dx (putF "moment" (.int 0) [])) dx = some (.own x) := by rw [upd_ne nex]; exact hDX
    have hX1 : upd H x (.ins C dx (putF "moment" (.int 0) [])) x = some (.ins C dx (putF "moment" (.int 0) [])) := upd_same
    generalize upd H x (.ins C dx (putF "moment" (.int 0) [])) = H1 at X1 hDX1 hX1 ⊢
    refine ⟨_, rfl, a, _, rfl, .inl (SqL.of (X1.hh a _ (nn _) ha0)), _, rfl, x, C, dx, _, rfl, hX1, SC.cl, SC.no _ (by decide +kernel), by decide, ?_⟩
    rw [hl]
    have X2 := X1.set (o := .ins C dx (putF "_tags" (.int ((rs.length : Nat) : Int)) (putF "moment" (.int 0) []))) nx gx
    have hDX2 : upd H1 x (.ins C dx (putF "_tags" (.int ((rs.length : Nat) : Int)) (putF "moment" (.int 0) []))) dx = some (.own x) := by rw [upd_ne nex]; exact hDX1
    have hX2 : upd H1 x (.ins C dx (putF "_tags" (.int ((rs.length : Nat) : Int)) (putF "moment" (.int 0) []))) x = some (.ins C dx (putF "_tags" (.int ((rs.length : Nat) : Int)) (putF "moment" (.int 0) []))) := upd_same
    generalize upd H1 x (.ins C dx (putF "_tags" (.int ((rs.length : Nat) : Int)) (putF "moment" (.int 0) []))) = H2 at X2 hDX2 hX2 ⊢
    refine fun d hd0 => ?_
    have hHd : H0 d = none := X2.fresh hd0
    have gd : G d = none := X2.sub.free hd0
    have ndx_ : d ≠ x := fun q => by rw [q, hX2] at hd0; cases hd0
    have nddx : d ≠ dx := fun q => by rw [q, hDX2] at hd0; cases hd0
    have X3 := X2.allocT (o := .dK []) hd0
    refine ⟨_, rfl, x, C, dx, _, rfl, by rw [upd_ne ndx_.symm]; exact hX2, SC.cl, SC.no _ (by decide +kernel), (by show 2 < 1000; decide), ?_⟩
    have X4 := X3.set (o := .ins C dx (stoF rs.length d)) nx gx
    have hX4 : upd (upd H2 d (.dK [])) x (.ins C dx (stoF rs.length d)) x = some (.ins C dx (stoF rs.length d)) := upd_same
    have hD4 : upd (upd H2 d (.dK [])) x (.ins C dx (stoF rs.length d)) d = some (.dK []) := by rw [upd_ne ndx_, upd_same]
    have hDX4 : upd (upd H2 d (.dK [])) x (.ins C dx (stoF rs.length d)) dx = some (.own x) := by rw [upd_ne nex, upd_ne nddx.symm]; exact hDX2
    have e9 : putF "_versions" (.ref d) (putF "_tags" (.int ((rs.length : Nat) : Int)) (putF "moment" (.int 0) [])) = stoF rs.length d := rfl
    rw [e9]
    generalize upd (upd H2 d (.dK [])) x (.ins C dx (stoF rs.length d)) = H4 at X4 hX4 hD4 hDX4 ⊢
    refine ⟨_, rfl, a, xs, rfl, SqL.of (X4.hh a _ (nn _) ha0), ?_⟩
    refine for_it (walk_enum (xs := xs)) (fun i σ' H' => ∃ (v2 v3 v4 : Option V) (G' : Hp) (kvs : List (L2.Key × V)), σ' = [some (.ref x), some (.ref a), v2, v3, v4] ∧ Xt none H0 G H' G' ∧ H' x = some (.ins C dx (stoF rs.length d)) ∧ H' dx = some (.own x) ∧ H' d = some (.dK kvs) ∧ G' x = none ∧ G' dx = none ∧ G' d = none ∧ KvAt G' kvs (rs.take i)) ?_ ?_ ?_ ?_
    · exact ⟨_, _, _, G, [], rfl, X4, hX4, hDX4, hD4, gx, gdx, gd, rfl, fun i kv r h => by rw [List.getElem?_nil] at h; cases h⟩
    · rintro i σ' H' hi ⟨v2, v3, v4, G', kvs, rfl, X, _⟩
      exact SqL.of (X.hh a _ (nn _) ha0)
    · rintro i y σ' H5 H0_ hi ⟨v2, v3, v4, G', kvs, rfl, X, hX', hDX', hd', gx', gdx', gd', kv⟩ ⟨T_, u1, u2, rfl, hT, rfl, e1, e2⟩
      obtain rfl := Option.some.inj e1
      obtain ⟨d1, hd1, dy⟩ := da.get e2
      rw [List.getElem?_map] at hd1
      obtain ⟨r, hr, rfl⟩ := Option.map_eq_some_iff.mp hd1
      have li : i < rs.length := (List.getElem?_eq_some_iff.mp hr).1
      obtain ⟨tr, vs, rfl, htr, dw⟩ := D.tup_inv dy
      cases dw with
      | @cons x1 _ _ _ g1 dw =>
      cases dw with
      | @cons x2 _ _ _ g2 dw =>
      cases dw
      obtain rfl : x1 = nmV r.1 := by
        cases h : r.1 <;> rw [h] at g1 <;> cases g1 <;> rfl
      have X5 := X.allocT (o := .tup [.int ((i : Nat) : Int), .ref tr]) hT
      have nTx : x ≠ T_ := fun q => by rw [← q, hX'] at hT; cases hT
      have nTdx : dx ≠ T_ := fun q => by rw [← q, hDX'] at hT; cases hT
      have nTd : d ≠ T_ := fun q => by rw [← q, hd'] at hT; cases hT
      have hX5 : upd H5 T_ (.tup [.int ((i : Nat) : Int), .ref tr]) x = some (.ins C dx (stoF rs.length d)) := by rw [upd_ne nTx]; exact hX'
      have hDX5 : upd H5 T_ (.tup [.int ((i : Nat) : Int), .ref tr]) dx = some (.own x) := by rw [upd_ne nTdx]; exact hDX'
      have hd5 : upd H5 T_ (.tup [.int ((i : Nat) : Int), .ref tr]) d = some (.dK kvs) := by rw [upd_ne nTd]; exact hd'
      refine ⟨T_, _, rfl, SqT.of upd_same, rfl, _, _, rfl, _, _, rfl, tr, _, rfl, SqT.of (X5.sub _ _ (X.gg _ _ htr)), rfl, _, _, rfl, _, _, rfl, rfl, rfl, ?_⟩
      generalize upd H5 T_ (.tup [.int ((i : Nat) : Int), .ref tr]) = H6 at X5 hX5 hDX5 hd5 ⊢
      refine ⟨_, rfl, _, rfl, (by show 2 ≤ sizeLine; decide), fun t2 ht2 => ⟨(by show 2 ≤ sizeLine; decide), fun t1 ht1 => ⟨(by show 1 ≤ sizeLine; decide), fun l hl_ => ?_⟩⟩⟩
      have Y1 := Xt.new (b := none) (o := .tup [.int ((i : Nat) : Int), x2]) X5.sub ht2
      have Y2 := Xt.new (b := none) (o := .tup [.int 0, .ref t2]) Y1.sub ht1
      have Y3 := Xt.new (b := none) (o := .lst [.ref t1]) Y2.sub hl_
      have YY := (Y1.trans Y2).trans Y3
      have hX6 := YY.hh x _ (fun q => by cases q) hX5
      have hDX6 := YY.hh dx _ (fun q => by cases q) hDX5
      have hd6 := YY.hh d _ (fun q => by cases q) hd5
      have gx6 := YY.non (ne_none_of hX5) gx'
      have gdx6 := YY.non (ne_none_of hDX5) gdx'
      have gd6 := YY.non (ne_none_of hd5) gd'
      have va : VersAt (upd (upd (upd G' t2 (.tup [.int ((i : Nat) : Int), x2])) t1 (.tup [.int 0, .ref t2])) l (.lst [.ref t1])) (.ref l) i r.2 :=
        ⟨l, t1, t2, x2, rfl, upd_same, Y3.gg _ _ upd_same, Y3.gg _ _ (Y2.gg _ _ upd_same), (((g2.mono X.gg).mono Y1.gg).mono Y2.gg).mono Y3.gg⟩
      have kv6 := kv.mono YY.gg
      have X7 := X5.trans YY
      generalize upd (upd (upd H6 t2 (.tup [.int ((i : Nat) : Int), x2])) t1 (.tup [.int 0, .ref t2])) l (.lst [.ref t1]) = H7 at X7 hX6 hDX6 hd6 ⊢
      generalize upd (upd (upd G' t2 (.tup [.int ((i : Nat) : Int), x2])) t1 (.tup [.int 0, .ref t2])) l (.lst [.ref t1]) = G7 at X7 gx6 gdx6 gd6 va kv6
      clear YY Y1 Y2 Y3
      have lt : (rs.take i).length = i := by rw [List.length_take]; omega
      have fr := kv6.fresh (r := r) fun z hz hm => by
        have e : nmsR (rs.take (i + 1)) = nmsR (rs.take i) ++ [z] := by rw [take_succ_of hr, nms_snoc, hz]; rfl
        have sub : (nmsR (rs.take (i + 1))).Nodup := ((List.take_sublist (i + 1) rs).filterMap _).nodup nd
        rw [e] at sub
        exact (List.nodup_append.mp sub).2.2 z hm z (List.mem_singleton.mpr rfl) rfl
      have sn := kv6.snoc (r := r) (v := .ref l) (by rw [lt]; exact va)
      rw [lt] at fr sn
      rw [← take_succ_of hr] at sn
      have lk : kvs.length < sizeLine := small_lt (by rw [kv.1, lt]; omega)
      have put : ∀ kk, kk = keyR i r → ∃ (d' : Addr) (H8 : Hp), V.ref d = .ref d' ∧ DPut H7 d' (kV kk) (.ref l) H8 ∧ (∃ (v2 v3 v4 : Option V) (G' : Hp) (kvs : List (L2.Key × V)), [some (V.ref x), some (V.ref a), some (V.int ((i : Nat) : Int)), some (nmV r.1), some x2] = [some (.ref x), some (.ref a), v2, v3, v4] ∧ Xt none H0 G H8 G' ∧ H8 x = some (.ins C dx (stoF rs.length d)) ∧ H8 dx = some (.own x) ∧ H8 d = some (.dK kvs) ∧ G' x = none ∧ G' dx = none ∧ G' d = none ∧ KvAt G' kvs (rs.take (i + 1))) := by
        rintro kk rfl
        refine ⟨d, _, rfl, DPut.k hd6 lk, _, _, _, G7, kvs ++ [(keyR i r, .ref l)], rfl, X7.set hHd gd6, by rw [upd_ne ndx_.symm]; exact hX6, by rw [upd_ne nddx.symm]; exact hDX6, ?_, gx6, gdx6, gd6, sn⟩
        rw [upd_same, putK_new _ fr]
      refine ⟨_, rfl, x, C, dx, _, _, rfl, hX6, SC.cl, SC.no _ (by decide +kernel), rfl, _, rfl, rfl, _, rfl, ?_⟩
      cases hn : r.1 with
      | none =>
        rw [show decide (nmV (none : Option Str) = V.non) = true by decide]
        refine iteT ⟨_, rfl, ?_⟩
        have := put (.inl ((i : Nat) : Int)) (by unfold keyR; rw [hn])
        rw [hn] at this
        exact this
      | some z =>
        rw [show decide (nmV (some z) = V.non) = false by simp [nmV]]
        refine iteF ⟨_, rfl, ?_⟩
        have := put (.inr z) (by unfold keyR; rw [hn])
        rw [hn] at this
        exact this
    · rintro σ' H' ⟨v2, v3, v4, G', kvs, rfl, X, hX', hDX', hd', gx', gdx', gd', kv⟩
      rw [hl, List.take_length] at kv
      have Z1 := X.fix nx hX'
      have Z2 := Z1.fix ndx hDX'
      have sm : Same G' (upd (upd G' x (.ins C dx (stoF rs.length d))) dx (.own x)) := fun u o h => by
        rw [upd_ne (fun q => by rw [q, gdx'] at h; cases h), upd_ne (fun q => by rw [q, gx'] at h; cases h)]; exact h
      exact k d kvs H' _ Z2 hHd (by rw [upd_ne nddx, upd_ne ndx_]; exact gd') hd' (by rw [upd_ne nex.symm, upd_same]) upd_same (kv.mono sm)
end
end Nw
namespace Nw
open PySem L2 PySem.Spec PyProof.Rows RZ
/-! the rows that a store holds -/
def outR (i : Nat) (r : Rw) : PyData := .tuple [.int ((i : Nat) : Int), optS r.1, r.2]
def rowsOut (rs : List Rw) : List PyData := rs.mapIdx outR
def newR (i : Nat) (r : Rw) : PyData := .tuple [optS r.1, .tuple [.int ((i : Nat) : Int), r.2]]
def StoAt (C : Addr) (G : Hp) (s : Addr) (rs : List Rw) : Prop := ∃ (dx d : Addr) (od : Obj) (kvs : List (L2.Key × V)), G s = some (.ins C dx (stoF rs.length d)) ∧ G dx = some (.own s) ∧ G d = some (.frz od (.dK kvs)) ∧ KvAt G kvs rs
theorem StoAt.mono {C : Addr} {G G' : Hp} (sm : Same G G') {s : Addr} {rs : List Rw} (h : StoAt C G s rs) : StoAt C G' s rs := by
  obtain ⟨dx, d, od, kvs, h1, h2, h3, h4⟩ := h
  exact ⟨dx, d, od, kvs, sm _ _ h1, sm _ _ h2, sm _ _ h3, h4.mono sm⟩
def spRows (C : Addr) : Sp := fun vs H Q _ => ∃ (s : Addr) (rs : List Rw) (G : Hp), vs = [.ref s] ∧ StoAt C G s rs ∧ rs.length ≤ 100 ∧ Same G H ∧
  ∀ (q : Addr) (xs : List V) (H' G' : Hp), Xt none H G H' G' → H q = none → H' q = some (.lst xs) → G' q = none → DA G' xs (rowsOut rs) → Q (.ref q) H'
theorem optS_at (G : Hp) : ∀ o : Option Str, D G (nmV o) (optS o)
  | none => .non
  | some z => .str z
def keyOf (H : Hp) (v : V) : Int := match v with
  | .ref a => match H a with
    | some (.tup (.int i :: _)) => i
    | _ => 0
  | _ => 0
theorem keyOf_at {H : Hp} {t : Addr} {i : Int} {ys : List V} (h : H t = some (.tup (.int i :: ys))) : keyOf H (.ref t) = i := by
  show (match H t with | some (.tup (.int i :: _)) => i | _ => 0) = i
  rw [h]
section
variable {P : Program} {w : World} {K : PySem.W.Frag} {mg : Str → Option Value} {base : Heap}
theorem committedRows {f C : Addr} {fd : FuncData} (F : C8.Fun K "committed_rows" "Store.committed_rows" s_Store__committed_rows f fd) (b : Binds K fd P_Store__committed_rows []) (me : Meth K C "committed_rows" f) (T : Names K mg) (n_sorted : mg "sorted" = none) (SC : ClsF K C STF) (c_name_of : C8.Cal P w K mg base 1 "name_of" spName []) : C8.Met P w K mg base 2 C "committed_rows" (spRows C) [] := by
  refine C8.met0 (N := N_Store__committed_rows) SC.cl me F b sc_Store__committed_rows (fun vs H Q E h => ?_) (fun cdv A outer s H vs Q E hr h => ?_)
  · obtain ⟨s, rs, G, rfl, _⟩ := h
    rfl
  · obtain ⟨x, rs, G, rfl, ⟨dx, d, od, kvs, g1, g2, g3, kv⟩, h100, sG, k⟩ := h
    have hu := hu_of hr
    refine ⟨_, (pss_cons (ps_setLc (i := 1) (own := [("place", 2), ("versions", 3)]) (g := (gTup K 2 (gCons (gName 2) (gCons (gName 3) gNil)))) (tt := tYes) rfl sc_Store__committed_rows.nd rfl rfl (sw_true rfl rfl rfl (by decide +kernel)) (pi_items (pe_fld (pv 0) rfl)) (blkOk_by (own := [("place", 2), ("versions", 3)]) (N := N_Store__committed_rows) (sc := C8.fnScope s_Store__committed_rows) (by decide +kernel)) (fun _ _ _ _ _ => (pg_tup rfl (pgs_cons (pg_name (i := 2) sc_Store__committed_rows.nd rfl (Or.inl rfl)) (pgs_cons (pg_name (i := 3) sc_Store__committed_rows.nd rfl (Or.inl rfl)) pgs_nil)))) (fun _ _ _ _ _ => pts_nil) (fun _ _ _ _ _ => (pe_tup (pa_cons (C8.pe_c c_name_of (by exact hr) (by decide) rfl (pa_cons (pv 2) pa_nil)) (pa_cons (pe_ix (ix_tupK (K := K) rfl) (pe_ix (ix_listK (K := K) rfl) (pv 3) (pe_un un_neg pe_int) (fun _ _ => rfl)) pe_int (fun _ _ => rfl)) pa_nil)))))
 (pss_one (ps_ret (pe_callB cr_sortUp (by rfl) n_sorted (by decide +kernel) (pa_cons (pe_lc (own := [("name", 4), ("version", 5)]) (g := (gTup K 2 (gCons (gName 4) (gCons (gName 5) gNil)))) rfl sc_Store__committed_rows.nd (pi_list (pv 1)) (blkOk_by (own := [("name", 4), ("version", 5)]) (N := N_Store__committed_rows) (sc := C8.fnScope s_Store__committed_rows) (by decide +kernel)) (fun _ _ _ _ _ => (pg_tup rfl (pgs_cons (pg_name (i := 4) sc_Store__committed_rows.nd rfl (Or.inl rfl)) (pgs_cons (pg_name (i := 5) sc_Store__committed_rows.nd rfl (Or.inl rfl)) pgs_nil)))) (fun _ _ _ _ _ => (pts_one (pt_cmpR op_notN (pv 5) pe_non (nomark _)))) (fun _ _ _ _ _ => (pe_tup (pa_cons (pe_ix (ix_tupK (K := K) rfl) (pv 5) pe_int (fun _ _ => rfl)) (pa_cons (pv 4) (pa_cons (pe_ix (ix_tupK (K := K) rfl) (pv 5) pe_int (fun _ _ => rfl)) pa_nil)))))) pa_nil))))), ?_⟩
    have nn : ∀ a : Addr, (none : Option Addr) ≠ some a := fun a q => by cases q
    have lk := kv.1
    refine ⟨_, rfl, x, C, dx, _, _, rfl, sG _ _ g1, SC.cl, SC.no _ (by decide +kernel), rfl, d, od, kvs, rfl, sG _ _ g3, fun Dl hD => ?_⟩
    refine lc_data (b := none) (R := fun _ _ => True) (G := G) (walk_items (kvs := kvs)) (rs.mapIdx newR) (by rw [List.length_mapIdx, lk]) (by omega) hD sG (fun q => by cases q) trivial (fun _ _ _ _ => trivial) (fun i HA GA XA _ => XA.sub _ _ (XA.gg _ _ g3)) ?_ ?_
    · rintro i y HA GA HB dd hdd XA _ ⟨T_, u1, u2, rfl, hT, rfl, e1, e2⟩ Qy hqy
      have e1 : (kvs[i]?.map fun kv => kV kv.1) = some u1 := e1
      have e2 : kvs[i]?.map Prod.snd = some u2 := e2
      obtain ⟨q, hq, rfl⟩ := Option.map_eq_some_iff.mp e1
      rw [hq] at e2
      obtain rfl := Option.some.inj e2
      rw [List.getElem?_mapIdx] at hdd
      obtain ⟨r, hr_, rfl⟩ := Option.map_eq_some_iff.mp hdd
      obtain ⟨ek, l, t1, t2, u, ev, hl, ht1, ht2, hu2⟩ := kv.2 i q r hq hr_
      obtain ⟨qk, qv⟩ := q
      obtain rfl : qv = .ref l := ev
      obtain rfl : qk = keyR i r := ek
      have XB := (Xt.refl (b := none) XA.sub).allocT (o := .tup [kV (keyR i r), .ref l]) hT
      refine ⟨T_, _, rfl, SqT.of upd_same, rfl, _, _, rfl, _, _, rfl, rfl, rfl, ?_⟩
      generalize upd HA T_ (.tup [kV (keyR i r), .ref l]) = HC at XB ⊢
      refine ⟨_, rfl, keyR i r, rfl, fun v ev => ?_⟩
      have ev : v = nmV r.1 := by
        rw [ev]; unfold keyR
        cases r.1 <;> rfl
      subst ev
      refine ⟨_, rfl, _, rfl, l, _, _, _, rfl, rfl, SqL.of (XB.sub _ _ (XA.gg _ _ hl)), atI_last [] _, t1, _, _, _, rfl, rfl, SqT.of (XB.sub _ _ (XA.gg _ _ ht1)), rfl, (by show 2 ≤ sizeLine; decide), fun p hp => ?_⟩
      have X5 := Xt.new (b := none) (o := .tup [nmV r.1, .ref t2]) XB.sub hp
      refine hqy _ _ _ (XB.trans X5) trivial ?_
      refine .tup (ds := [optS r.1, .tuple [.int ((i : Nat) : Int), r.2]]) upd_same (.cons (optS_at _ _) (.cons ?_ .nil))
      exact .tup (ds := [.int ((i : Nat) : Int), r.2]) (X5.gg _ _ (XA.gg _ _ ht2)) (.cons (.int _) (.cons ((hu2.mono XA.gg).mono X5.gg) .nil))
    intro H2 G2 ys X2 _ hl2 gl2 da2
    have XF := X2.fix hD hl2
    have dE : D (upd G2 Dl (.lst ys)) (.ref Dl) (.list (rs.mapIdx newR)) := .lst upd_same (da2.mono (upd_same_ gl2))
    generalize upd G2 Dl (.lst ys) = GF at XF dE
    clear da2 gl2 X2 hl2
    obtain ⟨Dl_, es, e0, hDl, des⟩ := id dE.list_inv
    cases e0
    have les : es.length = rs.length := by rw [des.length, List.length_mapIdx]
    refine ⟨_, rfl, Dl, rfl, ⟨es, SqL.of (XF.sub _ _ hDl)⟩, fun D2 hD2 => ?_⟩
    have hHD : H D2 = none := XF.fresh hD2
    have gD : GF D2 = none := XF.sub.free hD2
    refine lcf_it (walk_list (xs := es)) (fun i H' => ∃ (G' : Hp) (zs : List V), Xt none H G H' G' ∧ Same GF G' ∧ H' D2 = some (.lst zs) ∧ G' D2 = none ∧ DA G' zs ((rowsOut rs).take i)) ?_ ?_ ?_ ?_
    · exact ⟨GF, [], XF.allocT hD2, fun _ _ h => h, upd_same, gD, .nil⟩
    · rintro i H' hi ⟨G', zs, X, s1, _⟩
      exact SqL.of (X.sub _ _ (s1 _ _ hDl))
    · rintro i y H3 H0_ hi ⟨G', zs, X, s1, hz, gz, dz⟩ ⟨rfl, hy⟩
      obtain ⟨d3, hd3, dy⟩ := des.get hy
      rw [List.getElem?_mapIdx] at hd3
      obtain ⟨r, hr_, rfl⟩ := Option.map_eq_some_iff.mp hd3
      have li : i < rs.length := (List.getElem?_eq_some_iff.mp hr_).1
      obtain ⟨tn, vs, rfl, htn, dw⟩ := D.tup_inv dy
      cases dw with
      | @cons x1 _ _ _ q1 dw =>
      cases dw with
      | @cons x2 _ _ _ q2 dw =>
      cases dw
      obtain rfl : x1 = nmV r.1 := by
        cases h : r.1 <;> rw [h] at q1 <;> cases q1 <;> rfl
      obtain ⟨t2, ws, rfl, ht2, dv⟩ := D.tup_inv q2
      cases dv with
      | @cons y1 _ _ _ p1 dv =>
      cases dv with
      | @cons y2 _ _ _ p2 dv =>
      cases dv
      cases p1
      have h2 := X.sub _ _ (s1 _ _ ht2)
      refine ⟨tn, _, rfl, SqT.of (X.sub _ _ (s1 _ _ htn)), rfl, _, _, rfl, _, _, rfl, rfl, rfl, ?_⟩
      refine ⟨_, rfl, rfl, _, rfl, ?_⟩
      rw [show (!decide (V.ref t2 = V.non)) = true by simp]
      have zl : zs.length = i := by rw [dz.length, List.length_take]; unfold rowsOut; rw [List.length_mapIdx]; omega
      refine iteT ⟨_, rfl, t2, _, _, _, rfl, rfl, SqT.of h2, rfl, _, rfl, _, rfl, t2, _, _, _, rfl, rfl, SqT.of h2, rfl, (by show 3 ≤ sizeLine; decide), fun u hu_ => ?_⟩
      have X4 := X.trans (Xt.new (b := none) (o := .tup [.int ((i : Nat) : Int), nmV r.1, y2]) X.sub hu_)
      have nDu : D2 ≠ u := fun e => by rw [← e, hz] at hu_; cases hu_
      have gu : G' u = none := X.sub.free hu_
      have gz4 : upd G' u (.tup [.int ((i : Nat) : Int), nmV r.1, y2]) D2 = none := by rw [upd_ne nDu]; exact gz
      refine ⟨zs, by rw [upd_ne nDu]; exact hz, small_lt (by omega), _, zs ++ [.ref u], X4.set hHD gz4, fun a o h => upd_same_ gu _ _ (s1 a o h), upd_same, gz4, ?_⟩
      have eo : (rowsOut rs)[i]? = some (outR i r) := by unfold rowsOut; rw [List.getElem?_mapIdx, hr_]; rfl
      rw [take_succ_of eo]
      refine (dz.mono (upd_same_ gu)).append (.cons (.tup (ds := [.int ((i : Nat) : Int), optS r.1, r.2]) upd_same (.cons (.int _) (.cons (optS_at _ _) (.cons ?_ .nil)))) .nil)
      exact (p2.mono s1).mono (upd_same_ gu)
    · rintro H3 ⟨G', zs, X, s1, hz, gz, dz⟩
      have lo : (rowsOut rs).length = rs.length := by unfold rowsOut; rw [List.length_mapIdx]
      rw [les, ← lo, List.take_length] at dz
      have zl : zs.length = rs.length := by rw [dz.length, lo]
      have at_ : ∀ (i : Nat) (v : V), zs[i]? = some v → ∃ (t : Addr) (ys : List V), v = .ref t ∧ H3 t = some (.tup (.int ((i : Nat) : Int) :: ys)) := fun i v hv => by
        obtain ⟨d4, hd4, dy⟩ := dz.get hv
        unfold rowsOut at hd4
        rw [List.getElem?_mapIdx] at hd4
        obtain ⟨r, _, rfl⟩ := Option.map_eq_some_iff.mp hd4
        obtain ⟨t, vs, rfl, ht, dw⟩ := D.tup_inv dy
        cases dw with
        | @cons x1 _ _ _ q1 dw =>
        cases q1
        exact ⟨t, _, rfl, X.sub _ _ ht⟩
      refine ⟨D2, zs, keyOf H3, rfl, hz, fun v hv => ?_, ?_, fun p hp => ?_⟩
      · obtain ⟨i, hi⟩ := List.mem_iff_getElem?.mp hv
        obtain ⟨t, ys, rfl, ht⟩ := at_ i v hi
        exact ⟨t, ys, rfl, by rw [keyOf_at ht]; exact ht⟩
      · refine List.pairwise_iff_getElem.mpr fun i j hi hj hij => ?_
        obtain ⟨t, ys, e, ht⟩ := at_ i _ (List.getElem?_eq_getElem hi)
        obtain ⟨t', ys', e', ht'⟩ := at_ j _ (List.getElem?_eq_getElem hj)
        rw [e, e', keyOf_at ht, keyOf_at ht']
        omega
      · have hHp : H p = none := X.fresh hp
        have gp : G' p = none := X.sub.free hp
        exact k p zs _ G' (X.allocT hp) hHp upd_same gp dz
end
end Nw
namespace Nw
open PySem L2 PySem.Spec PyProof.Rows RZ
/-! a database made -/

theorem badE_good {tops : List Int} : ∀ (ds : List PyData) (ns : List Str) (i : Nat), badE tops ns i ds = none → ns.Nodup → ∃ rs : List Rw, ds = rs.map rwD ∧ (ns ++ nmsR rs).Nodup
  | [], ns, _, _, nd => ⟨[], rfl, by show (ns ++ []).Nodup; rw [List.append_nil]; exact nd⟩
  | d :: ds, ns, i, h, nd => by
    cases ir : isRowD tops d with
    | false => rw [badE_no ir] at h; cases h
    | true =>
      obtain ⟨v, hv, hk⟩ := isRow_inv ir
      rcases hk with rfl | ⟨z, hz, rfl⟩
      · rw [badE_non ir] at h
        obtain ⟨rs, e, nd'⟩ := badE_good ds ns (i + 1) h nd
        exact ⟨(none, v) :: rs, by rw [e]; rfl, nd'⟩
      · rw [badE_str ir] at h
        by_cases c : z ∈ ns
        · rw [if_pos c] at h; cases h
        · rw [if_neg c] at h
          obtain ⟨rs, e, nd'⟩ := badE_good ds (ns ++ [z]) (i + 1) h (List.nodup_append.mpr ⟨nd, by simp, fun a ha b hb q => by rw [List.mem_singleton.mp hb] at q; exact c (q ▸ ha)⟩)
          refine ⟨(some z, v) :: rs, by rw [e]; rfl, ?_⟩
          rw [List.append_assoc] at nd'
          exact nd'
theorem Xt.down {G Gb H H1 : Hp} (s : Same G Gb) (x : Xt none H Gb H1 Gb) : Xt none H G H1 G := ⟨fun a o h => x.sub0 a o (s a o h), fun _ _ h => h, fun a o h => x.sub a o (s a o h), x.hh, x.th, fun _ _ h => .inl h⟩
def holF (s t a w : Addr) : List (Str × V) := putF "_wishes" (.ref w) (putF "_acts" (.ref a) (putF "_tables" (.ref t) (putF "_store" (.ref s) [])))
def HLF : List Str := ["_store", "_tables", "_acts", "_wishes"]
def dbF (s h : Addr) : List (Str × V) := putF "_many" (.int 0) (putF "_holds" (.ref h) (putF "_store" (.ref s) []))
def DBF : List Str := ["_store", "_holds", "_many"]
def spHol (C : Addr) : Sp := fun vs H Q _ => ∃ (x dx s : Addr) (H0 G : Hp), vs = [.ref x, .ref s] ∧ H0 x = none ∧ H0 dx = none ∧ dx ≠ x ∧ H = upd (upd H0 dx (.own x)) x (.ins C dx []) ∧ Same G H0 ∧ ∀ H', Xt none H0 G H' G → Q .non H'
/-- a database with these rows -/
def DbAt (DC SC : Addr) (G : Hp) (x : Addr) (rs : List Rw) : Prop := ∃ dx s h : Addr, G x = some (.ins DC dx (dbF s h)) ∧ G dx = some (.own x) ∧ StoAt SC G s rs
theorem DbAt.mono {DC SC : Addr} {G G' : Hp} (sm : Same G G') {x : Addr} {rs : List Rw} (h : DbAt DC SC G x rs) : DbAt DC SC G' x rs := by
  obtain ⟨dx, s, h_, h1, h2, h3⟩ := h
  exact ⟨dx, s, h_, sm _ _ h1, sm _ _ h2, h3.mono sm⟩
def spDb (TC DC SC : Addr) : Sp := fun vs H Q _ => ∃ (x dx tb a : Addr) (xs : List V) (ds : List PyData) (cols : List Col) (H0 G : Hp), vs = [.ref x, .ref tb, .ref a] ∧ H0 x = none ∧ H0 dx = none ∧ dx ≠ x ∧ H = upd (upd H0 dx (.own x)) x (.ins DC dx []) ∧ H0 a = some (.lst xs) ∧ DA G xs ds ∧ ds.length ≤ 100 ∧ (∀ d ∈ ds, shortD d) ∧ TabAt TC G tb cols ∧ Good n11 cols ∧ Same G H0 ∧ badE (cols.map (·.2)) [] 0 ds = none ∧
  ∀ (rs : List Rw) (H' G' : Hp), ds = rs.map rwD → Xt none H0 G H' G' → DbAt DC SC G' x rs → Q .non H'
def spDbX (TC DC SC CE : Addr) : Sp := fun vs H Q E => ∃ (x dx tb a : Addr) (xs : List V) (ds : List PyData) (cols : List Col) (H0 G : Hp), vs = [.ref x, .ref tb, .ref a] ∧ H0 x = none ∧ H0 dx = none ∧ dx ≠ x ∧ H = upd (upd H0 dx (.own x)) x (.ins DC dx []) ∧ H0 a = some (.lst xs) ∧ DA G xs ds ∧ ds.length ≤ 100 ∧ (∀ d ∈ ds, shortD d) ∧ TabAt TC G tb cols ∧ Good n11 cols ∧ Same G H0 ∧
  (badE (cols.map (·.2)) [] 0 ds = none → ∀ (rs : List Rw) (H' G' : Hp), ds = rs.map rwD → Xt none H0 G H' G' → DbAt DC SC G' x rs → Q .non H') ∧
  (∀ i : Nat, badE (cols.map (·.2)) [] 0 ds = some i → ∀ (H1 G1 : Hp) (d : Addr), Xt none H0 G H1 G1 → H1 d = none → E (.ref CE) (some d) (upd H1 d (.xd [("at", .int ((i : Nat) : Int))])))
section
variable {P : Program} {w : World} {K : PySem.W.Frag} {mg : Str → Option Value} {base : Heap}
theorem holInit {f C : Addr} {fd : FuncData} (F : C8.Fun K "__init__" "Holds.__init__" s_Holds____init__ f fd) (b : Binds K fd P_Holds____init__ []) (M : Mk K C f) (hm : mg "Holds" = some (.ref C)) (HC : ClsF K C HLF) : C8.Mak P w K mg base 1 "Holds" C (spHol C) [] := by
  refine C8.mak0 (N := N_Holds____init__) M hm F b .nil sc_Holds____init__ (fun vs H Q E h => ?_) (fun cdv A outer s H vs Q E hr h => ?_)
  · obtain ⟨x, dx, s, H0, G, rfl, _⟩ := h
    rfl
  · obtain ⟨x, dx, s, H0, G, rfl, nx, ndx, nex, hH, sG, k⟩ := h
    refine ⟨_, (pss_cons (ps_fld (pv 0) (pv 1) rfl)
 (pss_cons (ps_fld (pv 0) pe_dnewK rfl)
 (pss_cons (ps_fld (pv 0) pe_dnewK rfl)
 (pss_one (ps_fld (pv 0) pe_dnewK rfl))))), ?_⟩
    have hdx0 : upd H0 dx (.own x) x = none := by rw [upd_ne nex.symm]; exact nx
    have X0 : Xt none H0 G H G := by rw [hH]; exact (Xt.tmp sG ndx).allocT hdx0
    have hX : H x = some (.ins C dx []) := by rw [hH]; exact upd_same
    have gx : G x = none := sG.free nx
    clear hH
    refine ⟨_, rfl, _, rfl, x, C, dx, _, rfl, hX, HC.cl, HC.no _ (by decide +kernel), by decide, ?_⟩
    have X1 := X0.set (o := .ins C dx (putF "_store" (.ref s) [])) nx gx
    have hX1 : upd H x (.ins C dx (putF "_store" (.ref s) [])) x = some (.ins C dx (putF "_store" (.ref s) [])) := upd_same
    generalize upd H x (.ins C dx (putF "_store" (.ref s) [])) = H1 at X1 hX1 ⊢
    refine fun t ht => ?_
    have X2 := X1.allocT (o := .dK []) ht
    have n1 : x ≠ t := fun q => by rw [← q, hX1] at ht; cases ht
    refine ⟨_, rfl, x, C, dx, _, rfl, by rw [upd_ne n1]; exact hX1, HC.cl, HC.no _ (by decide +kernel), (by show 1 < 1000; decide), ?_⟩
    have X3 := X2.set (o := .ins C dx (putF "_tables" (.ref t) (putF "_store" (.ref s) []))) nx gx
    have hX3 : upd (upd H1 t (.dK [])) x (.ins C dx (putF "_tables" (.ref t) (putF "_store" (.ref s) []))) x = some (.ins C dx (putF "_tables" (.ref t) (putF "_store" (.ref s) []))) := upd_same
    generalize upd (upd H1 t (.dK [])) x (.ins C dx (putF "_tables" (.ref t) (putF "_store" (.ref s) []))) = H3 at X3 hX3 ⊢
    refine fun a ha => ?_
    have X4 := X3.allocT (o := .dK []) ha
    have n2 : x ≠ a := fun q => by rw [← q, hX3] at ha; cases ha
    refine ⟨_, rfl, x, C, dx, _, rfl, by rw [upd_ne n2]; exact hX3, HC.cl, HC.no _ (by decide +kernel), (by show 2 < 1000; decide), ?_⟩
    have X5 := X4.set (o := .ins C dx (putF "_acts" (.ref a) (putF "_tables" (.ref t) (putF "_store" (.ref s) [])))) nx gx
    have hX5 : upd (upd H3 a (.dK [])) x (.ins C dx (putF "_acts" (.ref a) (putF "_tables" (.ref t) (putF "_store" (.ref s) [])))) x = some (.ins C dx (putF "_acts" (.ref a) (putF "_tables" (.ref t) (putF "_store" (.ref s) [])))) := upd_same
    generalize upd (upd H3 a (.dK [])) x (.ins C dx (putF "_acts" (.ref a) (putF "_tables" (.ref t) (putF "_store" (.ref s) [])))) = H5 at X5 hX5 ⊢
    refine fun wi hwi => ?_
    have X6 := X5.allocT (o := .dK []) hwi
    have n3 : x ≠ wi := fun q => by rw [← q, hX5] at hwi; cases hwi
    refine ⟨_, rfl, x, C, dx, _, rfl, by rw [upd_ne n3]; exact hX5, HC.cl, HC.no _ (by decide +kernel), (by show 3 < 1000; decide), ?_⟩
    exact k _ (X6.set nx gx)
theorem dbInit {f TC DC SC HC : Addr} {fd : FuncData} (F : C8.Fun K "__init__" "Database.__init__" s_Database____init__ f fd) (T : Names K mg) (CC : ClsF K DC DBF) (c_wrong_entry : C8.Cal P w K mg base 4 "wrong_entry" (spWrongE TC) []) (m_Store : C8.Mak P w K mg base 1 "Store" SC (spSto SC) []) (m_Holds : C8.Mak P w K mg base 1 "Holds" HC (spHol HC) []) : FnOk P w K mg base C8.CX0 5 f fd P_Database____init__ (spDb TC DC SC) := by
  refine C8.fn0 (N := N_Database____init__) F sc_Database____init__ (fun vs H Q E h => ?_) (fun cdv A outer s H vs Q E hr h => ?_)
  · obtain ⟨x, dx, tb, a, xs, ds, cols, H0, G, rfl, _⟩ := h
    rfl
  · obtain ⟨x, dx, tb, a, xs, ds, cols, H0, G, rfl, nx, ndx, nex, hH, ha0, da, h100, hsh, ta, good, sG, good_, k⟩ := h
    have hu := hu_of hr
    refine ⟨_, (pss_cons (ps_set (i := 3) sc_Database____init__.nd rfl (Or.inl rfl) (C8.pe_c c_wrong_entry hr (by decide) rfl (pa_cons (pv 2) (pa_cons (pv 1) pa_nil))))
 (pss_cons (ps_if (pt_cmpR op_notN (pv 3) pe_non (nomark _)) (pss_one ps_never) pss_nil)
 (pss_cons (ps_fld (pv 0) (C8.pe_mk m_Store hr (by decide) rfl (pa_cons (pv 2) pa_nil)) rfl)
 (pss_cons (ps_fld (pv 0) (C8.pe_mk m_Holds hr (by decide) rfl (pa_cons (pe_fld (pv 0) rfl) pa_nil)) rfl)
 (pss_one (ps_fld (pv 0) (pe_lock pe_int) rfl)))))), ?_⟩
    have hdx0 : upd H0 dx (.own x) x = none := by rw [upd_ne nex.symm]; exact nx
    have X0 : Xt none H0 G H G := by rw [hH]; exact (Xt.tmp sG ndx).allocT hdx0
    have hX : H x = some (.ins DC dx []) := by rw [hH]; exact upd_same
    have hDX : H dx = some (.own x) := by rw [hH, upd_ne nex]; exact upd_same
    have gx : G x = none := sG.free nx
    have gdx : G dx = none := sG.free ndx
    have nn : ∀ a : Addr, (none : Option Addr) ≠ some a := fun a q => by cases q
    clear hH
    have hHa : H a = some (.lst xs) := X0.hh a _ (nn _) ha0
    have sGa : Same G (upd G a (.lst xs)) := fun u o e => by
      by_cases q : u = a
      · subst q
        have := sG _ _ e
        rw [ha0] at this
        rw [upd_same]; exact this
      · rw [upd_ne q]; exact e
    have sGb : Same (upd G a (.lst xs)) H := fun u o e => by
      by_cases q : u = a
      · subst q
        rw [upd_same] at e
        rw [← e]; exact hHa
      · rw [upd_ne q] at e
        exact X0.sub _ _ e
    refine ⟨_, rfl, _, rfl, a, tb, ds, cols, upd G a (.lst xs), rfl, .lst upd_same (da.mono sGa), h100, hsh, ta.mono sGa, good, sGb, fun H1 X1a => ?_⟩
    have X1 : Xt none H G H1 G := Xt.down sGa X1a
    have XX := X0.trans X1
    have hX1 := X1.hh x _ (nn _) hX
    have hDX1 := X1.hh dx _ (nn _) hDX
    rw [good_]
    refine ⟨_, rfl, rfl, _, rfl, ?_⟩
    rw [show (!decide (optV none = V.non)) = false by decide]
    obtain ⟨rs, er, nd⟩ := badE_good ds [] 0 good_ List.nodup_nil
    have nd : (nmsR rs).Nodup := nd
    have hd' := da
    rw [er] at hd'
    have hHa1 := X1.hh a _ (nn _) hHa
    refine iteF ⟨_, rfl, fun s dx2 n1 n2 n3 => ⟨s, dx2, a, xs, rs, H1, G, rfl, n1, n2, n3, rfl, hHa1, hd', by rw [er, List.length_map] at h100; exact h100, nd, XX.sub, fun d kvs H2 G2 X2 hd0 gd hd2 gs gdx2 kv => ⟨rfl, ?_⟩⟩⟩
    have X3 := XX.trans X2
    have hX2 := X2.hh x _ (nn _) hX1
    have hDX2 := X2.hh dx _ (nn _) hDX1
    have gx2 := X2.non (ne_none_of hX1) gx
    have gdx2' := X2.non (ne_none_of hDX1) gdx
    have hHd : H0 d = none := XX.fresh hd0
    refine ⟨_, rfl, x, DC, dx, _, rfl, hX2, CC.cl, CC.no _ (by decide +kernel), by decide, ?_⟩
    have X4 := X3.set (o := .ins DC dx (putF "_store" (.ref s) [])) nx gx2
    have hX4 : upd H2 x (.ins DC dx (putF "_store" (.ref s) [])) x = some (.ins DC dx (putF "_store" (.ref s) [])) := upd_same
    have hDX4 : upd H2 x (.ins DC dx (putF "_store" (.ref s) [])) dx = some (.own x) := by rw [upd_ne nex]; exact hDX2
    have ndx_ : d ≠ x := fun q => by rw [q, hX2] at hd2; cases hd2
    have nddx : d ≠ dx := fun q => by rw [q, hDX2] at hd2; cases hd2
    have hd4 : upd H2 x (.ins DC dx (putF "_store" (.ref s) [])) d = some (.dK kvs) := by rw [upd_ne ndx_]; exact hd2
    generalize upd H2 x (.ins DC dx (putF "_store" (.ref s) [])) = H4 at X4 hX4 hDX4 hd4 ⊢
    refine ⟨_, rfl, x, DC, dx, _, _, rfl, hX4, CC.cl, CC.no _ (by decide +kernel), rfl, fun h dh m1 m2 m3 => ⟨h, dh, s, H4, G2, rfl, m1, m2, m3, rfl, X4.sub, fun H5 X5 => ⟨rfl, ?_⟩⟩⟩
    have X6 := X4.trans X5
    have hX5 := X5.hh x _ (nn _) hX4
    have hDX5 := X5.hh dx _ (nn _) hDX4
    have hd5 := X5.hh d _ (nn _) hd4
    refine ⟨_, rfl, x, DC, dx, _, rfl, hX5, CC.cl, CC.no _ (by decide +kernel), (by show 1 < 1000; decide), ?_⟩
    have X7 := X6.set (o := .ins DC dx (putF "_holds" (.ref h) (putF "_store" (.ref s) []))) nx gx2
    have hX7 : upd H5 x (.ins DC dx (putF "_holds" (.ref h) (putF "_store" (.ref s) []))) x = some (.ins DC dx (putF "_holds" (.ref h) (putF "_store" (.ref s) []))) := upd_same
    have hDX7 : upd H5 x (.ins DC dx (putF "_holds" (.ref h) (putF "_store" (.ref s) []))) dx = some (.own x) := by rw [upd_ne nex]; exact hDX5
    have hd7 : upd H5 x (.ins DC dx (putF "_holds" (.ref h) (putF "_store" (.ref s) []))) d = some (.dK kvs) := by rw [upd_ne ndx_]; exact hd5
    generalize upd H5 x (.ins DC dx (putF "_holds" (.ref h) (putF "_store" (.ref s) []))) = H7 at X7 hX7 hDX7 hd7 ⊢
    refine ⟨d, _, hd7, True.intro, fun od => ?_⟩
    have X8 := X7.set (o := .frz od (.dK kvs)) hHd gd
    have hX8 : upd H7 d (.frz od (.dK kvs)) x = some (.ins DC dx (putF "_holds" (.ref h) (putF "_store" (.ref s) []))) := by rw [upd_ne ndx_.symm]; exact hX7
    have hDX8 : upd H7 d (.frz od (.dK kvs)) dx = some (.own x) := by rw [upd_ne nddx.symm]; exact hDX7
    have hd8 : upd H7 d (.frz od (.dK kvs)) d = some (.frz od (.dK kvs)) := upd_same
    generalize upd H7 d (.frz od (.dK kvs)) = H8 at X8 hX8 hDX8 hd8 ⊢
    refine ⟨_, rfl, x, DC, dx, _, rfl, hX8, CC.cl, CC.no _ (by decide +kernel), (by show 2 < 1000; decide), ?_⟩
    have X9 := X8.set (o := .ins DC dx (dbF s h)) nx gx2
    have hX9 : upd H8 x (.ins DC dx (dbF s h)) x = some (.ins DC dx (dbF s h)) := upd_same
    have hDX9 : upd H8 x (.ins DC dx (dbF s h)) dx = some (.own x) := by rw [upd_ne nex]; exact hDX8
    have hd9 : upd H8 x (.ins DC dx (dbF s h)) d = some (.frz od (.dK kvs)) := by rw [upd_ne ndx_]; exact hd8
    have XA := ((X9.fix nx hX9).fix ndx hDX9).fix hHd hd9
    have sm : Same G2 (upd (upd (upd G2 x (.ins DC dx (dbF s h))) dx (.own x)) d (.frz od (.dK kvs))) := fun u o e => by
      rw [upd_ne (fun q => by rw [q, gd] at e; cases e), upd_ne (fun q => by rw [q, gdx2'] at e; cases e), upd_ne (fun q => by rw [q, gx2] at e; cases e)]; exact e
    exact k rs _ _ er XA ⟨dx, s, h, by rw [upd_ne ndx_.symm, upd_ne nex.symm, upd_same], by rw [upd_ne nddx.symm, upd_same], dx2, d, od, kvs, sm _ _ gs, sm _ _ gdx2, upd_same, kv.mono sm⟩
theorem dbInitX {f fE TC DC SC HC CE : Addr} {fd fdE : FuncData} (F : C8.Fun K "__init__" "Database.__init__" s_Database____init__ f fd) (T : Names K mg) (CC : ClsF K DC DBF) (c_wrong_entry : C8.Cal P w K mg base 4 "wrong_entry" (spWrongE TC) []) (m_Store : C8.Mak P w K mg base 1 "Store" SC (spSto SC) []) (m_Holds : C8.Mak P w K mg base 1 "Holds" HC (spHol HC) [])
    (OC : OexC K CE) (iC : PySem.W.findIn K (.ref CE) "__init__" = some (some (.ref fE))) (tI : PySem.W.typeIn K (.ref fE) = some (.type "function")) (FE : FnOk P w K mg base C8.CX0 2 fE fdE P_BadDatabase____init__ (spErrF CE "at")) (bE : Binds K fdE P_BadDatabase____init__ []) (gE : mg "BadDatabase" = some (.ref CE)) : FnOk P w K mg base (L2.CX P w) 5 f fd P_Database____init__ (spDbX TC DC SC CE) := by
  refine fnX (N := N_Database____init__) F sc_Database____init__ (fun vs H Q E h => ?_) (fun cdv A outer s H vs Q E hr h => ?_)
  · obtain ⟨x, dx, tb, a, xs, ds, cols, H0, G, rfl, _⟩ := h
    rfl
  · obtain ⟨x, dx, tb, a, xs, ds, cols, H0, G, rfl, nx, ndx, nex, hH, ha0, da, h100, hsh, ta, good, sG, kQ, kE⟩ := h
    have hu := hu_of hr
    refine ⟨_, (pss_cons (ps_set (i := 3) sc_Database____init__.nd rfl (Or.inl rfl) (C8.pe_c c_wrong_entry hr (by decide) rfl (pa_cons (pv 2) (pa_cons (pv 1) pa_nil))))
 (pss_cons (ps_if (pt_cmpR op_notN (pv 3) pe_non (nomark _)) (pss_one (ps_raise rfl (takes_of rfl rfl rfl rfl) (pmk_oex OC iC tI FE (hr.mono (by decide)) bE .nil C8.pass0 rfl gE (pa_cons (pv 3) pa_nil)))) pss_nil)
 (pss_cons (ps_fld (pv 0) (C8.pe_mk m_Store hr (by decide) rfl (pa_cons (pv 2) pa_nil)) rfl)
 (pss_cons (ps_fld (pv 0) (C8.pe_mk m_Holds hr (by decide) rfl (pa_cons (pe_fld (pv 0) rfl) pa_nil)) rfl)
 (pss_one (ps_fld (pv 0) (pe_lock pe_int) rfl)))))), ?_⟩
    have hdx0 : upd H0 dx (.own x) x = none := by rw [upd_ne nex.symm]; exact nx
    have X0 : Xt none H0 G H G := by rw [hH]; exact (Xt.tmp sG ndx).allocT hdx0
    have hX : H x = some (.ins DC dx []) := by rw [hH]; exact upd_same
    have hDX : H dx = some (.own x) := by rw [hH, upd_ne nex]; exact upd_same
    have gx : G x = none := sG.free nx
    have gdx : G dx = none := sG.free ndx
    have nn : ∀ a : Addr, (none : Option Addr) ≠ some a := fun a q => by cases q
    clear hH
    have hHa : H a = some (.lst xs) := X0.hh a _ (nn _) ha0
    have sGa : Same G (upd G a (.lst xs)) := fun u o e => by
      by_cases q : u = a
      · subst q
        have := sG _ _ e
        rw [ha0] at this
        rw [upd_same]; exact this
      · rw [upd_ne q]; exact e
    have sGb : Same (upd G a (.lst xs)) H := fun u o e => by
      by_cases q : u = a
      · subst q
        rw [upd_same] at e
        rw [← e]; exact hHa
      · rw [upd_ne q] at e
        exact X0.sub _ _ e
    refine ⟨_, rfl, _, rfl, a, tb, ds, cols, upd G a (.lst xs), rfl, .lst upd_same (da.mono sGa), h100, hsh, ta.mono sGa, good, sGb, fun H1 X1a => ?_⟩
    have X1 : Xt none H G H1 G := Xt.down sGa X1a
    have XX := X0.trans X1
    have hX1 := X1.hh x _ (nn _) hX
    have hDX1 := X1.hh dx _ (nn _) hDX
    have raise : ∀ (i : Nat), badE (cols.map (·.2)) [] 0 ds = some i → ∀ e, H1 e = none → spErrF CE "at" (.ref e :: ([.int ((i : Nat) : Int)] ++ [])) (upd H1 e (exo e CE none)) (fun v H2 => v = .non ∧ ∃ (d : Addr) (fs : List (Str × V)), H2 e = some (exo e CE (some d)) ∧ H2 d = some (exd d fs) ∧ H1 d = none ∧ E (.ref CE) (some d) (upd (del H2 e) d (.xd fs))) (fun _ _ _ => False) := by
      intro i hb e he
      refine ⟨e, _, rfl, .inl ⟨_, rfl⟩, upd_same, fun dx' hd' ne' => ⟨rfl, dx', [("at", .int ((i : Nat) : Int))], upd_same, by rw [upd_ne ne']; exact upd_same, ?_, ?_⟩⟩
      · rw [upd_ne ne'] at hd'; exact hd'
      · rw [err_heap he ne']
        exact kE i hb H1 G dx' XX (by rw [upd_ne ne'] at hd'; exact hd')
    cases good_ : badE (cols.map (·.2)) [] 0 ds with
    | some i =>
      refine ⟨_, rfl, rfl, _, rfl, ?_⟩
      rw [show (!decide (optV (some i) = V.non)) = true by simp [optV]]
      exact iteT ⟨_, rfl, (by show 1 ≤ 1000; decide), fun e he => raise i good_ e he⟩
    | none =>
    refine ⟨_, rfl, rfl, _, rfl, ?_⟩
    rw [show (!decide (optV none = V.non)) = false by decide]
    obtain ⟨rs, er, nd⟩ := badE_good ds [] 0 good_ List.nodup_nil
    have nd : (nmsR rs).Nodup := nd
    have hd' := da
    rw [er] at hd'
    have hHa1 := X1.hh a _ (nn _) hHa
    refine iteF ⟨_, rfl, fun s dx2 n1 n2 n3 => ⟨s, dx2, a, xs, rs, H1, G, rfl, n1, n2, n3, rfl, hHa1, hd', by rw [er, List.length_map] at h100; exact h100, nd, XX.sub, fun d kvs H2 G2 X2 hd0 gd hd2 gs gdx2 kv => ⟨rfl, ?_⟩⟩⟩
    have X3 := XX.trans X2
    have hX2 := X2.hh x _ (nn _) hX1
    have hDX2 := X2.hh dx _ (nn _) hDX1
    have gx2 := X2.non (ne_none_of hX1) gx
    have gdx2' := X2.non (ne_none_of hDX1) gdx
    have hHd : H0 d = none := XX.fresh hd0
    refine ⟨_, rfl, x, DC, dx, _, rfl, hX2, CC.cl, CC.no _ (by decide +kernel), by decide, ?_⟩
    have X4 := X3.set (o := .ins DC dx (putF "_store" (.ref s) [])) nx gx2
    have hX4 : upd H2 x (.ins DC dx (putF "_store" (.ref s) [])) x = some (.ins DC dx (putF "_store" (.ref s) [])) := upd_same
    have hDX4 : upd H2 x (.ins DC dx (putF "_store" (.ref s) [])) dx = some (.own x) := by rw [upd_ne nex]; exact hDX2
    have ndx_ : d ≠ x := fun q => by rw [q, hX2] at hd2; cases hd2
    have nddx : d ≠ dx := fun q => by rw [q, hDX2] at hd2; cases hd2
    have hd4 : upd H2 x (.ins DC dx (putF "_store" (.ref s) [])) d = some (.dK kvs) := by rw [upd_ne ndx_]; exact hd2
    generalize upd H2 x (.ins DC dx (putF "_store" (.ref s) [])) = H4 at X4 hX4 hDX4 hd4 ⊢
    refine ⟨_, rfl, x, DC, dx, _, _, rfl, hX4, CC.cl, CC.no _ (by decide +kernel), rfl, fun h dh m1 m2 m3 => ⟨h, dh, s, H4, G2, rfl, m1, m2, m3, rfl, X4.sub, fun H5 X5 => ⟨rfl, ?_⟩⟩⟩
    have X6 := X4.trans X5
    have hX5 := X5.hh x _ (nn _) hX4
    have hDX5 := X5.hh dx _ (nn _) hDX4
    have hd5 := X5.hh d _ (nn _) hd4
    refine ⟨_, rfl, x, DC, dx, _, rfl, hX5, CC.cl, CC.no _ (by decide +kernel), (by show 1 < 1000; decide), ?_⟩
    have X7 := X6.set (o := .ins DC dx (putF "_holds" (.ref h) (putF "_store" (.ref s) []))) nx gx2
    have hX7 : upd H5 x (.ins DC dx (putF "_holds" (.ref h) (putF "_store" (.ref s) []))) x = some (.ins DC dx (putF "_holds" (.ref h) (putF "_store" (.ref s) []))) := upd_same
    have hDX7 : upd H5 x (.ins DC dx (putF "_holds" (.ref h) (putF "_store" (.ref s) []))) dx = some (.own x) := by rw [upd_ne nex]; exact hDX5
    have hd7 : upd H5 x (.ins DC dx (putF "_holds" (.ref h) (putF "_store" (.ref s) []))) d = some (.dK kvs) := by rw [upd_ne ndx_]; exact hd5
    generalize upd H5 x (.ins DC dx (putF "_holds" (.ref h) (putF "_store" (.ref s) []))) = H7 at X7 hX7 hDX7 hd7 ⊢
    refine ⟨d, _, hd7, True.intro, fun od => ?_⟩
    have X8 := X7.set (o := .frz od (.dK kvs)) hHd gd
    have hX8 : upd H7 d (.frz od (.dK kvs)) x = some (.ins DC dx (putF "_holds" (.ref h) (putF "_store" (.ref s) []))) := by rw [upd_ne ndx_.symm]; exact hX7
    have hDX8 : upd H7 d (.frz od (.dK kvs)) dx = some (.own x) := by rw [upd_ne nddx.symm]; exact hDX7
    have hd8 : upd H7 d (.frz od (.dK kvs)) d = some (.frz od (.dK kvs)) := upd_same
    generalize upd H7 d (.frz od (.dK kvs)) = H8 at X8 hX8 hDX8 hd8 ⊢
    refine ⟨_, rfl, x, DC, dx, _, rfl, hX8, CC.cl, CC.no _ (by decide +kernel), (by show 2 < 1000; decide), ?_⟩
    have X9 := X8.set (o := .ins DC dx (dbF s h)) nx gx2
    have hX9 : upd H8 x (.ins DC dx (dbF s h)) x = some (.ins DC dx (dbF s h)) := upd_same
    have hDX9 : upd H8 x (.ins DC dx (dbF s h)) dx = some (.own x) := by rw [upd_ne nex]; exact hDX8
    have hd9 : upd H8 x (.ins DC dx (dbF s h)) d = some (.frz od (.dK kvs)) := by rw [upd_ne ndx_]; exact hd8
    have XA := ((X9.fix nx hX9).fix ndx hDX9).fix hHd hd9
    have sm : Same G2 (upd (upd (upd G2 x (.ins DC dx (dbF s h))) dx (.own x)) d (.frz od (.dK kvs))) := fun u o e => by
      rw [upd_ne (fun q => by rw [q, gd] at e; cases e), upd_ne (fun q => by rw [q, gdx2'] at e; cases e), upd_ne (fun q => by rw [q, gx2] at e; cases e)]; exact e
    exact kQ good_ rs _ _ er XA ⟨dx, s, h, by rw [upd_ne ndx_.symm, upd_ne nex.symm, upd_same], by rw [upd_ne nddx.symm, upd_same], dx2, d, od, kvs, sm _ _ gs, sm _ _ gdx2, upd_same, kv.mono sm⟩
end
end Nw
namespace Nw
open PySem L2 PySem.Spec PyProof.Rows RZ
/-! committed(); _law_told of k59 -/
def spCom (DC SC : Addr) : Sp := fun vs H Q _ => ∃ (x : Addr) (rs : List Rw) (G : Hp), vs = [.ref x] ∧ DbAt DC SC G x rs ∧ rs.length ≤ 100 ∧ Same G H ∧
  ∀ (q : Addr) (xs : List V) (H' G' : Hp), Xt none H G H' G' → H q = none → H' q = some (.lst xs) → G' q = none → DA G' xs (rowsOut rs) → Q (.ref q) H'
/-- what the top leaves of the error -/
structure ErrD (K : PySem.W.Frag) (mg : Str → Option Value) (CE CN : Addr) : Prop where
  ec : ErrC K CE
  xc : XfC K CE
  nA : PySem.W.findIn K (.ref CE) "at" = some none
  gE : mg "BadDatabase" = some (.ref CE)
  gN : mg "NewestrowError" = some (.ref CN)
  nV : mg "ValueError" = none
  ex : PySem.W.exmOne K (.ref CE) (.ref CE) = some true
  kN : PySem.W.kitOne K (.ref CE) (.ref CN) = some true
  kV : PySem.W.kitOne K (.ref CE) (.type "ValueError") = some true
def dueD (tops : List Int) (ds : List PyData) : PyData := match badE tops [] 0 ds with
  | some i => .int ((i : Nat) : Int)
  | none => .list (ds.mapIdx fun i d => match d with
    | .tuple [n, v] => .tuple [.int ((i : Nat) : Int), n, v]
    | d => d)
theorem due_rows {rs : List Rw} : ((rs.map rwD).mapIdx fun (i : Nat) (d : PyData) => match d with
    | .tuple [n, v] => PyData.tuple [.int ((i : Nat) : Int), n, v]
    | d => d) = rowsOut rs := by
  unfold rowsOut
  refine List.ext_getElem? fun i => ?_
  rw [List.getElem?_mapIdx, List.getElem?_mapIdx, List.getElem?_map]
  cases rs[i]? <;> rfl
def spTold (TC : Addr) : Sp := fun vs H Q _ => ∃ (tb a : Addr) (ds : List PyData) (cols : List Col) (G : Hp), vs = [.ref tb, .ref a] ∧ D G (.ref a) (.list ds) ∧ ds.length ≤ 100 ∧ (∀ d ∈ ds, shortD d) ∧ TabAt TC G tb cols ∧ Good n11 cols ∧ Same G H ∧
  ∀ (v : V) (H' G' : Hp), Xt none H G H' G' → D G' v (dueD (cols.map (·.2)) ds) → Q v H'
section
variable {P : Program} {w : World} {K : PySem.W.Frag} {mg : Str → Option Value} {base : Heap}
theorem committed_ {f DC SC : Addr} {fd : FuncData} (F : C8.Fun K "committed" "Database.committed" s_Database__committed f fd) (b : Binds K fd P_Database__committed []) (me : Meth K DC "committed" f) (CC : ClsF K DC DBF) (c_Store__committed_rows : C8.Met P w K mg base 2 SC "committed_rows" (spRows SC) []) : C8.Met P w K mg base 3 DC "committed" (spCom DC SC) [] := by
  refine C8.met0 (N := N_Database__committed) CC.cl me F b sc_Database__committed (fun vs H Q E h => ?_) (fun cdv A outer s H vs Q E hr h => ?_)
  · obtain ⟨x, rs, G, rfl, _⟩ := h
    rfl
  · obtain ⟨x, rs, G, rfl, ⟨dx, s, h_, g1, g2, st⟩, h100, sG, k⟩ := h
    refine ⟨_, (pss_one (ps_ret (C8.pe_mt0 c_Store__committed_rows hr (by decide) (pe_fld (pv 0) rfl)))), ?_⟩
    obtain ⟨dx2, d, od, kvs, s1, _⟩ := id st
    have nf : (stoF rs.length d).lookup ("committed_rows" : Str) = none := by
      unfold stoF
      rw [lookup_putF, lookup_putF, lookup_putF]
      rfl
    exact ⟨_, rfl, x, DC, dx, _, _, rfl, sG _ _ g1, CC.cl, CC.no _ (by decide +kernel), rfl, s, dx2, _, rfl, sG _ _ s1, nf, s, rs, G, rfl, st, h100, sG, k⟩
theorem lTold {f fT TC DC SC CE CN : Addr} {fd fdT : FuncData} (F : C8.Def K mg "_law_told" s__law_told f fd) (b : Binds K fd P__law_told []) (T : Names K mg) (TE : ErrD K mg CE CN)
    (M_T : Mk K DC fT) (F_T : FnOk P w K mg base (L2.CX P w) 5 fT fdT P_Database____init__ (spDbX TC DC SC CE)) (b_T : Binds K fdT P_Database____init__ []) (hm_T : mg "Database" = some (.ref DC)) (c_Database__committed : C8.Met P w K mg base 3 DC "committed" (spCom DC SC) []) : C8.Cal P w K mg base 7 "_law_told" (spTold TC) [] := by
  refine C8.cal0 (N := N__law_told) F b .nil sc__law_told (fun vs H Q E h => ?_) (fun cdv A outer s H vs Q E hr h => ?_)
  · obtain ⟨tb, a, ds, cols, G, rfl, _⟩ := h
    rfl
  · obtain ⟨tb, a, ds, cols, G, rfl, hd, h100, hsh, ta, good, sG, k⟩ := h
    obtain ⟨a_, xs, e0, ha, da⟩ := id hd.list_inv
    cases e0
    refine ⟨_, pss_one (ps_try_asN (Wo := fun _ _ _ _ => False) (l := [(_, _, _)]) (tb := fun W => tRet (tMeth DC "committed" (spCom DC SC) [] C8.E0 (tMakeS DC (spDbX TC DC SC CE) (WE W) (tCons (tVar 0) (tCons (tVar 1) tNil))) tNil)) rfl rfl sc__law_told.nd takes0
          (fun W pn xe tk _ => pss_one (ps_ret (by exact (C8.pe_mt0 c_Database__committed hr (by decide) (pe_makeS M_T F_T (hr.mono (by decide)) rfl hm_T b_T (fun σ => passAt tk σ) (by exact (pa_cons (pv 0) (pa_cons (pv 1) pa_nil))))))))
          (ClsAs.cons (i := 2) rfl rfl ⟨rfl, by decide, Or.inl TE.gE⟩
            (fun a oe cls d pn hz hf => pss_one (ps_ret (by exact (pe_ifExp (PW.pt (pw_and (pt_val (pe_callB (call_isX TE.ec hz hf) (by rfl) T.n_isinstance (by decide +kernel) (pa_cons (pv 2) (pa_cons (C8.pe_gc rfl ⟨_, TE.gN, show RelV (.ref CN) (.ref CN) from rfl⟩) pa_nil)))) (pw_and1 (pt_val (pe_callB (call_isX TE.ec hz hf) (by rfl) T.n_isinstance (by decide +kernel) (pa_cons (pv 2) (pa_cons (pe_bltn (v := .ty "ValueError") (u := .type "ValueError") (by rfl) TE.nV (by decide +kernel) rfl) pa_nil)))))))
                (pe_xf TE.xc TE.nA hz hf (pv 2)) pe_str))))
          ClsAs.nil)), ?_⟩
    refine ⟨_, rfl, _, rfl, fun x dx nx ndx nex => ⟨x, dx, tb, a, xs, ds, cols, H, G, rfl, nx, ndx, nex, rfl, sG _ _ ha, da, h100, hsh, ta, good, sG, fun hb rs H' G' er X dbat => ⟨rfl, ?_⟩, fun i hb H' G' d X hd' => ?_⟩⟩
    · have eD : dueD (cols.map (·.2)) ds = .list (rowsOut rs) := by
        unfold dueD
        rw [hb, er]
        exact congrArg PyData.list due_rows
      obtain ⟨dx2, s2, h2, g1, g2, st⟩ := id dbat
      have nf : (dbF s2 h2).lookup ("committed" : Str) = none := by
        unfold dbF
        rw [lookup_putF, lookup_putF, lookup_putF]
        rfl
      refine ⟨x, dx2, _, rfl, X.sub _ _ g1, nf, x, rs, G', rfl, dbat, by rw [er, List.length_map] at h100; exact h100, X.sub, fun q ys H2 G2 X2 hq0 hq gq da => ?_⟩
      have XF := X2.fix hq0 hq
      exact k _ _ _ (X.trans XF) (by rw [eD]; exact .lst upd_same (da.mono (upd_same_ gq)))
    · have eD : dueD (cols.map (·.2)) ds = .int ((i : Nat) : Int) := by
        unfold dueD
        rw [hb]
      have Xd : Xt none H G (upd H' d (.xd [("at", .int ((i : Nat) : Int))])) G' := X.allocT hd'
      have lk : List.lookup ("at" : Str) [(("at" : Str), V.int ((i : Nat) : Int))] = some (.int ((i : Nat) : Int)) := by simp [List.lookup]
      refine ⟨true, TE.ex, fun _ a0 ha0 => ?_, fun z => by cases z⟩
      refine ⟨_, rfl, rfl, .ref CN, .ref CN, true, d, _, rfl, .own CN, rfl, upd_same, TE.kN, _, rfl, ?_⟩
      refine iteT ⟨_, rfl, rfl, .ty "ValueError", .type "ValueError", true, d, _, rfl, .ty _, rfl, upd_same, TE.kV, _, rfl, ?_⟩
      refine iteT ⟨_, rfl, rfl, rfl, d, _, _, rfl, upd_same, lk, ?_⟩
      exact k _ _ _ Xd (by rw [eD]; exact .int _)
end
end Nw
namespace Nw
open PySem L2 PySem.Spec PyProof.Rows RZ
/-! what the law k59 draws -/
/-- data that is small in every way -/
def smB (k w : Nat) (d : PyData) : Bool := d.canLay0 && decide (d.depth ≤ k) && decide (d.weight ≤ w) && d.showable && d.intsShort 13
theorem smB_iff {k w : Nat} {d : PyData} : smB k w d = true ↔ d.canLay0 = true ∧ d.depth ≤ k ∧ d.weight ≤ w ∧ d.showable = true ∧ d.intsShort 13 = true := by
  unfold smB
  simp only [Bool.and_eq_true, decide_eq_true_eq, and_assoc]
theorem smB_all {k w : Nat} : ∀ {ds : List PyData}, (∀ d ∈ ds, smB k w d = true) → PyData.canLayAll0 ds = true ∧ PyData.depthAll ds ≤ k ∧ PyData.weightAll ds ≤ (w + 1) * ds.length ∧ PyData.showableAll ds = true ∧ PyData.intsShortAll 13 ds = true
  | [], _ => ⟨rfl, Nat.zero_le _, Nat.zero_le _, rfl, rfl⟩
  | d :: ds, h => by
    obtain ⟨a1, a2, a3, a4, a5⟩ := smB_all (ds := ds) fun x hx => h x (List.mem_cons_of_mem _ hx)
    obtain ⟨b1, b2, b3, b4, b5⟩ := smB_iff.mp (h d List.mem_cons_self)
    refine ⟨?_, ?_, ?_, ?_, ?_⟩
    · show (d.canLay0 && PyData.canLayAll0 ds) = true
      rw [a1, b1]; rfl
    · show max d.depth (PyData.depthAll ds) ≤ k
      omega
    · show d.weight + 1 + PyData.weightAll ds ≤ (w + 1) * (ds.length + 1)
      rw [Nat.mul_succ]; omega
    · show (d.showable && PyData.showableAll ds) = true
      rw [a4, b4]; rfl
    · show (d.intsShort 13 && PyData.intsShortAll 13 ds) = true
      rw [a5, b5]; rfl
theorem smB_tup {k w m : Nat} {ds : List PyData} (h : ∀ d ∈ ds, smB k w d = true) (l : ds.length ≤ m) : smB (k + 1) ((w + 1) * m) (.tuple ds) = true := by
  obtain ⟨a1, a2, a3, a4, a5⟩ := smB_all h
  refine smB_iff.mpr ⟨a1, by show PyData.depthAll ds + 1 ≤ k + 1; omega, ?_, a4, a5⟩
  exact Nat.le_trans a3 (Nat.mul_le_mul_left _ l)
theorem smB_lst {k w m : Nat} {ds : List PyData} (h : ∀ d ∈ ds, smB k w d = true) (l : ds.length ≤ m) : smB (k + 1) ((w + 1) * m) (.list ds) = true := by
  obtain ⟨a1, a2, a3, a4, a5⟩ := smB_all h
  refine smB_iff.mpr ⟨a1, by show PyData.depthAll ds + 1 ≤ k + 1; omega, ?_, a4, a5⟩
  exact Nat.le_trans a3 (Nat.mul_le_mul_left _ l)
theorem smB_up {k w k' w' : Nat} {d : PyData} (h : smB k w d = true) (a : k ≤ k') (b : w ≤ w') : smB k' w' d = true := by
  obtain ⟨h1, h2, h3, h4, h5⟩ := smB_iff.mp h
  exact smB_iff.mpr ⟨h1, by omega, by omega, h4, h5⟩
theorem smB_int {i : Int} (h : 0 ≤ i ∧ i ≤ 100) : smB 0 8 (.int i) = true := by
  have all : ∀ n < 101, smB 0 8 (.int ((n : Nat) : Int)) = true := by decide +kernel
  have := all i.toNat (by omega)
  rw [Int.toNat_of_nonneg h.1] at this
  exact this
def shortB : PyData → Bool
  | .tuple [.str n, _] => decide (n.length ≤ 10000)
  | _ => true
theorem shortB_D {d : PyData} (h : shortB d = true) : shortD d := by
  cases d with
  | tuple ds =>
    match ds, h with
    | [], _ => trivial
    | [.str n], _ => trivial
    | [.str n, e], h => exact (show n.length ≤ 10000 from of_decide_eq_true h)
    | [.none, _], _ => trivial
    | [.bool _, _], _ => trivial
    | [.int _, _], _ => trivial
    | [.list _, _], _ => trivial
    | [.tuple _, _], _ => trivial
    | [.dict _, _], _ => trivial
    | [.none], _ => trivial
    | [.bool _], _ => trivial
    | [.int _], _ => trivial
    | [.list _], _ => trivial
    | [.tuple _], _ => trivial
    | [.dict _], _ => trivial
    | .none :: _ :: _ :: _, _ => trivial
    | .bool _ :: _ :: _ :: _, _ => trivial
    | .int _ :: _ :: _ :: _, _ => trivial
    | .str _ :: _ :: _ :: _, _ => trivial
    | .list _ :: _ :: _ :: _, _ => trivial
    | .tuple _ :: _ :: _ :: _, _ => trivial
    | .dict _ :: _ :: _ :: _, _ => trivial
  | _ => trivial
/-- a line that may be handed over -/
def lnB (d : PyData) : Bool := smB 3 200 d && shortB d
def CL : List (List Col) := [[("a", 1)], [("a", 2)], [("a", 3)], [("a", 1), ("b", 1)], [("a", 2), ("b", 1)]]
theorem CL_good : ∀ c ∈ CL, Good n10 c := by
  intro c hc
  simp only [CL, List.mem_cons, List.mem_nil_iff, or_false] at hc
  rcases hc with rfl | rfl | rfl | rfl | rfl <;> exact ⟨by decide, by decide +kernel, by decide, by decide +kernel⟩
theorem CL_len : ∀ c ∈ CL, 1 ≤ c.length ∧ c.length ≤ 2 := by decide
theorem of_D {H1 G1 : Hp} {b : Addr} {c : Int} {v : V} {ds : List PyData} {Q : VK} (sG : Same G1 H1) (hB : Bag H1 b c) (hc : c ≤ 1000000) (gb : G1 b = none) (dv : D G1 v (.list ds)) (hne : ds ≠ []) (hlen : ds.length ≤ 1000000)
    (k : ∀ u d H2, d ∈ ds → D G1 u d → Xt (some b) H1 G1 H2 G1 → Bag H2 b (c + 1) → Q u H2) : spOf [.ref b, v] H1 Q C8.E0 := by
  obtain ⟨l, xs, rfl, hl, da⟩ := dv.list_inv
  have nl : l ≠ b := fun q => by rw [q, gb] at hl; cases hl
  refine ⟨b, l, xs, c, rfl, sG _ _ hl, nl, fun e => hne ?_, by rw [da.length]; exact hlen, hB, hc, fun u i x y z hv hB1 => ?_⟩
  · have := da.length
    rw [e] at this
    exact List.length_eq_zero_iff.mp this.symm
  · obtain ⟨d, hd, du⟩ := da.get hv
    exact k u d _ (List.mem_of_getElem? hd) du ((Xt.refl sG).put gb) hB1
def spCol59 : Sp := fun vs H Q _ => ∃ (b : Addr) (c : Int) (G : Hp), vs = [.ref b] ∧ Bag H b c ∧ c ≤ 100000 ∧ G b = none ∧ Same G H ∧
  ∀ (p : Addr) (cols : List Col) (H' G' : Hp), Xt (some b) H G H' G' → Bag H' b (c + 1) → cols ∈ CL → D G' (.ref p) (.list (dCols cols)) → Q (.ref p) H'
def zD (n : Nat) : List PyData := List.replicate n (.int 0)
def z1 (n : Nat) : List PyData := cutD (zD n) (some 1) none
def odd1 (n : Nat) : List PyData := [.none, .bool true, .int 0, .str "x", .tuple [], .tuple [.none], .tuple [.none, .tuple (zD n), .int 1], .list [.none, .tuple (zD n)], .tuple [.none, .list (zD n)], .tuple [.str "X", .tuple (zD n)]]
def odd2 (n : Nat) : List PyData := [.tuple [.str "", .tuple (zD n)], .tuple [.str "abcdefghi", .tuple (zD n)], .tuple [.bool true, .tuple (zD n)], .tuple [.none, .tuple (zD n ++ [.int 0])], .tuple [.none, .tuple (z1 n)], .tuple [.str "a b", .tuple (zD n)]]
def odd3 (n : Nat) : List PyData := [.tuple [.int 0, .tuple (zD n)], .tuple [.none, .tuple ([.bool true] ++ z1 n)], .tuple [.none, .tuple ([.int (-1)] ++ z1 n)], .tuple [.none, .tuple ([.str "0"] ++ z1 n)]]
def odd4 (n : Nat) (t : Int) : List PyData := [.tuple [.str "x", .tuple ([.int (t + 1)] ++ z1 n)], .tuple [.none, .none], .tuple [.str "x1", .tuple (zD n)], .tuple [.str "where", .tuple (zD n)], .tuple [.none, .tuple (zD n)]]
def oddA (n : Nat) (t : Int) : List PyData := odd1 n ++ odd2 n ++ odd3 n ++ odd4 n t
theorem oddA_ok : ∀ n ∈ [1, 2], ∀ t ∈ ([1, 2, 3] : List Int), ∀ d ∈ oddA n t, lnB d = true := by decide +kernel
def spOdd59 : Sp := fun vs H Q _ => ∃ (b a : Addr) (c : Int) (cols : List Col) (G : Hp), vs = [.ref b, .ref a] ∧ D G (.ref a) (.list (dCols cols)) ∧ cols ∈ CL ∧ Bag H b c ∧ c ≤ 100000 ∧ G b = none ∧ Same G H ∧
  ∀ (v : V) (d : PyData) (H' G' : Hp), Xt (some b) H G H' G' → Bag H' b (c + 1) → D G' v d → lnB d = true → Q v H'
section
variable {P : Program} {w : World} {K : PySem.W.Frag} {mg : Str → Option Value} {base : Heap}
theorem mk_neg {σ : L2.St} {G0 : Hp} : Mkd (tUn (rU fun i => V.int (-i)) (tC (.int 1))) σ G0 (.int (-1)) := fun H G Q s sG k => ⟨1, rfl, k (.int (-1)) H G (Xt.refl sG) (.int _)⟩
theorem gName_go {i : Nat} {v : V} {σ : L2.St} {H : Hp} {n : L2.St → Hp → Prop} : gName i v σ H n = n (σ.set i (some v)) H := rfl
theorem tSeq_go {a b : TS} {D : Ends} {σ : L2.St} {H : Hp} : tSeq a b D σ H = a { D with nx := b D } σ H := rfl
theorem tAsg_go {t : TE} {g : TG} {D : Ends} {σ : L2.St} {H : Hp} : tAsg t g D σ H = t σ H fun v H1 => g v σ H1 D.nx := rfl
theorem zD_len (n : Nat) : (zD n).length = n := List.length_replicate
theorem cut_le (ds : List PyData) (lo hi : Option Int) : (cutD ds lo hi).length ≤ ds.length := by
  unfold cutD
  rw [List.length_take, List.length_drop]
  omega
theorem lColumns {f : Addr} {fd : FuncData} (F : C8.Def K mg "_law_columns" s__law_columns f fd) (b : Binds K fd P__law_columns []) (T : Names K mg) (c__law_of : C8.Cal P w K mg base 2 "_law_of" spOf []) : C8.Cal P w K mg base 3 "_law_columns" spCol59 [] := by
  refine C8.cal0 (N := N__law_columns) F b .nil sc__law_columns (fun vs H Q E h => ?_) (fun cdv A outer s H vs Q E hr h => ?_)
  · obtain ⟨b, c, G, rfl, _⟩ := h
    rfl
  · obtain ⟨b, c, G, rfl, hB, hc, gb, sG, k⟩ := h
    refine ⟨_, (pss_one (ps_ret (C8.pe_c c__law_of hr (by decide) rfl (pa_cons (pv 0) (pa_cons (pe_lst (pa_cons (pe_lst (pa_cons (pe_tup (pa_cons pe_str (pa_cons pe_int pa_nil))) pa_nil)) (pa_cons (pe_lst (pa_cons (pe_tup (pa_cons pe_str (pa_cons pe_int pa_nil))) pa_nil)) (pa_cons (pe_lst (pa_cons (pe_tup (pa_cons pe_str (pa_cons pe_int pa_nil))) pa_nil)) (pa_cons (pe_lst (pa_cons (pe_tup (pa_cons pe_str (pa_cons pe_int pa_nil))) (pa_cons (pe_tup (pa_cons pe_str (pa_cons pe_int pa_nil))) pa_nil))) (pa_cons (pe_lst (pa_cons (pe_tup (pa_cons pe_str (pa_cons pe_int pa_nil))) (pa_cons (pe_tup (pa_cons pe_str (pa_cons pe_int pa_nil))) pa_nil))) pa_nil)))))) pa_nil))))), ?_⟩
    refine ⟨_, rfl, ?_⟩
    refine (show Mkd _ _ G (.list (CL.map fun c => .list (dCols c))) from ?_) H G _ (fun _ _ h => h) sG fun v H1 G1 X1 dv => ?_
    · show Mkd _ _ G (.list [.list [.tuple [.str "a", .int 1]], .list [.tuple [.str "a", .int 2]], .list [.tuple [.str "a", .int 3]], .list [.tuple [.str "a", .int 1], .tuple [.str "b", .int 1]], .list [.tuple [.str "a", .int 2], .tuple [.str "b", .int 1]]])
      (repeat' (first
        | exact mk_nil | exact mk_c (fun _ => .non) | exact mk_c (fun _ => .bl _) | exact mk_c (fun _ => .int _) | exact mk_c (fun _ => .str _)
        | exact mk_v gb rfl | refine mk_cons ?_ ?_ | refine mk_tup ?_ | refine mk_lst ?_ | exact mk_neg | exact mk_sl (mk_v gb rfl) | refine mk_cat ?_ ?_ ?_ | refine mk_lof ?_ ?_))
    · have hB1 := hB.keep X1
      have gb1 := X1.non hB.ne gb
      refine of_D X1.sub hB1 (by omega) gb1 dv (by decide) (by decide) fun u d H2 hd du X2 hB2 => ?_
      obtain ⟨cols, hcl, rfl⟩ := List.mem_map.mp hd
      obtain ⟨p, _, rfl, _⟩ := id du.list_inv
      exact k p cols H2 G1 (X1.of.trans X2) hB2 hcl du
theorem lOdd {f : Addr} {fd : FuncData} (F : C8.Def K mg "_law_odd" s__law_odd f fd) (b : Binds K fd P__law_odd []) (T : Names K mg) (c__law_of : C8.Cal P w K mg base 2 "_law_of" spOf []) : C8.Cal P w K mg base 3 "_law_odd" spOdd59 [] := by
  refine C8.cal0 (N := N__law_odd) F b .nil sc__law_odd (fun vs H Q E h => ?_) (fun cdv A outer s H vs Q E hr h => ?_)
  · obtain ⟨b, a, c, cols, G, rfl, _⟩ := h
    rfl
  · obtain ⟨b, a, c, cols, G, rfl, hd, hcl, hB, hc, gb, sG, k⟩ := h
    have hu := hu_of hr
    refine ⟨_, (pss_cons (ps_set (i := 2) sc__law_odd.nd rfl (Or.inl rfl) (pe_callTy call_tuple_of (by rfl) T.n_tuple (by decide +kernel) (pa_cons (pe_lc (own := [("_law_column", 3)]) (g := (gName 3)) (tt := tYes) rfl sc__law_odd.nd (pi_list (pv 1)) (blkOk_by (own := [("_law_column", 3)]) (N := N__law_odd) (sc := C8.fnScope s__law_odd) (by decide +kernel)) (fun _ _ _ _ _ => (pg_name (i := 3) sc__law_odd.nd rfl (Or.inl rfl))) (fun _ _ _ _ _ => pts_nil) (fun _ _ _ _ _ => pe_int)) pa_nil)))
 (pss_cons (ps_set (i := 4) sc__law_odd.nd rfl (Or.inl rfl) (pe_lst (pa_cons pe_non (pa_cons pe_bl (pa_cons pe_int (pa_cons pe_str (pa_cons (pe_tup pa_nil) (pa_cons (pe_tup (pa_cons pe_non pa_nil)) (pa_cons (pe_tup (pa_cons pe_non (pa_cons (pv 2) (pa_cons pe_int pa_nil)))) (pa_cons (pe_lst (pa_cons pe_non (pa_cons (pv 2) pa_nil))) (pa_cons (pe_tup (pa_cons pe_non (pa_cons (pe_callTy call_list_of (by rfl) T.n_list (by decide +kernel) (pa_cons (pv 2) pa_nil)) pa_nil))) (pa_cons (pe_tup (pa_cons pe_str (pa_cons (pv 2) pa_nil))) pa_nil))))))))))))
 (pss_cons (ps_set (i := 4) sc__law_odd.nd rfl (Or.inl rfl) (pe_op op_cat (pv 4) (pe_lst (pa_cons (pe_tup (pa_cons pe_str (pa_cons (pv 2) pa_nil))) (pa_cons (pe_tup (pa_cons pe_str (pa_cons (pv 2) pa_nil))) (pa_cons (pe_tup (pa_cons pe_bl (pa_cons (pv 2) pa_nil))) (pa_cons (pe_tup (pa_cons pe_non (pa_cons (pe_op (op_catAK (K := K) rfl) (pv 2) (pe_tup (pa_cons pe_int pa_nil))) pa_nil))) (pa_cons (pe_tup (pa_cons pe_non (pa_cons (pe_slice (sl_tupAK (K := K) rfl) (pv 2) (po_some pe_int) po_none) pa_nil))) (pa_cons (pe_tup (pa_cons pe_str (pa_cons (pv 2) pa_nil))) pa_nil)))))))))
 (pss_cons (ps_set (i := 4) sc__law_odd.nd rfl (Or.inl rfl) (pe_op op_cat (pv 4) (pe_lst (pa_cons (pe_tup (pa_cons pe_int (pa_cons (pv 2) pa_nil))) (pa_cons (pe_tup (pa_cons pe_non (pa_cons (pe_op (op_catAK (K := K) rfl) (pe_tup (pa_cons pe_bl pa_nil)) (pe_slice (sl_tupAK (K := K) rfl) (pv 2) (po_some pe_int) po_none)) pa_nil))) (pa_cons (pe_tup (pa_cons pe_non (pa_cons (pe_op (op_catAK (K := K) rfl) (pe_tup (pa_cons (pe_un un_neg pe_int) pa_nil)) (pe_slice (sl_tupAK (K := K) rfl) (pv 2) (po_some pe_int) po_none)) pa_nil))) (pa_cons (pe_tup (pa_cons pe_non (pa_cons (pe_op (op_catAK (K := K) rfl) (pe_tup (pa_cons pe_str pa_nil)) (pe_slice (sl_tupAK (K := K) rfl) (pv 2) (po_some pe_int) po_none)) pa_nil))) pa_nil)))))))
 (pss_cons (ps_set (i := 4) sc__law_odd.nd rfl (Or.inl rfl) (pe_op op_cat (pv 4) (pe_lst (pa_cons (pe_tup (pa_cons pe_str (pa_cons (pe_op (op_catAK (K := K) rfl) (pe_tup (pa_cons (pe_op op_add (pe_ix ix_tup (pe_ix ix_list (pv 1) pe_int (fun _ _ => rfl)) pe_int (fun _ _ => rfl)) pe_int) pa_nil)) (pe_slice (sl_tupAK (K := K) rfl) (pv 2) (po_some pe_int) po_none)) pa_nil))) (pa_cons (pe_tup (pa_cons pe_non (pa_cons pe_non pa_nil))) (pa_cons (pe_tup (pa_cons pe_str (pa_cons (pv 2) pa_nil))) (pa_cons (pe_tup (pa_cons pe_str (pa_cons (pv 2) pa_nil))) (pa_cons (pe_tup (pa_cons pe_non (pa_cons (pv 2) pa_nil))) pa_nil))))))))
 (pss_one (ps_ret (C8.pe_c c__law_of hr (by decide) rfl (pa_cons (pv 0) (pa_cons (pv 4) pa_nil)))))))))), ?_⟩
    have cl := CL_len cols hcl
    obtain ⟨a_, xs, e0, ha, da⟩ := id hd.list_inv
    cases e0
    have lx : xs.length = cols.length := by rw [da.length, dCols, List.length_map]
    -- the zeros
    refine ⟨_, rfl, a, rfl, ⟨_, SqL.of (sG _ _ ha)⟩, fun Dl hD => ?_⟩
    refine lc_data (b := none) (R := fun _ _ => True) (G := G) (walk_list (xs := xs)) (zD cols.length) (by unfold zD; rw [List.length_replicate, lx]) (by omega) hD sG (fun q => by cases q) trivial (fun _ _ _ _ => trivial) (fun i HA GA XA _ => SqL.of (XA.sub _ _ (XA.gg _ _ ha))) ?_ ?_
    · rintro i y HA GA HB d hdd XA _ ⟨rfl, hy⟩ Qy hqy
      have ed : d = .int 0 := by
        unfold zD at hdd
        rw [List.getElem?_replicate] at hdd
        split at hdd
        · exact (Option.some.inj hdd).symm
        · cases hdd
      subst ed
      exact ⟨rfl, hqy _ _ _ (Xt.refl XA.sub) trivial (.int _)⟩
    intro H1 G1 ys X1 _ hl1 gl1 da1
    refine ⟨Dl, _, rfl, .inl ⟨SqL.of hl1, fun zt hzt => ?_⟩⟩
    have X2 := X1.alloc (o := .tup ys) hzt
    have dz : D (upd G1 zt (.tup ys)) (.ref zt) (.tuple (zD cols.length)) := .tup upd_same (da1.mono (upd_same_ (X1.sub.free hzt)))
    have hB2 := hB.keep X2
    have gb2 := X2.non hB.ne gb
    have s2 : Same G (upd G1 zt (.tup ys)) := X2.gg
    generalize upd G1 zt (.tup ys) = G2 at X2 dz gb2 s2
    generalize upd H1 zt (.tup ys) = H2 at X2 hB2 ⊢
    clear hl1 gl1 da1 hzt X1
    -- the odd ones
    ((try dsimp only); rw [gName_go]; (try dsimp only); rw [tSeq_go]; (try dsimp only); rw [tAsg_go])
    refine (show Mkd _ _ G2 (.list (odd1 cols.length)) from ?_) H2 G2 _ (fun _ _ h => h) X2.sub fun v1 H3 G3 X3 d1 => ?_
    · show Mkd _ _ G2 (.list [.none, .bool true, .int 0, .str "x", .tuple [], .tuple [.none], .tuple [.none, .tuple (zD cols.length), .int 1], .list [.none, .tuple (zD cols.length)], .tuple [.none, .list (zD cols.length)], .tuple [.str "X", .tuple (zD cols.length)]])
      (repeat' (first
        | exact mk_nil | exact mk_c (fun _ => .non) | exact mk_c (fun _ => .bl _) | exact mk_c (fun _ => .int _) | exact mk_c (fun _ => .str _)
        | exact mk_v dz rfl | refine mk_cons ?_ ?_ | refine mk_tup ?_ | refine mk_lst ?_ | exact mk_neg | exact mk_sl (mk_v dz rfl) | refine mk_cat ?_ ?_ ?_ | refine mk_lof ?_ ?_))
      rw [zD_len]; omega
    have Y3 := X2.trans X3
    have hB3 := hB2.keep X3
    have gb3 := X3.non hB2.ne gb2
    have dz3 := dz.mono X3.gg
    have zl := zD_len cols.length
    have cl1 := cut_le (zD cols.length) (some 1) none
    ((try dsimp only); rw [gName_go]; (try dsimp only); rw [tSeq_go]; (try dsimp only); rw [tAsg_go])
    refine (show Mkd _ _ G3 (.list (odd1 cols.length ++ odd2 cols.length)) from ?_) H3 G3 _ (fun _ _ h => h) X3.sub fun v2 H4 G4 X4 d2 => ?_
    · refine mk_catL (mk_v d1 rfl) ?_ (by show 10 + 6 ≤ 100000; decide)
      show Mkd _ _ G3 (.list [.tuple [.str "", .tuple (zD cols.length)], .tuple [.str "abcdefghi", .tuple (zD cols.length)], .tuple [.bool true, .tuple (zD cols.length)], .tuple [.none, .tuple (zD cols.length ++ [.int 0])], .tuple [.none, .tuple (cutD (zD cols.length) (some 1) none)], .tuple [.str "a b", .tuple (zD cols.length)]])
      (repeat' (first
        | exact mk_nil | exact mk_c (fun _ => .non) | exact mk_c (fun _ => .bl _) | exact mk_c (fun _ => .int _) | exact mk_c (fun _ => .str _)
        | exact mk_v dz3 rfl | refine mk_cons ?_ ?_ | refine mk_tup ?_ | refine mk_lst ?_ | exact mk_neg | exact mk_sl (mk_v dz3 rfl) | refine mk_cat ?_ ?_ ?_ | refine mk_lof ?_ ?_))
      show (zD cols.length).length + 1 ≤ 100000
      omega
    have Y4 := Y3.trans X4
    have hB4 := hB3.keep X4
    have gb4 := X4.non hB3.ne gb3
    have dz4 := dz3.mono X4.gg
    ((try dsimp only); rw [gName_go]; (try dsimp only); rw [tSeq_go]; (try dsimp only); rw [tAsg_go])
    refine (show Mkd _ _ G4 (.list (odd1 cols.length ++ odd2 cols.length ++ odd3 cols.length)) from ?_) H4 G4 _ (fun _ _ h => h) X4.sub fun v3 H5 G5 X5 d3 => ?_
    · refine mk_catL (mk_v d2 rfl) ?_ (by show 16 + 4 ≤ 100000; decide)
      show Mkd _ _ G4 (.list [.tuple [.int 0, .tuple (zD cols.length)], .tuple [.none, .tuple ([.bool true] ++ cutD (zD cols.length) (some 1) none)], .tuple [.none, .tuple ([.int (-1)] ++ cutD (zD cols.length) (some 1) none)], .tuple [.none, .tuple ([.str "0"] ++ cutD (zD cols.length) (some 1) none)]])
      (repeat' (first
        | exact mk_nil | exact mk_c (fun _ => .non) | exact mk_c (fun _ => .bl _) | exact mk_c (fun _ => .int _) | exact mk_c (fun _ => .str _)
        | exact mk_v dz4 rfl | refine mk_cons ?_ ?_ | refine mk_tup ?_ | refine mk_lst ?_ | exact mk_neg | exact mk_sl (mk_v dz4 rfl) | refine mk_cat ?_ ?_ ?_ | refine mk_lof ?_ ?_))
      all_goals
        show 1 + (cutD (zD cols.length) (some 1) none).length ≤ 100000
        omega
    have Y5 := Y4.trans X5
    have hB5 := hB4.keep X5
    have gb5 := X5.non hB4.ne gb4
    have dz5 := dz4.mono X5.gg
    obtain ⟨c0, cr, ec⟩ : ∃ c0 cr, cols = c0 :: cr := by
      cases cols with
      | nil => exact absurd cl.1 (by decide)
      | cons c0 cr => exact ⟨c0, cr, rfl⟩
    have tr := (CL_good cols hcl).tops c0 (by rw [ec]; exact List.mem_cons_self)
    have ha5 : G5 a = some (.lst xs) := X5.gg _ _ (X4.gg _ _ (X3.gg _ _ (s2 _ _ ha)))
    have da5 : DA G5 xs (dCols cols) := (((da.mono s2).mono X3.gg).mono X4.gg).mono X5.gg
    ((try dsimp only); rw [gName_go]; (try dsimp only); rw [tSeq_go]; (try dsimp only); rw [tAsg_go])
    refine (show Mkd _ _ G5 (.list (odd1 cols.length ++ odd2 cols.length ++ odd3 cols.length ++ odd4 cols.length c0.2)) from ?_) H5 G5 _ (fun _ _ h => h) X5.sub fun v4 H6 G6 X6 d4 => ?_
    · refine mk_catL (mk_v d3 rfl) ?_ (by show 20 + 5 ≤ 100000; decide)
      show Mkd _ _ G5 (.list [.tuple [.str "x", .tuple ([.int (c0.2 + 1)] ++ cutD (zD cols.length) (some 1) none)], .tuple [.none, .none], .tuple [.str "x1", .tuple (zD cols.length)], .tuple [.str "where", .tuple (zD cols.length)], .tuple [.none, .tuple (zD cols.length)]])
      (repeat' (first
        | exact mk_nil | exact mk_c (fun _ => .non) | exact mk_c (fun _ => .bl _) | exact mk_c (fun _ => .int _) | exact mk_c (fun _ => .str _)
        | exact mk_v dz5 rfl | refine mk_cons ?_ ?_ | refine mk_tup ?_ | refine mk_lst ?_ | exact mk_neg | exact mk_sl (mk_v dz5 rfl) | refine mk_cat ?_ ?_ ?_ | refine mk_lof ?_ ?_))
      · refine fun H' G' Q' s' sG' k' => ?_
        rw [ec] at da5
        cases da5 with
        | @cons x0 _ _ _ q0 qr =>
        obtain ⟨t0, us, rfl, ht0, dt⟩ := q0.tup_inv
        cases dt with
        | @cons y1 _ _ _ p1 dt =>
        cases dt with
        | @cons y2 _ _ _ p2 dt =>
        cases dt
        cases p1
        cases p2
        refine ⟨_, rfl, a, _, _, _, rfl, rfl, SqL.of (sG' _ _ (s' _ _ ha5)), (show atI (V.ref t0 :: _) ((0 : Nat) : Int) = _ from atI_nat rfl), t0, _, _, _, rfl, rfl, SqT.of (sG' _ _ (s' _ _ ht0)), rfl, _, _, rfl, rfl, k' _ _ _ (Xt.refl sG') (.int _)⟩
      · show 1 + (cutD (zD cols.length) (some 1) none).length ≤ 100000
        omega
    have Y6 := Y5.trans X6
    have hB6 := hB5.keep X6
    have gb6 := X6.non hB5.ne gb5
    refine ⟨_, rfl, _, rfl, of_D X6.sub hB6 (by omega) gb6 d4 (by simp [odd1]) (by show 25 ≤ 1000000; decide) fun u d H7 hd' du X7 hB7 => ?_⟩
    have t3 : c0.2 ∈ ([1, 2, 3] : List Int) := by
      rcases (show c0.2 = 1 ∨ c0.2 = 2 ∨ c0.2 = 3 by omega) with h | h | h <;> rw [h] <;> decide
    have n2 : cols.length ∈ [1, 2] := by
      rcases (show cols.length = 1 ∨ cols.length = 2 by omega) with h | h <;> rw [h] <;> decide
    exact k u d H7 G6 (Y6.of.trans X7) hB7 du (oddA_ok _ n2 _ t3 d hd')
end
end Nw
namespace Nw
open PySem L2 PySem.Spec PyProof.Rows RZ
/-! _law_rows -/
theorem es_ (z t : Str) : decide (V.str z = V.str t) = decide (z = t) := by
  by_cases q : z = t
  · rw [q, decide_eq_true rfl, decide_eq_true rfl]
  · rw [decide_eq_false q, decide_eq_false fun e => q (by injection e)]
theorem ei_ (i j : Int) : decide (V.int i = V.int j) = decide (i = j) := by
  by_cases q : i = j
  · rw [q, decide_eq_true rfl, decide_eq_true rfl]
  · rw [decide_eq_false q, decide_eq_false fun e => q (by injection e)]
theorem eb_ (i j : Bool) : decide (V.bl i = V.bl j) = decide (i = j) := by
  cases i <;> cases j <;> rfl
/-- x[j] == a written text, for a tuple that stands -/
structure TagR (K : PySem.W.Frag) (H : Hp) (p : Addr) (ws : List V) : Prop where
theorem tk_step {b : Addr} {c n : Int} {H0 G H G' : Hp} {Q : VK} {E : XK} (X : Xt (some b) H0 G H G') (g1 : G' b = none) (hB : Bag H b c) (hc : c ≤ 1000000) (hn : 0 < n ∧ n ≤ 1000000)
    (k : ∀ (r : Int) (H' : Hp), 0 ≤ r → r < n → Xt (some b) H0 G H' G' → Bag H' b (c + 1) → (∀ a, a ≠ b → ∀ o, H a = some o → H' a = some o) → Q (.int r) H') : spTake [.ref b, .int n] H Q E :=
  ⟨b, n, c, rfl, hn.1, hn.2, hB, hc, fun r x y z r0 r1 hB2 => k r _ r0 r1 (X.put g1) hB2 fun a na o h => by rw [upd_ne na]; exact h⟩
theorem shaped_sm {k w : Nat} {d : PyData} (h : smB k w d = true) (hk : k ≤ 60) : SeqAt.shaped d = true := by
  obtain ⟨h1, h2, _⟩ := smB_iff.mp h
  unfold SeqAt.shaped
  rw [h1, Bool.true_and]
  exact decide_eq_true (by omega)
theorem eqv_nil (ds : List PyData) : PyData.eqv (.list ds) (.list []) = decide (ds = []) := by
  cases ds <;> rfl
theorem shaped_nil : SeqAt.shaped (.list []) = true := by decide +kernel
def n4 : List Str := ["x", "y", "name", "where"]
theorem n4_sm : ∀ z ∈ n4, smB 0 10 (.str z) = true ∧ z.length ≤ 10000 := by decide +kernel
theorem sm_strs {l : List Str} (h : ∀ z ∈ l, z ∈ n4) : smB 1 (11 * l.length) (.list (l.map .str)) = true :=
  smB_lst (k := 0) (w := 10) (fun d hd => by obtain ⟨z, hz, rfl⟩ := List.mem_map.mp hd; exact (n4_sm z (h z hz)).1) (by rw [List.length_map]; exact Nat.le_refl _)
theorem row_ok {o : Option Str} {rs : List Int} (ho : ∀ z, o = some z → z ∈ n4) (hr : ∀ r ∈ rs, 0 ≤ r ∧ r ≤ 100) (l : rs.length ≤ 3) : lnB (.tuple [optS o, .tuple (rs.map .int)]) = true := by
  have a : smB 1 27 (.tuple (rs.map .int)) = true := smB_tup (k := 0) (w := 8) (m := 3) (fun d hd => by obtain ⟨r, hr', rfl⟩ := List.mem_map.mp hd; exact smB_int (hr r hr')) (by rw [List.length_map]; exact l)
  have b : smB 1 27 (optS o) = true := by
    cases o with
    | none => rfl
    | some z => exact smB_up (n4_sm z (ho z rfl)).1 (by omega) (by omega)
  unfold lnB
  rw [Bool.and_eq_true]
  constructor
  · refine smB_up (smB_tup (k := 1) (w := 27) (m := 2) (fun d hd => ?_) (Nat.le_refl _)) (by omega) (by omega)
    rcases List.mem_cons.mp hd with rfl | hd
    · exact b
    · obtain rfl := List.mem_singleton.mp hd
      exact a
  · cases o with
    | none => rfl
    | some z => exact decide_eq_true (n4_sm z (ho z rfl)).2
def spRows59 : Sp := fun vs H Q _ => ∃ (b a nm : Addr) (c : Int) (cols : List Col) (G : Hp), vs = [.ref b, .ref a, .ref nm, .int 8] ∧ D G (.ref a) (.list (dCols cols)) ∧ cols ∈ CL ∧ G nm = some (.lst (n4.map V.str)) ∧ Bag H b c ∧ c ≤ 100000 ∧ G b = none ∧ Same G H ∧
  ∀ (q : Addr) (ds : List PyData) (H' G' : Hp), Xt (some b) H G H' G' → Bag H' b (c + 60) → D G' (.ref q) (.list ds) → ds.length ≤ 8 → (∀ d ∈ ds, lnB d = true) → Q (.ref q) H'
section
variable {P : Program} {w : World} {K : PySem.W.Frag} {mg : Str → Option Value} {base : Heap}
theorem lRows {f : Addr} {fd : FuncData} (F : C8.Def K mg "_law_rows" s__law_rows f fd) (b : Binds K fd P__law_rows []) (T : Names K mg) (c__law_draw : C8.Cal P w K mg base 1 "_law_draw" spTake []) : C8.Cal P w K mg base 2 "_law_rows" spRows59 [] := by
  refine C8.cal0 (N := N__law_rows) F b .nil sc__law_rows (fun vs H Q E h => ?_) (fun cdv A outer s H vs Q E hr h => ?_)
  · obtain ⟨b, a, nm, c, cols, G, rfl, _⟩ := h
    rfl
  · obtain ⟨b, a, nm, c, cols, G, rfl, hd, hcl, hnm, hB, hc, gb, sG, k⟩ := h
    have hu := hu_of hr
    refine ⟨_, (pss_cons (ps_par (i := 4) (j := 5) (by rfl) sc__law_rows.nd rfl rfl (by decide) rfl rfl (pa_cons (pe_lst pa_nil) (pa_cons (pe_callTy call_list_of (by rfl) T.n_list (by decide +kernel) (pa_cons (pv 2) pa_nil)) pa_nil)) (by rfl))
 (pss_cons (ps_for PassesOwn.never rfl (pi_range1 rfl T.n_range (pa_cons (C8.pe_c c__law_draw hr (by decide) rfl (pa_cons (pv 0) (pa_cons (pe_op op_add (pv 3) pe_int) pa_nil))) pa_nil)) (pg_name (i := 6) sc__law_rows.nd rfl (Or.inl rfl)) (pss_cons (ps_set (i := 7) sc__law_rows.nd rfl (Or.inl rfl) pe_non)
 (C8.pss_cut (ps_if (PW.pt (pw_and (pt_cmpR (op_neD hr.units) (pv 5) (pe_lst pa_nil) (nomark _)) (pw_and1 (pt_cmpR op_eq (C8.pe_c c__law_draw hr (by decide) rfl (pa_cons (pv 0) (pa_cons pe_int pa_nil))) pe_int (nomark _))))) (pss_one (ps_set (i := 7) sc__law_rows.nd rfl (Or.inl rfl) (pe_bm PySem.F.plainAttrs_list PySem.F.slot_list_pop PySem.F.type_list_pop mt_popAt (pv 5) (pa_cons (C8.pe_c c__law_draw hr (by decide) rfl (pa_cons (pv 0) (pa_cons (pe_callB call_len_seq (by rfl) T.n_len PySem.boot_len (pa_cons (pv 5) pa_nil)) pa_nil))) pa_nil)))) pss_nil)
 (pss_one (ps_expr (pe_bm PySem.F.plainAttrs_list PySem.F.slot_list_append PySem.F.type_list_append mt_append (pv 4) (pa_cons (pe_tup (pa_cons (pv 7) (pa_cons (pe_callTy call_tuple_of (by rfl) T.n_tuple (by decide +kernel) (pa_cons (pe_lc (own := [("_law_column", 8), ("_law_top", 9)]) (g := (gTup K 2 (gCons (gName 8) (gCons (gName 9) gNil)))) (tt := tYes) rfl sc__law_rows.nd (pi_list (pv 1)) (blkOk_by (own := [("_law_column", 8), ("_law_top", 9)]) (N := N__law_rows) (sc := C8.fnScope s__law_rows) (by decide +kernel)) (fun _ _ _ _ _ => (pg_tup rfl (pgs_cons (pg_name (i := 8) sc__law_rows.nd rfl (Or.inl rfl)) (pgs_cons (pg_name (i := 9) sc__law_rows.nd rfl (Or.inl rfl)) pgs_nil)))) (fun _ _ _ _ _ => pts_nil) (fun _ _ _ _ _ => (C8.pe_c c__law_draw (by exact hr) (by decide) rfl (pa_cons (pv 0) (pa_cons (pe_op op_add (pv 9) pe_int) pa_nil))))) pa_nil)) pa_nil))) pa_nil)))))))
 (pss_one (ps_ret (pv 4))))), ?_⟩
    have cl := CL_len cols hcl
    have good := CL_good cols hcl
    obtain ⟨a_, cs, e0, ha, da⟩ := id hd.list_inv
    cases e0
    have lx : cs.length = cols.length := by rw [da.length, dCols, List.length_map]
    refine ⟨Nat.zero_le _, fun Fd hFd => ?_⟩
    have nbF : b ≠ Fd := fun q => hB.ne (by rw [q]; exact hFd)
    have gF : G Fd = none := sG.free hFd
    have X1 := Xt.tmp (b := some b) (o := .lst []) sG hFd
    have hF1 : upd H Fd (.lst []) Fd = some (.lst []) := upd_same
    have hB1 := hB.upd (p := Fd) (o := .lst []) nbF
    generalize upd H Fd (.lst []) = H1 at X1 hF1 hB1 ⊢
    refine ⟨_, rfl, nm, _, rfl, .inl (SqL.of (X1.sub _ _ hnm)), fun Lf hLf => ⟨_, _, rfl, ?_⟩⟩
    have nbL : b ≠ Lf := fun q => hB1.ne (by rw [q]; exact hLf)
    have nFL : Fd ≠ Lf := fun q => by rw [← q, hF1] at hLf; cases hLf
    have hHL : H Lf = none := X1.fresh hLf
    have gL : G Lf = none := X1.sub.free hLf
    have X2 := X1.allocT (o := .lst (n4.map V.str)) hLf
    have hL2 : upd H1 Lf (.lst (n4.map V.str)) Lf = some (.lst (n4.map V.str)) := upd_same
    have hF2 : upd H1 Lf (.lst (n4.map V.str)) Fd = some (.lst []) := by rw [upd_ne nFL]; exact hF1
    have hB2 := hB1.upd (p := Lf) (o := .lst (n4.map V.str)) nbL
    generalize upd H1 Lf (.lst (n4.map V.str)) = H2 at X2 hL2 hF2 hB2 ⊢
    refine ⟨_, rfl, _, rfl, _, _, rfl, rfl, b, _, c, rfl, by decide, by decide, hB2, by omega, fun r x y z r0 r1 hB3 => ?_⟩
    have X3 := X2.put (o := .lst [.int x, .int y, .int z]) gb
    have kp3 : ∀ a, a ≠ b → ∀ o, H2 a = some o → upd H2 b (.lst [.int x, .int y, .int z]) a = some o := fun a na o h => by rw [upd_ne na]; exact h
    have r1 : r < 9 := r1
    generalize upd H2 b (.lst [.int x, .int y, .int z]) = H3 at X3 kp3 hB3 ⊢
    refine ⟨_, rfl, by omega, by omega, ?_⟩
    refine for_range (n := r.toNat) (fun i σ' H' => ∃ (v6 v7 : Option V) (G' : Hp) (xs : List V) (ds : List PyData) (lf : List Str), σ' = [some (.ref b), some (.ref a), some (.ref nm), some (.int 8), some (.ref Fd), some (.ref Lf), v6, v7, none, none] ∧ Xt (some b) H G H' G' ∧ Bag H' b (c + 1 + 5 * i) ∧ G' b = none ∧ H' Fd = some (.lst xs) ∧ G' Fd = none ∧ DA G' xs ds ∧ ds.length = i ∧ (∀ d ∈ ds, lnB d = true) ∧ H' Lf = some (.lst (lf.map V.str)) ∧ G' Lf = none ∧ (∀ z ∈ lf, z ∈ n4) ∧ lf.length ≤ 4) ?_ ?_ ?_
    · exact ⟨_, _, G, [], [], n4, rfl, X3, hB3.mono (by omega), gb, kp3 Fd nbF.symm _ hF2, gF, .nil, rfl, fun d h => (by cases h), kp3 Lf nbL.symm _ hL2, gL, fun z h => h, by decide⟩
    · rintro i σ' H4 hi ⟨v6, v7, G', xs, ds, lf, rfl, X, hBX, gbX, hF, gF', da', ld, ok, hL, gL', lsub, l4⟩
      have i8 : i < 8 := by omega
      have shL : SeqAt.shaped (.list (lf.map .str)) = true := shaped_sm (sm_strs lsub) (by omega)
      refine ⟨fun σ' H5 => ∃ (o : Option Str) (lf' : List Str), σ' = [some (.ref b), some (.ref a), some (.ref nm), some (.int 8), some (.ref Fd), some (.ref Lf), some (.int (0 + ((i : Nat) : Int))), some (nmV o), none, none] ∧ Xt (some b) H G H5 G' ∧ Bag H5 b (c + 1 + 5 * i + 2) ∧ H5 Fd = some (.lst xs) ∧ H5 Lf = some (.lst (lf'.map V.str)) ∧ (∀ z ∈ lf', z ∈ n4) ∧ lf'.length ≤ 4 ∧ ∀ z, o = some z → z ∈ n4, ?_, ?_⟩
      · refine ⟨_, rfl, Nat.zero_le _, fun e he => ?_⟩
        have nLe : Lf ≠ e := fun q => by rw [← q, hL] at he; cases he
        have nFe : Fd ≠ e := fun q => by rw [← q, hF] at he; cases he
        have nbe : b ≠ e := fun q => hBX.ne (by rw [q]; exact he)
        have Xe := X.allocT (o := .lst []) he
        have hLe : upd H4 e (.lst []) Lf = some (.lst (lf.map V.str)) := by rw [upd_ne nLe]; exact hL
        have hFe : upd H4 e (.lst []) Fd = some (.lst xs) := by rw [upd_ne nFe]; exact hF
        have hBe := hBX.upd (p := e) (o := .lst []) nbe
        have he' : upd H4 e (.lst []) e = some (.lst []) := upd_same
        generalize upd H4 e (.lst []) = H5 at Xe hLe hFe hBe he' ⊢
        refine ⟨.list (lf.map .str), .list [], .lst (SqL.of hLe) (DA.dp Xe.sub (DA.ofStrs lf)), .lst (SqL.of he') .nil, shL, shaped_nil, _, rfl, ?_⟩
        rw [eqv_nil]
        by_cases c0 : lf = []
        · rw [decide_eq_true (by rw [c0]; rfl)]
          exact iteF ⟨none, lf, rfl, Xe, hBe.mono (by omega), hFe, hLe, lsub, l4, fun z h => by cases h⟩
        · rw [decide_eq_false (by simpa using c0)]
          refine iteT ⟨_, rfl, b, 2, _, rfl, by decide, by decide, hBe, by omega, fun r x y z r0 r1 hB5 => ?_⟩
          have X5 := Xe.put (o := .lst [.int x, .int y, .int z]) gbX
          have kp5 : ∀ a, a ≠ b → ∀ o, H5 a = some o → upd H5 b (.lst [.int x, .int y, .int z]) a = some o := fun a na o h => by rw [upd_ne na]; exact h
          have hL5 := kp5 Lf nbL.symm _ hLe
          have hF5 := kp5 Fd nbF.symm _ hFe
          generalize upd H5 b (.lst [.int x, .int y, .int z]) = H6 at X5 hB5 hL5 hF5 ⊢
          refine ⟨rfl, _, rfl, ?_⟩
          rw [ei_]
          by_cases c1 : r = 0
          · rw [decide_eq_true c1]
            have lpos : 0 < lf.length := List.length_pos_iff.mpr c0
            refine iteT ⟨_, rfl, .inl ⟨rfl, _, SqL.of hL5⟩, _, rfl, _, rfl, Lf, _, rfl, .inl (SqL.of hL5), b, _, _, rfl, ?_, ?_, hB5, by omega, fun r2 x2 y2 z2 r20 r21 hB6 => ?_⟩
            · rw [List.length_map]; omega
            · rw [List.length_map]; omega
            have hk : r2.toNat < lf.length := by rw [List.length_map] at r21; omega
            obtain ⟨z0, hz0⟩ : ∃ z0, lf[r2.toNat]? = some z0 := ⟨_, List.getElem?_eq_getElem hk⟩
            have X6 := X5.put (o := .lst [.int x2, .int y2, .int z2]) gbX
            have hL6 : upd H6 b (.lst [.int x2, .int y2, .int z2]) Lf = some (.lst (lf.map V.str)) := by rw [upd_ne nbL.symm]; exact hL5
            have hF6 : upd H6 b (.lst [.int x2, .int y2, .int z2]) Fd = some (.lst xs) := by rw [upd_ne nbF.symm]; exact hF5
            generalize upd H6 b (.lst [.int x2, .int y2, .int z2]) = H7 at X6 hB6 hL6 hF6 ⊢
            refine ⟨Lf, _, r2, r2.toNat, .str z0, rfl, rfl, hL6, by omega, by omega, seqIndex_of r20 r21, by rw [List.getElem?_map, hz0]; rfl, ?_⟩
            refine ⟨some z0, lf.eraseIdx r2.toNat, rfl, X6.set hHL gL', (hB6.upd nbL).mono (by omega), by rw [upd_ne nFL]; exact hF6, by rw [upd_same, map_eraseIdx], fun z hz => lsub z (List.mem_of_mem_eraseIdx hz), by have := List.length_eraseIdx_le lf r2.toNat; omega, fun z hz => ?_⟩
            obtain rfl := Option.some.inj hz
            exact lsub _ (List.mem_of_getElem? hz0)
          · rw [decide_eq_false c1]
            exact iteF ⟨none, lf, rfl, X5, hB5.mono (by omega), hF5, hL5, lsub, l4, fun z h => by cases h⟩
      · rintro σ' H5 ⟨o, lf', rfl, X5, hB5, hF5, hL5, lsub', l4', on⟩
        have sG' : Same G G' := X5.gg
        refine ⟨_, rfl, .inl ⟨rfl, _, SqL.of hF5⟩, _, rfl, _, rfl, a, rfl, ⟨_, SqL.of (X5.sub _ _ (sG' _ _ ha))⟩, fun Dl hD => ?_⟩
        have nbD : b ≠ Dl := fun q => hB5.ne (by rw [q]; exact hD)
        have nFD : Fd ≠ Dl := fun q => by rw [← q, hF5] at hD; cases hD
        have nLD : Lf ≠ Dl := fun q => by rw [← q, hL5] at hD; cases hD
        have hHD : H Dl = none := X5.fresh hD
        have gD : G' Dl = none := X5.sub.free hD
        refine lc_it (walk_list (xs := cs)) (fun j H' => ∃ rs : List Int, Xt (some b) H G H' G' ∧ Bag H' b (c + 1 + 5 * i + 2 + j) ∧ H' Fd = some (.lst xs) ∧ H' Lf = some (.lst (lf'.map V.str)) ∧ H' Dl = some (.lst (rs.map V.int)) ∧ rs.length = j ∧ ∀ r ∈ rs, 0 ≤ r ∧ r ≤ 100) ?_ ?_ ?_ ?_
        · exact ⟨[], X5.allocT hD, (hB5.upd nbD).mono (by omega), by rw [upd_ne nFD]; exact hF5, by rw [upd_ne nLD]; exact hL5, upd_same, rfl, fun r h => by cases h⟩
        · rintro j H' hj ⟨rs, X, _⟩
          exact SqL.of (X.sub _ _ (sG' _ _ ha))
        · rintro j y H6 H0_ hj ⟨rs, X6, hB6, hF6, hL6, hD6, lr, hr6⟩ ⟨rfl, hy⟩
          obtain ⟨d, hdd, dy⟩ := (da.mono sG').get hy
          unfold dCols at hdd
          rw [List.getElem?_map] at hdd
          obtain ⟨cc, hcc, rfl⟩ := Option.map_eq_some_iff.mp hdd
          have tp := good.tops cc (List.mem_of_getElem? hcc)
          obtain ⟨t, rfl, ht⟩ := col_inv dy
          refine ⟨t, _, rfl, SqT.of (X6.sub _ _ ht), rfl, _, _, rfl, _, _, rfl, rfl, rfl, ?_⟩
          refine ⟨_, rfl, _, rfl, _, _, rfl, rfl, b, _, _, rfl, by omega, by omega, hB6, by omega, fun r x y z r0 r1 hB7 => ?_⟩
          have X7 := X6.put (o := .lst [.int x, .int y, .int z]) gbX
          refine ⟨rs.map V.int, by rw [upd_ne nbD.symm]; exact hD6, small_lt (by rw [List.length_map]; omega), rs ++ [r], X7.set hHD gD, (hB7.upd nbD).mono (by push_cast; omega), by rw [upd_ne nFD, upd_ne nbF.symm]; exact hF6, by rw [upd_ne nLD, upd_ne nbL.symm]; exact hL6, by rw [upd_same, List.map_append]; rfl, by rw [List.length_append, lr]; rfl, fun q hq => ?_⟩
          rcases List.mem_append.mp hq with h | h
          · exact hr6 q h
          · obtain rfl := List.mem_singleton.mp h
            omega
        · rintro H6 ⟨rs, X6, hB6, hF6, hL6, hD6, lr, hr6⟩
          refine ⟨Dl, _, rfl, .inl ⟨SqL.of hD6, fun tv htv => ?_⟩⟩
          have nbt : b ≠ tv := fun q => hB6.ne (by rw [q]; exact htv)
          have nFt : Fd ≠ tv := fun q => by rw [← q, hF6] at htv; cases htv
          have nLt : Lf ≠ tv := fun q => by rw [← q, hL6] at htv; cases htv
          have X7 := X6.alloc (o := .tup (rs.map V.int)) htv
          have hB7 := hB6.upd (p := tv) (o := .tup (rs.map V.int)) nbt
          have hF7 : upd H6 tv (.tup (rs.map V.int)) Fd = some (.lst xs) := by rw [upd_ne nFt]; exact hF6
          have hL7 : upd H6 tv (.tup (rs.map V.int)) Lf = some (.lst (lf'.map V.str)) := by rw [upd_ne nLt]; exact hL6
          have gF7 : upd G' tv (.tup (rs.map V.int)) Fd = none := none_of_ne gF' nFt
          have gL7 : upd G' tv (.tup (rs.map V.int)) Lf = none := none_of_ne gL' nLt
          have gb7 : upd G' tv (.tup (rs.map V.int)) b = none := none_of_ne gbX nbt
          have dv : D (upd G' tv (.tup (rs.map V.int))) (.ref tv) (.tuple (rs.map .int)) := .tup upd_same (DA.ofInts rs)
          have da7 := da'.mono (upd_same_ (o := .tup (rs.map V.int)) (X6.sub.free htv))
          generalize upd H6 tv (.tup (rs.map V.int)) = H7 at X7 hB7 hF7 hL7 ⊢
          generalize upd G' tv (.tup (rs.map V.int)) = G7 at X7 gF7 gL7 gb7 dv da7
          refine ⟨(by show 2 ≤ sizeLine; decide), fun tr htr => ?_⟩
          have nbr : b ≠ tr := fun q => hB7.ne (by rw [q]; exact htr)
          have nFr : Fd ≠ tr := fun q => by rw [← q, hF7] at htr; cases htr
          have nLr : Lf ≠ tr := fun q => by rw [← q, hL7] at htr; cases htr
          have X8 := X7.alloc (o := .tup [nmV o, .ref tv]) htr
          have dr : D (upd G7 tr (.tup [nmV o, .ref tv])) (.ref tr) (.tuple [optS o, .tuple (rs.map .int)]) := .tup upd_same (.cons (optS_at _ _) (.cons (dv.mono (upd_same_ (X7.sub.free htr))) .nil))
          have da8 := da7.mono (upd_same_ (o := .tup [nmV o, .ref tv]) (X7.sub.free htr))
          refine ⟨Fd, _, _, rfl, rfl, by rw [upd_ne nFr]; exact hF7, small_lt (by have := da'.length; omega), ?_⟩
          refine ⟨_, _, _, xs ++ [.ref tr], ds ++ [.tuple [optS o, .tuple (rs.map .int)]], lf', rfl, X8.set hFd (none_of_ne gF7 nFr), ((hB7.upd nbr).upd nbF).mono (by push_cast; omega), none_of_ne gb7 nbr, upd_same, none_of_ne gF7 nFr, da8.append (.cons dr .nil), by rw [List.length_append, ld]; rfl, fun d hd' => ?_, by rw [upd_ne nFL.symm, upd_ne nLr]; exact hL7, none_of_ne gL7 nLr, lsub', l4'⟩
          rcases List.mem_append.mp hd' with h | h
          · exact ok d h
          · obtain rfl := List.mem_singleton.mp h
            exact row_ok on hr6 (by omega)
    · rintro σ' H4 ⟨v6, v7, G', xs, ds, lf, rfl, X, hBX, gbX, hF, gF', da', ld, ok, hL, gL', lsub, l4⟩
      refine ⟨_, rfl, k Fd ds H4 _ (X.fix hFd hF) (hBX.mono (by omega)) (.lst upd_same (da'.mono (upd_same_ gF'))) (by omega) ok⟩
end
end Nw
namespace Nw
open PySem L2 PySem.Spec PyProof.Rows RZ
/-- _law_odd: data none of which are values of the tops -/
def spOdd : Sp := fun vs H Q _ => ∃ (v : V) (tx : Addr) (tops r : List Int) (i : Nat) (G : Hp), vs = [v, .ref tx, .int ((i : Nat) : Int)] ∧ D G v (.tuple (r.map .int)) ∧ G tx = some (.tup (tops.map V.int)) ∧ r.length = tops.length ∧ i < tops.length ∧ tops.length ≤ 3 ∧ (∀ t ∈ tops, t ≤ 3) ∧ Same G H ∧
  ∀ (p : Addr) (xs : List V) (ds : List PyData) (H' G' : Hp), Xt none H G H' G' → G' p = some (.lst xs) → DA G' xs ds → ds.length ≤ 100 → (∀ d ∈ ds, inTab tops d = false) → Q (.ref p) H'
theorem isIn_len : ∀ (ts : List Int) (ds : List PyData), ts.length ≠ ds.length → isIn ts ds = false
  | [], [], hn => absurd rfl hn
  | [], _ :: _, _ => rfl
  | _ :: _, [], _ => rfl
  | t :: ts, d :: ds, hn => by
    have q := isIn_len ts ds (fun e => hn (by rw [List.length_cons, List.length_cons, e]))
    cases d <;> simp [isIn, q]
/-- no value for the top t -/
def bad (t : Int) : PyData → Bool
  | .int v => !(decide (0 ≤ v) && decide (v ≤ t))
  | _ => true
theorem isIn_bad : ∀ {ts : List Int} {ds : List PyData} {i : Nat} {t : Int} {d : PyData}, ts[i]? = some t → ds[i]? = some d → bad t d = true → isIn ts ds = false
  | [], _, i, t, d, h, _, _ => by simp at h
  | _ :: _, [], i, t, d, _, h, _ => by simp at h
  | t :: ts, d :: ds, 0, t', d', h1, h2, hb => by
    simp at h1 h2
    subst h1; subst h2
    cases d with
    | int v =>
      have hb' : (!(decide (0 ≤ v) && decide (v ≤ t))) = true := hb
      show (decide (0 ≤ v) && decide (v ≤ t) && isIn ts ds) = false
      cases hq : (decide (0 ≤ v) && decide (v ≤ t)) with
      | false => rfl
      | true => rw [hq] at hb'; cases hb'
    | _ => rfl
  | t :: ts, d :: ds, i + 1, t', d', h1, h2, hb => by
    have q := isIn_bad (ts := ts) (ds := ds) (i := i) (by simpa using h1) (by simpa using h2) hb
    cases d <;> simp [isIn, q]
theorem cutD_take (ds : List PyData) (i : Nat) : cutD ds none (some ((i : Nat) : Int)) = ds.take i := by
  unfold cutD
  rw [HT.sIx_none, HT.sIx_nat, List.drop_zero, Nat.sub_zero]
  by_cases h : i ≤ ds.length
  · rw [Nat.min_eq_left h]
  · rw [Nat.min_eq_right (by omega), List.take_length, List.take_of_length_le (by omega)]
theorem cutD_drop (ds : List PyData) (i : Nat) : cutD ds (some ((i : Nat) : Int)) none = ds.drop i := by
  unfold cutD
  rw [HT.sIx_none, HT.sIx_nat]
  by_cases h : i ≤ ds.length
  · rw [Nat.min_eq_left h, List.take_of_length_le (by rw [List.length_drop]; omega)]
  · rw [Nat.min_eq_right (by omega), List.drop_of_length_le (Nat.le_refl _), List.drop_of_length_le (by omega), List.take_nil]
theorem cutD_init (ds : List PyData) : (cutD ds none (some (-1))).length = ds.length - 1 := by
  unfold cutD
  rw [HT.sIx_none, List.drop_zero, Nat.sub_zero, List.length_take]
  show min ((-1 : Int) + (ds.length : Int)).toNat ds.length = _
  omega
theorem put_at {ds : List PyData} {d : PyData} {i : Nat} (h : i < ds.length) : (ds.take i ++ [d] ++ ds.drop (i + 1))[i]? = some d := by
  rw [List.append_assoc, List.getElem?_append_right (by rw [List.length_take]; omega), List.length_take, Nat.min_eq_left (by omega), Nat.sub_self]
  rfl
/-! ### other columns -/
def dL (o : List Col) : PyData := .list (dCols o)
def spOthers : Sp := fun vs H Q _ => ∃ (b a : Addr) (c : Int) (cols : List Col) (G : Hp), vs = [.ref b, .ref a] ∧ D G (.ref a) (dL cols) ∧ Good n10 cols ∧ Bag H b c ∧ c ≤ 100000 ∧ G b = none ∧ Same G H ∧
  ∀ (p : Addr) (xs : List V) (oths : List (List Col)) (H' G' : Hp), Xt (some b) H G H' G' → Bag H' b (c + 1) → G' p = some (.lst xs) → DA G' xs (oths.map dL) → oths.length ≤ 100 → (∀ o ∈ oths, Good n11 o ∧ o ≠ cols) → Q (.ref p) H'
theorem nodup_set {α : Type} : ∀ {l : List α} {i : Nat} {x : α}, l.Nodup → x ∉ l → (l.set i x).Nodup
  | [], _, _, _, _ => by simp
  | a :: l, 0, x, h, hx => by
    rw [List.set_cons_zero]
    exact List.nodup_cons.mpr ⟨fun q => hx (List.mem_cons_of_mem _ q), (List.nodup_cons.mp h).2⟩
  | a :: l, i + 1, x, h, hx => by
    rw [List.set_cons_succ]
    have h2 := List.nodup_cons.mp h
    refine List.nodup_cons.mpr ⟨fun q => ?_, nodup_set h2.2 fun q => hx (List.mem_cons_of_mem _ q)⟩
    rcases List.mem_or_eq_of_mem_set q with q | q
    · exact h2.1 q
    · exact hx (q ▸ List.mem_cons_self)
theorem other_n10 : ("other" : Str) ∉ n10 := by decide +kernel
theorem good_names {cols : List Col} (g : Good n10 cols) : ("other" : Str) ∉ cols.map (·.1) := fun h => by
  obtain ⟨c, hc, e⟩ := List.mem_map.mp h
  exact other_n10 (e ▸ g.names c hc)
theorem good11 {cols : List Col} (g : Good n10 cols) : Good n11 cols := ⟨g.len, fun c h => n10_n11 _ (g.names c h), g.tops, g.nd⟩
theorem set_parts {cols : List Col} {i : Nat} {c' : Col} (hi : i < cols.length) : cols.take i ++ [c'] ++ cols.drop (i + 1) = cols.set i c' := by
  rw [List.set_eq_take_append_cons_drop, if_pos hi, List.append_assoc]
  rfl
theorem set_ne {cols : List Col} {i : Nat} {c c' : Col} (h : cols[i]? = some c) (hn : c' ≠ c) : cols.set i c' ≠ cols := fun e => by
  have hi := getElem?_lt h
  have q : (cols.set i c')[i]? = some c' := by rw [List.getElem?_set_self hi]
  rw [e, h] at q
  exact hn (Option.some.inj q).symm
theorem good_set {cols : List Col} {i : Nat} {c c' : Col} (g : Good n10 cols) (h : cols[i]? = some c) (h1 : c' = (("other" : Str), c.2) ∨ c' = (c.1, c.2 % 3 + 1)) : Good n11 (cols.set i c') ∧ cols.set i c' ≠ cols := by
  have hc := List.mem_of_getElem? h
  have ht := g.tops c hc
  have hi := getElem?_lt h
  have hn : c.1 ≠ "other" := fun e => other_n10 (e ▸ g.names c hc)
  refine ⟨⟨by rw [List.length_set]; exact g.len, fun d hd => ?_, fun d hd => ?_, ?_⟩, set_ne h ?_⟩
  · rcases List.mem_or_eq_of_mem_set hd with q | q
    · exact n10_n11 _ (g.names d q)
    · subst q
      rcases h1 with h1 | h1
      · rw [h1]; exact List.mem_cons_self
      · rw [h1]; exact n10_n11 _ (g.names c hc)
  · rcases List.mem_or_eq_of_mem_set hd with q | q
    · exact g.tops d q
    · subst q
      rcases h1 with h1 | h1
      · rw [h1]; exact ht
      · rw [h1]; show 1 ≤ c.2 % 3 + 1 ∧ c.2 % 3 + 1 ≤ 3; omega
  · rw [List.map_set]
    rcases h1 with h1 | h1
    · rw [h1]; exact nodup_set g.nd (good_names g)
    · rw [h1]
      have e : (cols.map (·.1)).set i c.1 = cols.map (·.1) := by
        have q : cols.set i c = cols := by
          refine List.ext_getElem? fun j => ?_
          by_cases hj : i = j
          · subst hj; rw [List.getElem?_set_self hi, h]
          · rw [List.getElem?_set_ne hj]
        rw [← List.map_set, q]
      rw [e]; exact g.nd
  · rcases h1 with h1 | h1
    · rw [h1]; exact fun e => hn (by rw [← e])
    · rw [h1]; exact fun e => by
        have q : c.2 % 3 + 1 = c.2 := congrArg (·.2) e
        omega
theorem good_more {cols : List Col} (g : Good n10 cols) (hl : cols.length < 3) : Good n11 (cols ++ [(("other" : Str), (1 : Int))]) ∧ cols ++ [(("other" : Str), (1 : Int))] ≠ cols := by
  refine ⟨⟨by rw [List.length_append, List.length_singleton]; omega, fun d hd => ?_, fun d hd => ?_, ?_⟩, fun e => ?_⟩
  · rcases List.mem_append.mp hd with q | q
    · exact n10_n11 _ (g.names d q)
    · rw [List.mem_singleton] at q; subst q; exact List.mem_cons_self
  · rcases List.mem_append.mp hd with q | q
    · exact g.tops d q
    · rw [List.mem_singleton] at q; subst q; exact ⟨by decide, by decide⟩
  · rw [List.map_append]
    refine List.nodup_append.mpr ⟨g.nd, by simp, fun x hx y hy => ?_⟩
    simp at hy
    subst hy
    exact fun e => good_names g (e ▸ hx)
  · have := congrArg List.length e
    simp at this
theorem good_rev {cols : List Col} (g : Good n10 cols) (hl : 1 < cols.length) : Good n11 cols.reverse ∧ cols.reverse ≠ cols := by
  refine ⟨⟨by rw [List.length_reverse]; exact g.len, fun d hd => n10_n11 _ (g.names d (List.mem_reverse.mp hd)), fun d hd => g.tops d (List.mem_reverse.mp hd), ?_⟩, fun e => ?_⟩
  · rw [List.map_reverse]
    exact (List.reverse_perm _).nodup_iff.mpr g.nd
  · have l3 := g.len.2
    have nd := g.nd
    match cols, hl, l3 with
    | [a, b], _, _ =>
      simp at e
      rw [e.1] at nd
      simp at nd
    | [a, b, c], _, _ =>
      simp at e
      rw [e.1] at nd
      simp at nd
    | a :: b :: c :: d :: r, _, l3 => simp at l3
theorem good_tail {cols : List Col} (g : Good n10 cols) (hl : 1 < cols.length) : Good n11 (cols.drop 1) ∧ cols.drop 1 ≠ cols := by
  refine ⟨⟨by rw [List.length_drop]; have := g.len; omega, fun d hd => n10_n11 _ (g.names d (List.mem_of_mem_drop hd)), fun d hd => g.tops d (List.mem_of_mem_drop hd), ?_⟩, fun e => ?_⟩
  · rw [List.map_drop]
    exact g.nd.sublist (List.drop_sublist _ _)
  · have := congrArg List.length e
    rw [List.length_drop] at this
    omega
theorem cxD {G : Hp} {cx : Addr} {cols : List Col} (h : G cx = some (.tup (cols.map fun c => .str c.1))) : D G (.ref cx) (.tuple ((cols.map (·.1)).map .str)) :=
  .tup h (by rw [show (cols.map fun c => V.str c.1) = (cols.map (·.1)).map V.str by rw [List.map_map]; rfl]; exact DA.ofStrs _)
theorem txD {G : Hp} {tx : Addr} {cols : List Col} (h : G tx = some (.tup (cols.map fun c => .int c.2))) : D G (.ref tx) (.tuple ((cols.map (·.2)).map .int)) :=
  .tup h (by rw [show (cols.map fun c => V.int c.2) = (cols.map (·.2)).map V.int by rw [List.map_map]; rfl]; exact DA.ofInts _)
/-- [name for name, top in columns] and the like: what the walk over a stable list of columns gives -/
theorem lc_cols {K : PySem.W.Frag} {te : TE} {vs : List Nat} {σ : L2.St} {H G : Hp} {Dl a : Addr} {Qd : Hp → Prop} {g : TG} {cs : List V} {cols : List Col} (f : Col → PyData) (ha : G a = some (.lst cs)) (da : DA G cs (dCols cols)) (hl3 : cols.length ≤ 3) (hD : H Dl = none) (s : Same G H)
    (hs : ∀ (c : Col) (t : Addr) (H1 G1 : Hp), c ∈ cols → Xt none H G H1 G1 → G1 t = some (.tup [.str c.1, .int c.2]) → ∀ Qy : VK, (∀ y H4 G4, Xt none H1 G1 H4 G4 → D G4 y (f c) → Qy y H4) → g (.ref t) (wipe σ vs) H1 fun σ2 H3 => wipe σ2 vs = wipe σ vs ∧ te σ2 H3 Qy)
    (hd : ∀ H1 G1 xs, Xt none H G H1 G1 → H1 Dl = some (.lst xs) → G1 Dl = none → DA G1 xs (cols.map f) → Qd H1) :
    ∃ W : Nat → Nat → Hp → Prop, (∃ m, W 0 m (upd H Dl (.lst []))) ∧ ∀ i m H, W i m H →
      ((Itl K a).stop i H ∧ Qd H) ∨ ((Itl K a).go i H ∧ ∃ Nx : Hp → Prop, (∀ H', Nx H' → ∃ m', m' < m ∧ W (i + 1) m' H') ∧ ∀ x H', (Itl K a).yld i H x H' → g x (wipe σ vs) H' fun σ2 H2 => wipe σ2 vs = wipe σ vs ∧ tYes σ2 H2 fun b H3 =>
        if b = true then te σ2 H3 fun y H4 => ∃ acc, H4 Dl = some (.lst acc) ∧ acc.length < sizeLine ∧ Nx (upd H4 Dl (.lst (acc ++ [y]))) else Nx H3) := by
  have hcl : cs.length = cols.length := by rw [da.length, dCols, List.length_map]
  refine lc_data (b := none) (R := fun _ _ => True) (G := G) (te := te) (walk_list (xs := cs)) (cols.map f) (by rw [List.length_map, hcl]) (by omega) hD s (fun q => by cases q) trivial (fun _ _ _ _ => trivial) (fun i H4 G4 X4 _ => SqL.of (X4.sub _ _ (X4.gg _ _ ha))) ?_ (fun H1 G1 xs X _ => hd H1 G1 xs X)
  rintro i y H1 G1 H2 d hd X1 _ ⟨rfl, hy⟩ Qy hq
  obtain ⟨c, t, hc, rfl, ht⟩ := cols_at (da.mono X1.gg) hy
  rw [List.getElem?_map, hc] at hd
  obtain rfl := Option.some.inj hd
  exact hs c t _ G1 (List.mem_of_getElem? hc) X1 ht Qy fun y H4 G4 X4 d4 => hq y H4 G4 X4 trivial d4
theorem isIn_snoc : ∀ {ts : List Int} {ds : List PyData} {t v : Int}, isIn ts ds = true → 0 ≤ v → v ≤ t → isIn (ts ++ [t]) (ds ++ [.int v]) = true
  | [], [], t, v, _, h0, h1 => by
    show (decide (0 ≤ v) && decide (v ≤ t) && isIn [] []) = true
    rw [decide_eq_true h0, decide_eq_true h1]; rfl
  | [], _ :: _, _, _, h, _, _ => by cases h
  | _ :: _, [], _, _, h, _, _ => by cases h
  | a :: ts, d :: ds, t, v, h, h0, h1 => by
    cases d with
    | int w =>
      have h' : (decide (0 ≤ w) && decide (w ≤ a) && isIn ts ds) = true := h
      rw [Bool.and_eq_true] at h'
      show (decide (0 ≤ w) && decide (w ≤ a) && isIn (ts ++ [t]) (ds ++ [.int v])) = true
      rw [h'.1, isIn_snoc h'.2 h0 h1]; rfl
    | _ => cases h
theorem allV_in_ : ∀ {tops t0 : List Int} {found : List (List Int)}, (∀ r ∈ found, isIn t0 (r.map .int) = true) → ∀ r ∈ tops.foldl stepV found, isIn (t0 ++ tops) (r.map .int) = true
  | [], t0, found, h, r, hr => by rw [List.append_nil]; exact h r hr
  | t :: ts, t0, found, h, r, hr => by
    have := allV_in_ (tops := ts) (t0 := t0 ++ [t]) (found := stepV found t) (fun r hr => by
      obtain ⟨q, v, hq, rfl, h0, h1⟩ := stepV_mem hr
      rw [List.map_append]
      exact isIn_snoc (h q hq) h0 h1) r hr
    rw [List.append_assoc] at this
    exact this
theorem allV_in {tops : List Int} {r : List Int} (h : r ∈ allV tops) : inTab tops (dRow r) = true := by
  have := allV_in_ (tops := tops) (t0 := []) (found := [[]]) (fun r hr => by simp at hr; subst hr; rfl) r h
  exact this
theorem n11_empty : ∀ n ∈ n11, Str.empty ++ n = n := by decide +kernel
theorem tab_empty : Str.empty ++ ("Table(" : Str) = "Table(" := by decide +kernel
theorem law_text {cols : List Col} (h : ∀ c ∈ cols, c.1 ∈ n11) : tabText cols = ("Table(" : Str) ++ Txt.join ", " (cols.map fun c => c.1 ++ "=" ++ ((toString c.2 : String) : Str)) ++ ")" := by
  have e : cols.map colText = cols.map fun c => c.1 ++ "=" ++ ((toString c.2 : String) : Str) :=
    List.map_congr_left fun c hc => by
      show Str.empty ++ c.1 ++ "=" ++ _ = _
      rw [n11_empty c.1 (h c hc)]
  unfold tabText
  rw [tab_empty, e]
theorem allV_pos {tops : List Int} (h : ∀ t ∈ tops, 1 ≤ t) : allV tops ≠ [] := by
  have key : ∀ (ts : List Int) (found : List (List Int)), (∀ t ∈ ts, 1 ≤ t) → found ≠ [] → ts.foldl stepV found ≠ [] := by
    intro ts
    induction ts with
    | nil => intro found _ hf; exact hf
    | cons t ts ih =>
      intro found ht hf
      refine ih _ (fun x hx => ht x (List.mem_cons_of_mem _ hx)) ?_
      have h1 := ht t List.mem_cons_self
      cases found with
      | nil => exact absurd rfl hf
      | cons r rs =>
        intro e
        have := congrArg List.length e
        unfold stepV at this
        rw [List.map_cons, List.flatten_cons, List.length_append, List.length_map, List.length_range] at this
        simp at this
        omega
  exact key tops [[]] h (by simp)
end Nw
namespace Nw
open PySem L2 PySem.Spec PyProof.Rows RZ
/-! _law_is_row, _law_first -/
theorem isRowD_len {tops : List Int} {ds : List PyData} (c2 : ds.length ≠ 2) : isRowD tops (.tuple ds) = false := by
  match ds, c2 with
  | [], _ => rfl
  | [_], _ => rfl
  | [_, _], h => exact absurd rfl h
  | _ :: _ :: _ :: _, _ => rfl
theorem isRowD_no2 {tops : List Int} {d1 d2 : PyData} (h : inTab tops d2 = false) : isRowD tops (.tuple [d1, d2]) = false := by
  show (okName d1 && inTab tops d2) = false
  rw [h, Bool.and_false]
theorem isRowD_two {tops : List Int} {d1 d2 : PyData} (h : inTab tops d2 = true) : isRowD tops (.tuple [d1, d2]) = okName d1 := by
  show (okName d1 && inTab tops d2) = okName d1
  rw [h, Bool.and_true]
def spLRow : Sp := fun vs H Q _ => ∃ (v : V) (a : Addr) (d : PyData) (cols : List Col) (G : Hp), vs = [v, .ref a] ∧ D G v d ∧ shortD d ∧ D G (.ref a) (.list (dCols cols)) ∧ cols.length ≤ 3 ∧ Same G H ∧ ∀ H', Xt none H G H' G → Q (.bl (isRowD (cols.map (·.2)) d)) H'
theorem inV_opts (z : Str) : ∀ os : List (Option Str), inV (.str z) (os.map nmV) = decide (z ∈ os.filterMap id)
  | [] => by simp [inV]
  | o :: os => by
    have ih := inV_opts z os
    unfold inV at ih ⊢
    rw [List.map_cons, List.any_cons, ih]
    cases o with
    | none =>
      show (false || decide (z ∈ os.filterMap id)) = decide (z ∈ (none :: os).filterMap id)
      rw [Bool.false_or]; rfl
    | some y =>
      have e : eqV (V.str y) (V.str z) = decide (y = z) := rfl
      show (eqV (V.str y) (V.str z) || _) = decide (z ∈ (some y :: os).filterMap id)
      rw [e]
      have em : (some y :: os).filterMap id = y :: os.filterMap id := rfl
      rw [em]
      by_cases h : y = z
      · subst h; simp
      · have : z ≠ y := fun q => h q.symm
        simp [h, this]
theorem flat_opts (os : List (Option Str)) : (os.map nmV).all flatV = true := List.all_eq_true.mpr fun v hv => by
  obtain ⟨o, _, rfl⟩ := List.mem_map.mp hv
  cases o <;> rfl
def spLFirst : Sp := fun vs H Q _ => ∃ (l a : Addr) (ds : List PyData) (cols : List Col) (G : Hp), vs = [.ref l, .ref a] ∧ D G (.ref l) (.list ds) ∧ ds.length ≤ 100 ∧ (∀ d ∈ ds, shortD d) ∧ D G (.ref a) (.list (dCols cols)) ∧ cols.length ≤ 3 ∧ Same G H ∧
  ∀ H', Xt none H G H' G → Q (optV (badE (cols.map (·.2)) [] 0 ds)) H'
section
variable {P : Program} {w : World} {K : PySem.W.Frag} {mg : Str → Option Value} {base : Heap}
theorem lIsRow {f : Addr} {fd : FuncData} (F : C8.Def K mg "_law_is_row" s__law_is_row f fd) (b : Binds K fd P__law_is_row []) (T : Names K mg) : C8.Cal P w K mg base 1 "_law_is_row" spLRow [] := by
  refine C8.cal0 (N := N__law_is_row) F b .nil sc__law_is_row (fun vs H Q E h => ?_) (fun cdv A outer s H vs Q E hr h => ?_)
  · obtain ⟨v, a, d, cols, G, rfl, _⟩ := h
    rfl
  · obtain ⟨v, a, d, cols, G, rfl, hd, hsh, hc, c3, sG, k⟩ := h
    refine ⟨_, (pss_cons (ps_if (PW.pt (pw_or (pt_not (pt_val (pe_callB call_isi (by rfl) T.n_isinstance (by decide +kernel) (pa_cons (pv 0) (pa_cons (pe_bltn (v := .ty "tuple") (u := .type "tuple") (by rfl) T.n_tuple (by decide +kernel) rfl) pa_nil))))) (pw_or (pt_cmpR op_ne (pe_callB call_len_seq (by rfl) T.n_len PySem.boot_len (pa_cons (pv 0) pa_nil)) pe_int (nomark _)) (pw_or (pt_not (pt_val (pe_callB call_isi (by rfl) T.n_isinstance (by decide +kernel) (pa_cons (pe_ix ix_tup (pv 0) pe_int (fun _ _ => rfl)) (pa_cons (pe_bltn (v := .ty "tuple") (u := .type "tuple") (by rfl) T.n_tuple (by decide +kernel) rfl) pa_nil))))) (pw_or1 (pt_cmpR op_ne (pe_callB call_len_seq (by rfl) T.n_len PySem.boot_len (pa_cons (pe_ix ix_tup (pv 0) pe_int (fun _ _ => rfl)) pa_nil)) (pe_callB call_len_seq (by rfl) T.n_len PySem.boot_len (pa_cons (pv 1) pa_nil)) (nomark _))))))) (pss_one (ps_ret pe_bl)) pss_nil)
 (pss_cons (ps_for PassesOwn.never rfl (pi_zipM (by rfl) T.n_zip (pa_cons (pe_ix ix_tup (pv 0) pe_int (fun _ _ => rfl)) (pa_cons (pv 1) pa_nil))) (pg_tup rfl (pgs_cons (pg_name (i := 2) sc__law_is_row.nd rfl (Or.inl rfl)) (pgs_cons (pg_tup rfl (pgs_cons (pg_name (i := 3) sc__law_is_row.nd rfl (Or.inl rfl)) (pgs_cons (pg_name (i := 4) sc__law_is_row.nd rfl (Or.inl rfl)) pgs_nil))) pgs_nil))) (pss_one (ps_if (PW.pt (pw_or (pt_not (pt_val (pe_callB call_isi (by rfl) T.n_isinstance (by decide +kernel) (pa_cons (pv 2) (pa_cons (pe_bltn (v := .ty "int") (u := .type "int") (by rfl) T.n_int (by decide +kernel) rfl) pa_nil))))) (pw_or (pt_val (pe_callB call_isi (by rfl) T.n_isinstance (by decide +kernel) (pa_cons (pv 2) (pa_cons (pe_bltn (v := .ty "bool") (u := .type "bool") (by rfl) T.n_bool (by decide +kernel) rfl) pa_nil)))) (pw_or1 (pt_not (pt_chain op_le op_le pe_int (pv 2) (pv 4))))))) (pss_one (ps_ret pe_bl)) pss_nil)))
 (pss_cons (ps_if (pt_cmpR op_isN (pe_ix ix_tup (pv 0) pe_int (fun _ _ => rfl)) pe_non (nomark _)) (pss_one (ps_ret pe_bl)) pss_nil)
 (pss_cons (ps_if (PW.pt (pw_or (pt_not (pt_val (pe_callB call_isi (by rfl) T.n_isinstance (by decide +kernel) (pa_cons (pe_ix ix_tup (pv 0) pe_int (fun _ _ => rfl)) (pa_cons (pe_bltn (v := .ty "str") (u := .type "str") (by rfl) T.n_str (by decide +kernel) rfl) pa_nil))))) (pw_or1 (pt_not (pt_chain op_le op_le pe_int (pe_callB call_len_str (by rfl) T.n_len PySem.boot_len (pa_cons (pe_ix ix_tup (pv 0) pe_int (fun _ _ => rfl)) pa_nil)) pe_int))))) (pss_one (ps_ret pe_bl)) pss_nil)
 (pss_one (ps_ret (pe_callB (cr_all rfl) (by rfl) T.n_all (by decide +kernel) (pa_cons (pe_lc (own := [("_law_sign", 5)]) (g := (gName 5)) (tt := tYes) rfl sc__law_is_row.nd (pi_str (pe_ix ix_tup (pv 0) pe_int (fun _ _ => rfl))) (blkOk_by (own := [("_law_sign", 5)]) (N := N__law_is_row) (sc := C8.fnScope s__law_is_row) (by decide +kernel)) (fun _ _ _ _ _ => (pg_name (i := 5) sc__law_is_row.nd rfl (Or.inl rfl))) (fun _ _ _ _ _ => pts_nil) (fun _ _ _ _ _ => (pe_cmpR op_in_sign (pv 5) pe_str (by rfl)))) pa_nil)))))))), ?_⟩
    have k0 := k H (Xt.refl sG)
    obtain ⟨a_, cs, e0, ha, dc⟩ := id hc.list_inv
    cases e0
    have lc : cs.length = cols.length := by rw [dc.length, dCols, List.length_map]
    cases hd with
    | non => exact ⟨_, rfl, _, _, _, _, false, rfl, .ty _, .base .non, kit_ty (by decide +kernel), _, rfl, k0⟩
    | bl q => exact ⟨_, rfl, _, _, _, _, false, rfl, .ty _, .base (.bl q), kit_ty (by decide +kernel), _, rfl, k0⟩
    | int i => exact ⟨_, rfl, _, _, _, _, false, rfl, .ty _, .base (.int i), kit_ty (by decide +kernel), _, rfl, k0⟩
    | str z => exact ⟨_, rfl, _, _, _, _, false, rfl, .ty _, .base (.str z), kit_ty (by decide +kernel), _, rfl, k0⟩
    | lst h da => exact ⟨_, rfl, _, _, _, _, false, rfl, .ty _, .base (.lst (sG _ _ h)), kit_ty (by decide +kernel), _, rfl, k0⟩
    | @tup p xs ds h da =>
      refine ⟨_, rfl, _, _, _, _, true, rfl, .ty _, .base (.tup (sG _ _ h)), kit_ty (by decide +kernel), _, rfl, ?_⟩
      have hT := sG _ _ h
      refine iteF ⟨_, rfl, p, _, rfl, .inr (SqT.of hT), rfl, _, rfl, ?_⟩
      have hl := da.length
      by_cases c2 : ds.length = 2
      · rw [show (!decide (V.int ((xs.length : Nat) : Int) = V.int 2)) = false by rw [hl, c2]; rfl]
        refine iteF ?_
        match ds, xs, da, c2 with
        | [d1, d2], [x1, x2], .cons h1 (.cons h2 .nil), _ =>
          refine ⟨_, rfl, p, _, _, x2, rfl, rfl, SqT.of hT, rfl, ?_⟩
          have no2 : inTab (cols.map (·.2)) d2 = false → Q (.bl false) H := fun h => by rw [isRowD_no2 h] at k0; exact k0
          cases h2 with
          | non => exact ⟨_, _, _, _, false, rfl, .ty _, .base .non, kit_ty (by decide +kernel), _, rfl, iteT (no2 rfl)⟩
          | bl q => exact ⟨_, _, _, _, false, rfl, .ty _, .base (.bl q), kit_ty (by decide +kernel), _, rfl, iteT (no2 rfl)⟩
          | int i => exact ⟨_, _, _, _, false, rfl, .ty _, .base (.int i), kit_ty (by decide +kernel), _, rfl, iteT (no2 rfl)⟩
          | str z => exact ⟨_, _, _, _, false, rfl, .ty _, .base (.str z), kit_ty (by decide +kernel), _, rfl, iteT (no2 rfl)⟩
          | lst h' _ => exact ⟨_, _, _, _, false, rfl, .ty _, .base (.lst (sG _ _ h')), kit_ty (by decide +kernel), _, rfl, iteT (no2 rfl)⟩
          | @tup pv ws es h' dv =>
            have hv := sG _ _ h'
            have lw := dv.length
            refine ⟨_, _, _, _, true, rfl, .ty _, .base (.tup hv), kit_ty (by decide +kernel), _, rfl, iteF ?_⟩
            refine ⟨_, rfl, p, _, _, _, rfl, rfl, SqT.of hT, rfl, pv, _, rfl, .inr (SqT.of hv), _, rfl, a, _, rfl, .inl (SqL.of (sG _ _ ha)), rfl, _, rfl, ?_⟩
            by_cases cl : es.length = cols.length
            · rw [show (!decide (V.int ((ws.length : Nat) : Int) = V.int ((cs.length : Nat) : Int))) = false by rw [lw, lc, cl]; simp]
              refine iteF ?_
              refine ⟨_, rfl, p, _, _, _, rfl, rfl, SqT.of hT, rfl, _, rfl, pv, a, ws, cs, rfl, SqT.of hv, SqL.of (sG _ _ ha), ?_⟩
              have lt : (cols.map (·.2)).length = cols.length := List.length_map _
              refine for_it (walk_zipM (xs := ws) (ys := cs) (n := cols.length) (by omega) lc) (fun i σ' H' => ∃ v2 v3 v4 : Option V, σ' = [some (.ref p), some (.ref a), v2, v3, v4, none] ∧ Xt none H G H' G ∧ inTab (cols.map (·.2)) (.tuple es) = isIn ((cols.map (·.2)).drop i) (es.drop i)) ?_ ?_ ?_ ?_
              · exact ⟨none, none, none, rfl, Xt.refl sG, rfl⟩
              · rintro i σ' H' hi ⟨v2, v3, v4, rfl, X, _⟩
                exact ⟨SqT.of (X.sub _ _ h'), SqL.of (X.sub _ _ ha)⟩
              · rintro i y σ' H1 H0_ hi ⟨v2, v3, v4, rfl, X, hb⟩ ⟨T_, u1, u2, rfl, hT_, rfl, e1, e2⟩
                obtain ⟨d, hdd, dy⟩ := dv.get e1
                obtain ⟨c, t, hcc, rfl, ht⟩ := cols_at dc e2
                have htop : (cols.map (·.2))[i]? = some c.2 := by rw [List.getElem?_map, hcc]; rfl
                rw [drop_cons hdd, drop_cons htop] at hb
                have X2 := X.allocT (o := .tup [u1, .ref t]) hT_
                refine ⟨T_, _, rfl, SqT.of upd_same, rfl, _, _, rfl, _, _, rfl, t, _, rfl, SqT.of (X2.sub _ _ ht), rfl, _, _, rfl, _, _, rfl, rfl, rfl, ?_⟩
                generalize upd H1 T_ (.tup [u1, .ref t]) = H2 at X2 ⊢
                have no : isIn (c.2 :: (cols.map (·.2)).drop (i + 1)) (d :: es.drop (i + 1)) = false → Q (.bl false) H2 := fun h => by
                  rw [h] at hb
                  have q := k H2 X2
                  rw [isRowD_no2 hb] at q
                  exact q
                cases dy with
                | non => exact ⟨_, rfl, _, _, _, _, false, rfl, .ty _, .base .non, kit_ty (by decide +kernel), _, rfl, iteT (no rfl)⟩
                | str z => exact ⟨_, rfl, _, _, _, _, false, rfl, .ty _, .base (.str z), kit_ty (by decide +kernel), _, rfl, iteT (no rfl)⟩
                | lst hh _ => exact ⟨_, rfl, _, _, _, _, false, rfl, .ty _, .base (.lst (X2.sub _ _ hh)), kit_ty (by decide +kernel), _, rfl, iteT (no rfl)⟩
                | tup hh _ => exact ⟨_, rfl, _, _, _, _, false, rfl, .ty _, .base (.tup (X2.sub _ _ hh)), kit_ty (by decide +kernel), _, rfl, iteT (no rfl)⟩
                | bl q => exact ⟨_, rfl, _, _, _, _, true, rfl, .ty _, .base (.bl q), kit_ty (by decide +kernel), _, rfl, iteF ⟨_, rfl, _, _, _, _, true, rfl, .ty _, .base (.bl q), kit_ty (by decide +kernel), _, rfl, iteT (no rfl)⟩⟩
                | int n =>
                  refine ⟨_, rfl, _, _, _, _, true, rfl, .ty _, .base (.int n), kit_ty (by decide +kernel), _, rfl, iteF ⟨_, rfl, _, _, _, _, false, rfl, .ty _, .base (.int n), kit_ty (by decide +kernel), _, rfl, iteF ?_⟩⟩
                  have hb2 : inTab (cols.map (·.2)) (.tuple es) = (decide (0 ≤ n) && decide (n ≤ c.2) && isIn ((cols.map (·.2)).drop (i + 1)) (es.drop (i + 1))) := hb
                  have no2' : ¬ (0 ≤ n ∧ n ≤ c.2) → Q (.bl false) H2 := fun h => no (by
                    show (decide (0 ≤ n) && decide (n ≤ c.2) && _) = false
                    by_cases a1 : 0 ≤ n
                    · rw [decide_eq_true a1, decide_eq_false (fun a2 => h ⟨a1, a2⟩)]; rfl
                    · rw [decide_eq_false a1]; rfl)
                  refine ⟨_, rfl, _, _, rfl, rfl, _, rfl, ?_⟩
                  by_cases a1 : 0 ≤ n
                  · rw [decide_eq_true a1]
                    refine iteT ⟨_, rfl, _, _, rfl, rfl, _, rfl, ?_⟩
                    by_cases a2 : n ≤ c.2
                    · rw [decide_eq_true a2]
                      rw [decide_eq_true a1, decide_eq_true a2] at hb2
                      exact iteF ⟨_, _, _, rfl, X2, hb2⟩
                    · rw [decide_eq_false a2]
                      exact iteT (no2' fun q => a2 q.2)
                  · rw [decide_eq_false a1]
                    exact iteF ⟨_, rfl, iteT (no2' fun q => a1 q.1)⟩
              · rintro σ' H1 ⟨v2, v3, v4, rfl, X, hb⟩
                rw [List.drop_eq_nil_of_le (by omega), List.drop_eq_nil_of_le (by omega)] at hb
                have hb : inTab (cols.map (·.2)) (.tuple es) = true := hb
                have fin : ∀ H2, Xt none H G H2 G → Q (.bl (okName d1)) H2 := fun H2 X2 => by
                  have q := k H2 X2
                  rw [isRowD_two hb] at q
                  exact q
                have hT1 := X.sub _ _ h
                refine ⟨_, rfl, p, _, _, _, rfl, rfl, SqT.of hT1, rfl, rfl, _, rfl, ?_⟩
                cases h1 with
                | non =>
                  rw [show decide (V.non = V.non) = true by simp]
                  exact iteT (fin H1 X)
                | bl q =>
                  rw [show decide (V.bl q = V.non) = false by simp]
                  exact iteF ⟨_, rfl, p, _, _, _, rfl, rfl, SqT.of hT1, rfl, _, _, _, _, false, rfl, .ty _, .base (.bl q), kit_ty (by decide +kernel), _, rfl, iteT (fin H1 X)⟩
                | int q =>
                  rw [show decide (V.int q = V.non) = false by simp]
                  exact iteF ⟨_, rfl, p, _, _, _, rfl, rfl, SqT.of hT1, rfl, _, _, _, _, false, rfl, .ty _, .base (.int q), kit_ty (by decide +kernel), _, rfl, iteT (fin H1 X)⟩
                | @lst q _ _ hh _ =>
                  rw [show decide (V.ref q = V.non) = false by simp]
                  exact iteF ⟨_, rfl, p, _, _, _, rfl, rfl, SqT.of hT1, rfl, _, _, _, _, false, rfl, .ty _, .base (.lst (X.sub _ _ hh)), kit_ty (by decide +kernel), _, rfl, iteT (fin H1 X)⟩
                | @tup q _ _ hh _ =>
                  rw [show decide (V.ref q = V.non) = false by simp]
                  exact iteF ⟨_, rfl, p, _, _, _, rfl, rfl, SqT.of hT1, rfl, _, _, _, _, false, rfl, .ty _, .base (.tup (X.sub _ _ hh)), kit_ty (by decide +kernel), _, rfl, iteT (fin H1 X)⟩
                | str z =>
                  have hz : z.length ≤ 10000 := hsh
                  rw [show decide (V.str z = V.non) = false by simp]
                  refine iteF ⟨_, rfl, p, _, _, _, rfl, rfl, SqT.of hT1, rfl, _, _, _, _, true, rfl, .ty _, .base (.str z), kit_ty (by decide +kernel), _, rfl, iteF ?_⟩
                  refine ⟨_, rfl, p, _, _, _, rfl, rfl, SqT.of hT1, rfl, z, rfl, small_line (by omega), _, _, rfl, rfl, _, rfl, ?_⟩
                  have wf : (1 ≤ z.length → z.length ≤ 8 → z.cps.toList.all letter = false) → okName (.str z) = false := fun q => by
                    show (decide (1 ≤ z.length) && decide (z.length ≤ 8) && z.cps.toList.all letter) = false
                    by_cases p1 : 1 ≤ z.length
                    · by_cases p2 : z.length ≤ 8
                      · rw [q p1 p2]; simp
                      · rw [decide_eq_false p2]; simp
                    · rw [decide_eq_false p1]; simp
                  have f0 := fin H1 X
                  rcases Nat.lt_or_ge z.length 1 with c1 | c1
                  · rw [decide_eq_false (by omega : ¬ (1 : Int) ≤ (z.length : Int))]
                    rw [wf (fun q => absurd q (by omega))] at f0
                    exact iteF ⟨_, rfl, iteT f0⟩
                  rw [decide_eq_true (by omega : (1 : Int) ≤ (z.length : Int))]
                  refine iteT ⟨_, _, rfl, rfl, _, rfl, ?_⟩
                  rcases Nat.lt_or_ge 8 z.length with c8 | c8
                  · rw [decide_eq_false (by omega : ¬ (z.length : Int) ≤ 8)]
                    rw [wf (fun _ q => absurd q (by omega))] at f0
                    exact iteT f0
                  rw [decide_eq_true (by omega : (z.length : Int) ≤ 8)]
                  refine iteF ⟨_, rfl, p, _, _, _, rfl, rfl, SqT.of hT1, rfl, z, rfl, fun Dl hD => ?_⟩
                  refine lc_data (b := none) (R := fun _ _ => True) (G := G) walk_str (z.cps.toList.map fun c => .bool (letter c)) (by simp) (by show z.length < 100000; omega) hD X.sub (fun q => by cases q) trivial (fun _ _ _ _ => trivial) (fun _ _ _ _ _ => trivial) ?_ ?_
                  · intro i x H4 G4 H5 d hd X1 _ ⟨e, c, hc', ex⟩ Qy hq
                    subst e ex
                    have ed : d = .bool (letter c) := by
                      rw [List.getElem?_map, Array.getElem?_toList, hc'] at hd
                      exact (Option.some.inj hd).symm
                    subst ed
                    exact ⟨rfl, _, rfl, c, LET, rfl, rfl, hq _ _ _ (Xt.refl X1.sub) trivial (.bl _)⟩
                  intro H4 G4 ys X4 _ hl4 hg4 da4
                  have e := DA.bools (ns := z.cps.toList.map letter) (by rw [List.map_map]; exact da4)
                  have f4 := fin H4 (X.trans X4).back
                  refine ⟨Dl, _, rfl, SqL.of (by rw [hl4, e]), ?_⟩
                  rw [show (z.cps.toList.map letter).all id = z.cps.toList.all letter by rw [List.all_map]; rfl]
                  have eo : okName (.str z) = z.cps.toList.all letter := by
                    show (decide (1 ≤ z.length) && decide (z.length ≤ 8) && z.cps.toList.all letter) = _
                    rw [decide_eq_true c1, decide_eq_true c8]; rfl
                  rw [eo] at f4
                  exact f4
            · rw [show (!decide (V.int ((ws.length : Nat) : Int) = V.int ((cs.length : Nat) : Int))) = true by rw [lw, lc, decide_eq_false (fun q => cl (by injection q with q; omega))]; rfl]
              exact iteT (no2 (isIn_len _ _ (by rw [List.length_map]; omega)))
      · rw [show (!decide (V.int ((xs.length : Nat) : Int) = V.int 2)) = true by rw [hl, decide_eq_false (fun q => c2 (by injection q with q; omega))]; rfl]
        rw [isRowD_len c2] at k0
        exact iteT k0
theorem lFirst {f : Addr} {fd : FuncData} (F : C8.Def K mg "_law_first" s__law_first f fd) (b : Binds K fd P__law_first []) (T : Names K mg) (c__law_is_row : C8.Cal P w K mg base 1 "_law_is_row" spLRow []) : C8.Cal P w K mg base 2 "_law_first" spLFirst [] := by
  refine C8.cal0 (N := N__law_first) F b .nil sc__law_first (fun vs H Q E h => ?_) (fun cdv A outer s H vs Q E hr h => ?_)
  · obtain ⟨l, a, ds, cols, G, rfl, _⟩ := h
    rfl
  · obtain ⟨l, a, ds, cols, G, rfl, hd, h100, hsh, hc, c3, sG, k⟩ := h
    have hu := hu_of hr
    refine ⟨_, (pss_cons (ps_set (i := 2) sc__law_first.nd rfl (Or.inl rfl) (pe_lst pa_nil))
 (pss_cons (ps_for PassesOwn.never rfl (pi_enum (by rfl) T.n_enumerate (pa_cons (pv 0) pa_nil)) (pg_tup rfl (pgs_cons (pg_name (i := 3) sc__law_first.nd rfl (Or.inl rfl)) (pgs_cons (pg_name (i := 4) sc__law_first.nd rfl (Or.inl rfl)) pgs_nil))) (pss_cons (ps_if (PW.pt (pw_or (pt_not (pt_val (C8.pe_c c__law_is_row hr (by decide) rfl (pa_cons (pv 4) (pa_cons (pv 1) pa_nil))))) (pw_or1 (PW.pt (pw_and (pt_cmpR op_notN (pe_ix ix_tup (pv 4) pe_int (fun _ _ => rfl)) pe_non (nomark _)) (pw_and1 (pt_cmpR op_in_seq (pe_ix ix_tup (pv 4) pe_int (fun _ _ => rfl)) (pv 2) (by rfl)))))))) (pss_one (ps_ret (pv 3))) pss_nil)
 (pss_one (ps_expr (pe_bm PySem.F.plainAttrs_list PySem.F.slot_list_append PySem.F.type_list_append mt_append (pv 2) (pa_cons (pe_ix ix_tup (pv 4) pe_int (fun _ _ => rfl)) pa_nil))))))
 (pss_one (ps_ret pe_non)))), ?_⟩
    obtain ⟨l_, xs, e0, hl, da⟩ := id hd.list_inv
    cases e0
    have lx : xs.length = ds.length := da.length
    refine ⟨Nat.zero_le _, fun nl hnl => ?_⟩
    have gnl : G nl = none := sG.free hnl
    have X0 := Xt.tmp (b := none) (o := .lst []) sG hnl
    refine ⟨_, rfl, l, xs, rfl, SqL.of (X0.sub _ _ hl), ?_⟩
    refine for_it (walk_enum (xs := xs)) (fun i σ' H' => ∃ (v3 v4 : Option V) (os : List (Option Str)), σ' = [some (.ref l), some (.ref a), some (.ref nl), v3, v4] ∧ Xt none H G H' G ∧ H' nl = some (.lst (os.map nmV)) ∧ os.length = i ∧ badE (cols.map (·.2)) [] 0 ds = badE (cols.map (·.2)) (os.filterMap id) i (ds.drop i)) ?_ ?_ ?_ ?_
    · exact ⟨none, none, [], rfl, X0, upd_same, rfl, rfl⟩
    · rintro i σ' H' hi ⟨v3, v4, os, rfl, X, _⟩
      exact SqL.of (X.sub _ _ hl)
    · rintro i y σ' H1 H0_ hi ⟨v3, v4, os, rfl, X, hn, lo, hb⟩ ⟨T_, u1, u2, rfl, hT, rfl, e1, e2⟩
      obtain rfl := Option.some.inj e1
      obtain ⟨d, hdd, dy⟩ := da.get e2
      rw [drop_cons hdd] at hb
      have X2 := X.allocT (o := .tup [.int ((i : Nat) : Int), u2]) hT
      have hn2 := upd_same_ (o := .tup [.int ((i : Nat) : Int), u2]) hT _ _ hn
      refine ⟨T_, _, rfl, SqT.of upd_same, rfl, _, _, rfl, _, _, rfl, rfl, ?_⟩
      generalize upd H1 T_ (.tup [.int ((i : Nat) : Int), u2]) = H2 at X2 hn2 ⊢
      refine ⟨_, rfl, _, rfl, u2, a, d, cols, G, rfl, dy, hsh d (List.mem_of_getElem? hdd), hc, c3, X2.sub, fun H3 X3 => ⟨_, rfl, ?_⟩⟩
      have X23 := X2.trans X3
      have hn3 := X3.hh nl _ (fun q => by cases q) hn2
      have i100 : i < 100 := by omega
      have stop : badE (cols.map (·.2)) (os.filterMap id) i (d :: ds.drop (i + 1)) = some i → Q (.int ((i : Nat) : Int)) H3 := fun h => by
        have q := k H3 X23
        rw [hb, h] at q
        exact q
      have small : (os.map nmV).length < sizeLine := small_lt (by rw [List.length_map]; omega)
      cases ir : isRowD (cols.map (·.2)) d with
      | false => exact iteT ⟨_, rfl, stop (badE_no ir)⟩
      | true =>
        refine iteF ?_
        obtain ⟨v, hv, hk⟩ := isRow_inv ir
        rcases hk with rfl | ⟨z, hz, rfl⟩
        · obtain ⟨t, vs, rfl, ht, dw⟩ := D.tup_inv dy
          cases dw with
          | cons g1 dw =>
          cases dw with
          | cons g2 dw =>
          cases dw
          cases g1
          have ht3 := X23.sub _ _ ht
          rw [badE_non ir] at hb
          refine ⟨_, rfl, t, _, _, _, rfl, rfl, SqT.of ht3, rfl, rfl, _, rfl, ?_⟩
          rw [show (!decide (V.non = V.non)) = false by simp]
          refine iteF ?_
          refine iteF ⟨_, rfl, .inl ⟨rfl, _, SqL.of hn3⟩, _, rfl, t, _, _, _, rfl, rfl, SqT.of ht3, rfl, nl, _, _, rfl, rfl, hn3, small, ?_⟩
          refine ⟨_, _, os ++ [none], rfl, X23.set hnl gnl, by rw [upd_same, List.map_append]; rfl, by rw [List.length_append, lo]; rfl, ?_⟩
          rw [List.filterMap_append, hb]
          show _ = badE _ (os.filterMap id ++ []) _ _
          rw [List.append_nil]
        · obtain ⟨t, vs, rfl, ht, dw⟩ := D.tup_inv dy
          cases dw with
          | cons g1 dw =>
          cases dw with
          | cons g2 dw =>
          cases dw
          cases g1
          have ht3 := X23.sub _ _ ht
          refine ⟨_, rfl, t, _, _, _, rfl, rfl, SqT.of ht3, rfl, rfl, _, rfl, ?_⟩
          rw [show (!decide (V.str z = V.non)) = true by simp]
          refine iteT ⟨_, rfl, t, _, _, _, rfl, rfl, SqT.of ht3, rfl, _, rfl, nl, _, rfl, .inl (SqL.of hn3), rfl, flat_opts _, _, rfl, ?_⟩
          rw [inV_opts]
          by_cases c : z ∈ os.filterMap id
          · rw [decide_eq_true c]
            exact iteT ⟨_, rfl, stop (by rw [badE_str ir, if_pos c])⟩
          · rw [decide_eq_false c]
            rw [badE_str ir, if_neg c] at hb
            refine iteF ⟨_, rfl, .inl ⟨rfl, _, SqL.of hn3⟩, _, rfl, t, _, _, _, rfl, rfl, SqT.of ht3, rfl, nl, _, _, rfl, rfl, hn3, small, ?_⟩
            refine ⟨_, _, os ++ [some z], rfl, X23.set hnl gnl, by rw [upd_same, List.map_append]; rfl, by rw [List.length_append, lo]; rfl, ?_⟩
            rw [List.filterMap_append, hb]
            rfl
    · rintro σ' H' ⟨v3, v4, os, rfl, X, hn, lo, hb⟩
      rw [lx, List.drop_eq_nil_of_le (Nat.le_refl _)] at hb
      have q := k H' X
      rw [hb] at q
      exact q
end
end Nw
namespace Nw
open PySem L2 PySem.Spec PyProof.Rows RZ
theorem kb_all {K : PySem.W.Frag} {x qual : Str} {params : Arguments} {body : List Stmt} {scope : Scope} {kws : List (Str × V)} {f : Addr} {fd : FuncData} {ps : List Str} (F : FunD K x qual params body scope [] kws f fd) (n : Nat) (ks : List Str)
    (h : ∀ (kV doc pm : Value) (an : Option Addr) (cdv ct : Value) (us ws : List Value), us.length = n → ws.length = ks.length → bindArgs (PySem.W.fnOf x qual params body scope .none kV doc pm an cdv ct) ⟨us, ks.zip ws⟩ = pure (ps.zip (us ++ ws))) :
    KBn K fd ps n ks (fun us ws => us ++ ws) (fun vs zs => vs ++ zs) := by
  obtain ⟨oc, od, dV, kV, doc, pm, an, cdv, ct, osl, rfl, lk, hcd, hD, hK⟩ := F.ex
  rcases hD with ⟨_, rfl⟩ | ⟨e, _⟩
  · exact ⟨fun s us ws X l1 l2 => .of_eq (h kV doc pm an cdv ct us ws l1 l2), fun r1 r2 => r1.append r2⟩
  · exact absurd rfl e
/-! what the law k59 compares: how small it is; forty rows -/
theorem ln_sm {d : PyData} (h : lnB d = true) : smB 3 200 d = true := by
  unfold lnB at h
  rw [Bool.and_eq_true] at h
  exact h.1
theorem ln_short {d : PyData} (h : lnB d = true) : shortD d := by
  unfold lnB at h
  rw [Bool.and_eq_true] at h
  exact shortB_D h.2
theorem ln_list {ds : List PyData} (h : ∀ d ∈ ds, lnB d = true) (l : ds.length ≤ 40) : smB 4 8040 (.list ds) = true := smB_lst (k := 3) (w := 200) (m := 40) (fun d hd => ln_sm (h d hd)) l
theorem cut_mem {ds : List PyData} {lo hi : Option Int} {d : PyData} (h : d ∈ cutD ds lo hi) : d ∈ ds := by
  unfold cutD at h
  exact List.mem_of_mem_drop (List.mem_of_mem_take h)
theorem smB_mem : ∀ {ds : List PyData} {k w : Nat}, PyData.canLayAll0 ds = true → PyData.depthAll ds ≤ k → PyData.weightAll ds ≤ w → PyData.showableAll ds = true → PyData.intsShortAll 13 ds = true → ∀ d ∈ ds, smB k w d = true
  | [], _, _, _, _, _, _, _, d, hd => by cases hd
  | x :: ds, k, w, h1, h2, h3, h4, h5, d, hd => by
    have h1 : (x.canLay0 && PyData.canLayAll0 ds) = true := h1
    have h2 : max x.depth (PyData.depthAll ds) ≤ k := h2
    have h3 : x.weight + 1 + PyData.weightAll ds ≤ w := h3
    have h4 : (x.showable && PyData.showableAll ds) = true := h4
    have h5 : (x.intsShort 13 && PyData.intsShortAll 13 ds) = true := h5
    rw [Bool.and_eq_true] at h1 h4 h5
    rcases List.mem_cons.mp hd with rfl | hd
    · exact smB_iff.mpr ⟨h1.1, by omega, by omega, h4.1, h5.1⟩
    · exact smB_mem h1.2 (by omega) (by omega) h4.2 h5.2 d hd
theorem smB_of {k w : Nat} {ds : List PyData} (h : smB (k + 1) w (.tuple ds) = true) : ∀ d ∈ ds, smB k w d = true := by
  obtain ⟨h1, h2, h3, h4, h5⟩ := smB_iff.mp h
  have h2 : PyData.depthAll ds + 1 ≤ k + 1 := h2
  exact smB_mem h1 (by omega) h3 h4 h5
theorem out_sm {i : Nat} (hi : i ≤ 100) {r : Rw} (h : lnB (rwD r) = true) : smB 3 603 (outR i r) = true := by
  have a := smB_of (k := 2) (w := 200) (ds := [optS r.1, r.2]) (ln_sm h)
  refine smB_tup (k := 2) (w := 200) (m := 3) (fun d hd => ?_) (Nat.le_refl _)
  rcases List.mem_cons.mp hd with rfl | hd
  · exact smB_up (smB_int (i := ((i : Nat) : Int)) (by omega)) (by omega) (by omega)
  · exact a d hd
theorem due_shaped {tops : List Int} {ds : List PyData} (h : ∀ d ∈ ds, lnB d = true) (l : ds.length ≤ 40) : SeqAt.shaped (dueD tops ds) = true := by
  unfold dueD
  cases hb : badE tops [] 0 ds with
  | some i => exact rfl
  | none =>
    obtain ⟨rs, er, _⟩ := badE_good ds [] 0 hb List.nodup_nil
    subst er
    show SeqAt.shaped (.list _) = true
    rw [due_rows]
    refine shaped_sm (k := 4) (smB_lst (k := 3) (w := 603) (m := 40) (fun d hd => ?_) ?_) (by omega)
    · unfold rowsOut at hd
      obtain ⟨i, hi⟩ := List.mem_iff_getElem?.mp hd
      rw [List.getElem?_mapIdx] at hi
      obtain ⟨r, hr, rfl⟩ := Option.map_eq_some_iff.mp hi
      have li := (List.getElem?_eq_some_iff.mp hr).1
      rw [List.length_map] at l
      exact out_sm (by omega) (h _ (List.mem_map.mpr ⟨r, List.mem_of_getElem? hr, rfl⟩))
    · unfold rowsOut
      rw [List.length_mapIdx]
      rw [List.length_map] at l
      exact l
theorem shaped_lay0 {d : PyData} (h : SeqAt.shaped d = true) : d.canLay0 = true := by
  unfold SeqAt.shaped at h
  rw [Bool.and_eq_true] at h
  exact h.1
theorem rwD_inj {a b : Rw} (h : rwD a = rwD b) : a = b := by
  obtain ⟨o, v⟩ := a
  obtain ⟨o', v'⟩ := b
  have h : PyData.tuple [optS o, v] = .tuple [optS o', v'] := h
  injection h with h
  injection h with h1 h2
  injection h2 with h2
  subst h2
  cases o <;> cases o' <;> first | rfl | cases h1 | skip
  rfl
theorem rwD_map {rs rs' : List Rw} (h : rs.map rwD = rs'.map rwD) : rs = rs' := by
  induction rs generalizing rs' with
  | nil =>
    cases rs' with
    | nil => rfl
    | cons b bs => cases h
  | cons a as ih =>
    cases rs' with
    | nil => cases h
    | cons b bs =>
      rw [List.map_cons, List.map_cons] at h
      injection h with h1 h2
      rw [rwD_inj h1, ih h2]
def manyR (n : Nat) : List Rw := List.replicate 39 ((none, PyData.tuple (zD n)) : Rw) ++ [((some "x", PyData.tuple (zD n)) : Rw)]
def manyD (n : Nat) : List PyData := List.replicate 39 (.tuple [.none, .tuple (zD n)]) ++ [.tuple [.str "x", .tuple (zD n)]]
theorem many_map (n : Nat) : (manyR n).map rwD = manyD n := by
  unfold manyR manyD
  rw [List.map_append, List.map_replicate]
  rfl
theorem many_ok : ∀ cols ∈ CL, badE (cols.map (·.2)) [] 0 (manyD cols.length) = none := by decide +kernel
theorem many_len (n : Nat) : (manyD n).length = 40 := by unfold manyD; rw [List.length_append, List.length_replicate]; rfl
theorem many_short (n : Nat) : ∀ d ∈ manyD n, shortD d := by
  intro d hd
  unfold manyD at hd
  rcases List.mem_append.mp hd with h | h
  · rw [(List.mem_replicate.mp h).2]; trivial
  · rw [List.mem_singleton.mp h]
    show Str.length "x" ≤ 10000
    decide
theorem out_len (n : Nat) : (rowsOut (manyR n)).length = 40 := by unfold rowsOut manyR; rw [List.length_mapIdx, List.length_append, List.length_replicate]; rfl
theorem out_39 (n : Nat) : (rowsOut (manyR n))[39]? = some (.tuple [.int 39, .str "x", .tuple (zD n)]) := by
  unfold rowsOut
  rw [List.getElem?_mapIdx]
  rfl
theorem out_0 (n : Nat) : (rowsOut (manyR n))[0]? = some (.tuple [.int 0, .none, .tuple (zD n)]) := by
  unfold rowsOut
  rw [List.getElem?_mapIdx]
  rfl
theorem sh_39 : ∀ n ∈ [1, 2], SeqAt.shaped (.tuple [.int 39, .str "x", .tuple (zD n)]) = true := by decide +kernel
theorem sh_0 : ∀ n ∈ [1, 2], SeqAt.shaped (.tuple [.int 0, .none, .tuple (zD n)]) = true := by decide +kernel
theorem DA.at' {G : Hp} {xs : List V} {ds : List PyData} (h : DA G xs ds) {i : Nat} {d : PyData} (e : ds[i]? = some d) : ∃ x, xs[i]? = some x ∧ D G x d := by
  have li := (List.getElem?_eq_some_iff.mp e).1
  rw [← h.length] at li
  obtain ⟨d', h1, h2⟩ := h.get (List.getElem?_eq_getElem li)
  rw [e] at h1
  obtain rfl := Option.some.inj h1
  exact ⟨_, List.getElem?_eq_getElem li, h2⟩
theorem DA.rep {G : Hp} {x : V} {d : PyData} (h : D G x d) : ∀ k, DA G (List.replicate k [x]).flatten (List.replicate k d)
  | 0 => .nil
  | k + 1 => .cons h (DA.rep h k)
section
variable {σ : L2.St} {G0 : Hp} {te : TE} {ds : List PyData} {K : PySem.W.Frag}
theorem mk_slTo {i : Nat} {k : Int} (h : Mkd te σ G0 (.list ds)) (hi : σ[i]? = some (some (.int k))) : Mkd (tSl (rSlL K) te tNoPart (tPart (tVar i))) σ G0 (.list (cutD ds none (some k))) := fun H G Q s sG kk =>
  h H G _ s sG fun v H1 G1 X1 dv => ⟨_, hi, k, rfl, slL_data dv X1.sub fun q H2 G2 X2 dq => kk q H2 G2 (X1.trans X2) dq⟩
theorem mk_slFrom {i : Nat} {k : Int} (h : Mkd te σ G0 (.list ds)) (hi : σ[i]? = some (some (.int k))) : Mkd (tSl (rSlL K) te (tPart (tVar i)) tNoPart) σ G0 (.list (cutD ds (some k) none)) := fun H G Q s sG kk =>
  h H G _ s sG fun v H1 G1 X1 dv => ⟨_, hi, k, rfl, slL_data dv X1.sub fun q H2 G2 X2 dq => kk q H2 G2 (X1.trans X2) dq⟩
end
end Nw
namespace Nw
open PySem L2 PySem.Spec PyProof.Rows RZ
/-! the law k59 -/
def spLaw (K : PySem.W.Frag) : Sp := fun vs H Q _ => ∃ (a : Addr) (ns : List Int), vs = [.ref a] ∧ SqL K H a (ns.map V.int) ∧ ns.length ≤ 63 ∧ ∀ H', Q (.bl true) H'
section
variable {P : Program} {w : World} {K : PySem.W.Frag} {mg : Str → Option Value} {base : Heap}
theorem lLaw {f fD TC DC SC : Addr} {fd fdD : FuncData} {gK : List Value → List Value → List Value} (F : C8.Def K mg "law" s_law f fd) (T : Names K mg) (c__law_source : C8.Cal P w K mg base 1 "_law_source" (spBag K) []) (c__law_columns : C8.Cal P w K mg base 3 "_law_columns" spCol59 []) (m_Table : C8.Mak P w K mg base 3 "Table" TC (spInit TC) [])
    (c__law_rows : C8.Cal P w K mg base 2 "_law_rows" spRows59 []) (c__law_draw : C8.Cal P w K mg base 1 "_law_draw" spTake []) (c__law_odd : C8.Cal P w K mg base 3 "_law_odd" spOdd59 []) (c__law_first : C8.Cal P w K mg base 2 "_law_first" spLFirst []) (c__law_told : C8.Cal P w K mg base 7 "_law_told" (spTold TC) [])
    (c_Database__committed : C8.Met P w K mg base 3 DC "committed" (spCom DC SC) []) (M_D : Mk K DC fD) (F_D : FnOk P w K mg base C8.CX0 5 fD fdD P_Database____init__ (spDb TC DC SC)) (b_D : Binds K fdD P_Database____init__ []) (hm_D : mg "Database" = some (.ref DC)) (KB_D : KBn K fdD P_Database____init__ 1 ["table", "rows"] gK (fun vs zs => vs ++ zs)) :
    FnG P w K mg base C8.CX0 8 f fd ["_law_script"] (spLaw K) := by
  refine fnG F.fn sc_law (fun vs H Q E h => ?_) (fun cdv A outer s H vs Q E quiet hr h => ?_)
  · obtain ⟨a, ns, rfl, _⟩ := h
    rfl
  · obtain ⟨a, ns, rfl, hS, hlen, k⟩ := h
    have hu := hu_of hr
    have hguards : A.guards = some [] ∧ (A.deeper (envOfC "law" (C8.fnScope s_law) s.heap.objs.size f cdv)).units + 64 < cLine := ⟨quiet, hr.units⟩
    have m_Database : C8.Mak P w K mg base 5 "Database" DC (spDb TC DC SC) [] := ⟨fD, fdD, _, [], M_D, F_D, hm_D, b_D, .nil⟩
    refine ⟨_, (pss_cons (ps_for PassesOwn.never rfl (pi_range1 rfl T.n_range (pa_cons (pe_callB (call_max2 rfl) (by rfl) T.n_max (by decide +kernel) (pa_cons pe_int (pa_cons (pe_callB (call_min2 rfl) (by rfl) T.n_min (by decide +kernel) (pa_cons pe_int (pa_cons (pe_callB call_len_seq (by rfl) T.n_len PySem.boot_len (pa_cons (pv 0) pa_nil)) pa_nil))) pa_nil))) pa_nil)) (pg_name (i := 1) sc_law.nd rfl (Or.inl rfl)) (pss_cons (ps_set (i := 2) sc_law.nd rfl (Or.inl rfl) (C8.pe_c c__law_source hr (by decide) rfl (pa_cons (pv 0) (pa_cons (pv 1) pa_nil))))
 (pss_cons (ps_set (i := 3) sc_law.nd rfl (Or.inl rfl) (C8.pe_c c__law_columns hr (by decide) rfl (pa_cons (pv 2) pa_nil)))
 (pss_cons (ps_set (i := 4) sc_law.nd rfl (Or.inl rfl) (C8.pe_mk m_Table hr (by decide) rfl (pa_cons (pv 3) pa_nil)))
 (pss_cons (ps_for PassesOwn.never rfl (pi_range1 rfl T.n_range (pa_cons pe_int pa_nil)) (pg_name (i := 5) sc_law.nd rfl (Or.inl rfl)) (pss_cons (ps_set (i := 9) sc_law.nd rfl (Or.inl rfl) (C8.pe_c c__law_rows hr (by decide) rfl (pa_cons (pv 2) (pa_cons (pv 3) (pa_cons (pe_lst (pa_cons pe_str (pa_cons pe_str (pa_cons pe_str (pa_cons pe_str pa_nil))))) (pa_cons pe_int pa_nil))))))
 (pss_cons (ps_for PassesOwn.never rfl (pi_range1 rfl T.n_range (pa_cons (C8.pe_c c__law_draw hr (by decide) rfl (pa_cons (pv 2) (pa_cons pe_int pa_nil))) pa_nil)) (pg_name (i := 10) sc_law.nd rfl (Or.inl rfl)) (pss_cons (ps_set (i := 11) sc_law.nd rfl (Or.inl rfl) (C8.pe_c c__law_draw hr (by decide) rfl (pa_cons (pv 2) (pa_cons (pe_op op_add (pe_callB call_len_seq (by rfl) T.n_len PySem.boot_len (pa_cons (pv 9) pa_nil)) pe_int) pa_nil))))
 (pss_cons (ps_set (i := 12) sc_law.nd rfl (Or.inl rfl) (C8.pe_c c__law_odd hr (by decide) rfl (pa_cons (pv 2) (pa_cons (pv 3) pa_nil))))
 (C8.pss_cut (ps_if (PW.pt (pw_and (pt_cmpR op_eq (C8.pe_c c__law_draw hr (by decide) rfl (pa_cons (pv 2) (pa_cons pe_int pa_nil))) pe_int (nomark _)) (pw_and1 (pt_cmpR (op_neD hr.units) (pv 9) (pe_lst pa_nil) (nomark _))))) (pss_one (ps_set (i := 12) sc_law.nd rfl (Or.inl rfl) (pe_ix ix_list (pv 9) (C8.pe_c c__law_draw hr (by decide) rfl (pa_cons (pv 2) (pa_cons (pe_callB call_len_seq (by rfl) T.n_len PySem.boot_len (pa_cons (pv 9) pa_nil)) pa_nil))) (fun _ _ => rfl)))) pss_nil)
 (pss_cons (ps_set (i := 13) sc_law.nd rfl (Or.inl rfl) (pe_op op_add (pv 11) (C8.pe_c c__law_draw hr (by decide) rfl (pa_cons (pv 2) (pa_cons pe_int pa_nil)))))
 (pss_one (ps_set (i := 9) sc_law.nd rfl (Or.inl rfl) (pe_op op_cat (pe_op op_cat (pe_slice (sl_listK (K := K) rfl) (pv 9) po_none (po_some (pv 11))) (pe_lst (pa_cons (pv 12) pa_nil))) (pe_slice (sl_listK (K := K) rfl) (pv 9) (po_some (pv 13)) po_none)))))))))
 (pss_cons (ps_par (i := 14) (j := 15) (by rfl) sc_law.nd rfl rfl (by decide) rfl rfl (pa_cons (pe_callTy call_list_of (by rfl) T.n_list (by decide +kernel) (pa_cons (pv 9) pa_nil)) (pa_cons (C8.pe_c c__law_first hr (by decide) rfl (pa_cons (pv 9) (pa_cons (pv 3) pa_nil))) pa_nil)) (by rfl))
 (C8.pss_cut (ps_if (pt_cmpR op_isN (pv 15) pe_non (nomark _)) (pss_one (ps_setLc (i := 15) (own := [("_law_tag", 17), ("_law_row", 18)]) (g := (gTup K 2 (gCons (gName 17) (gCons (gName 18) gNil)))) (tt := tYes) rfl sc_law.nd rfl rfl (sw_true rfl rfl rfl (by decide +kernel)) (pi_enum (by rfl) T.n_enumerate (pa_cons (pv 9) pa_nil)) (blkOk_by (own := [("_law_tag", 17), ("_law_row", 18)]) (N := N_law) (sc := C8.fnScope s_law) (by decide +kernel)) (fun _ _ _ _ _ => (pg_tup rfl (pgs_cons (pg_name (i := 17) sc_law.nd rfl (Or.inl rfl)) (pgs_cons (pg_name (i := 18) sc_law.nd rfl (Or.inl rfl)) pgs_nil)))) (fun _ _ _ _ _ => pts_nil) (fun _ _ _ _ _ => (pe_tup (pa_cons (pv 17) (pa_cons (pe_ix (ix_tupK (K := K) rfl) (pv 18) pe_int (fun _ _ => rfl)) (pa_cons (pe_ix (ix_tupK (K := K) rfl) (pv 18) pe_int (fun _ _ => rfl)) pa_nil))))))) pss_nil)
 (pss_one (ps_if (PW.pt (pw_or (pt_cmpR (op_neD hr.units) (C8.pe_c c__law_told hr (by decide) rfl (pa_cons (pv 4) (pa_cons (pv 14) pa_nil))) (pv 15) (nomark _)) (pw_or1 (pt_cmpR op_ne (pe_callB (call_reprD hguards) (by rfl) T.n_repr (by decide +kernel) (pa_cons (pv 14) pa_nil)) (pe_callB (call_reprD hguards) (by rfl) T.n_repr (by decide +kernel) (pa_cons (pv 9) pa_nil)) (nomark _))))) (pss_one (ps_ret pe_bl)) pss_nil)))))))
 (pss_cons (ps_set (i := 6) sc_law.nd rfl (Or.inl rfl) (pe_callTy call_tuple_of (by rfl) T.n_tuple (by decide +kernel) (pa_cons (pe_lc (own := [("_law_column", 16)]) (g := (gName 16)) (tt := tYes) rfl sc_law.nd (pi_list (pv 3)) (blkOk_by (own := [("_law_column", 16)]) (N := N_law) (sc := C8.fnScope s_law) (by decide +kernel)) (fun _ _ _ _ _ => (pg_name (i := 16) sc_law.nd rfl (Or.inl rfl))) (fun _ _ _ _ _ => pts_nil) (fun _ _ _ _ _ => pe_int)) pa_nil)))
 (pss_cons (ps_set (i := 7) sc_law.nd rfl (Or.inl rfl) (pe_op op_cat (pe_op op_rep (pe_lst (pa_cons (pe_tup (pa_cons pe_non (pa_cons (pv 6) pa_nil))) pa_nil)) pe_int) (pe_lst (pa_cons (pe_tup (pa_cons pe_str (pa_cons (pv 6) pa_nil))) pa_nil))))
 (pss_cons (ps_set (i := 8) sc_law.nd rfl (Or.inl rfl) (pe_makeK0 (E := C8.E0) M_D F_D (hr.mono (by decide)) rfl hm_D KB_D C8.pass0 (pk_cons (pv 4) (pk_cons (pv 7) pk_nil))))
 (pss_cons (ps_expr (pe_bm0 PySem.F.plainAttrs_list PySem.F.slot_list_clear PySem.F.type_list_clear mt_clear (pv 7)))
 (pss_cons (ps_if (PW.pt (pw_or (pt_cmpR op_ne (pe_callB call_len_seq (by rfl) T.n_len PySem.boot_len (pa_cons (C8.pe_mt0 c_Database__committed hr (by decide) (pv 8)) pa_nil)) pe_int (nomark _)) (pw_or1 (pt_cmpR (op_neD hr.units) (pe_ix ix_list (C8.pe_mt0 c_Database__committed hr (by decide) (pv 8)) pe_int (fun _ _ => rfl)) (pe_tup (pa_cons pe_int (pa_cons pe_str (pa_cons (pv 6) pa_nil)))) (nomark _))))) (pss_one (ps_ret pe_bl)) pss_nil)
 (pss_cons (ps_expr (pe_bm0 PySem.F.plainAttrs_list PySem.F.slot_list_clear PySem.F.type_list_clear mt_clear (C8.pe_mt0 c_Database__committed hr (by decide) (pv 8))))
 (pss_one (ps_if (pt_cmpR (op_neD hr.units) (pe_ix ix_list (C8.pe_mt0 c_Database__committed hr (by decide) (pv 8)) pe_int (fun _ _ => rfl)) (pe_tup (pa_cons pe_int (pa_cons pe_non (pa_cons (pv 6) pa_nil)))) (nomark _)) (pss_one (ps_ret pe_bl)) pss_nil)))))))))))))
 (pss_one (ps_ret (pe_cmpR (op_eqD hr.units) (C8.pe_mt0 c_Database__committed hr (by decide) (C8.pe_mk m_Database hr (by decide) rfl (pa_cons (C8.pe_mk m_Table hr (by decide) rfl (pa_cons (pe_lst (pa_cons (pe_tup (pa_cons pe_str (pa_cons pe_int pa_nil))) pa_nil)) pa_nil)) (pa_cons (pe_lst pa_nil) pa_nil)))) (pe_lst pa_nil) (nomark _))))), ?_⟩
    have small : ∀ n : Int, (if (if n < 6 then n else 6) > 1 then (if n < 6 then n else 6) else 1) ≤ 6 := fun n => by split <;> split <;> omega
    have big : ∀ n : Int, 1 ≤ (if (if n < 6 then n else 6) > 1 then (if n < 6 then n else 6) else 1) := fun n => by split <;> omega
    refine ⟨_, rfl, a, _, rfl, .inl hS, _, _, rfl, _, _, rfl, _, rfl, Int.le_trans (by decide) (big _), Int.lt_of_le_of_lt (small _) (by decide), ?_⟩
    refine for_it walk_range (fun i σ' H' => ∃ v1 v2 v3 v4 v5 v6 v7 v8 v9 v10 v11 v12 v13 v14 v15 : Option V, σ' = [some (.ref a), v1, v2, v3, v4, v5, v6, v7, v8, v9, v10, v11, v12, v13, v14, v15, none, none, none] ∧ Same H H') ?_ ?_ ?_ ?_
    · exact ⟨none, none, none, none, none, none, none, none, none, none, none, none, none, none, none, rfl, fun _ _ h => h⟩
    · exact fun _ _ _ _ _ => trivial
    · rintro i y σ' H1 H2 hi ⟨v1, v2, v3, v4, v5, v6, v7, v8, v9, v10, v11, v12, v13, v14, v15, rfl, s1⟩ ⟨rfl, rfl⟩
      have hi4 : (i : Int) ≤ 6 := by
        have := small (((ns.map V.int).length : Nat) : Int)
        omega
      refine ⟨_, rfl, _, rfl, a, ns, _, rfl, s1.seq hS, by omega, by omega, fun p x y z hp hB => ?_⟩
      have XB : Xt (some p) (upd H2 p (.lst [.int x, .int y, .int z])) H2 (upd H2 p (.lst [.int x, .int y, .int z])) H2 := Xt.refl (upd_same_ hp)
      refine ⟨_, rfl, p, _, H2, rfl, hB, by omega, hp, XB.sub, fun ca cols H3 G3 X1 hB1 hcl dca => ?_⟩
      have good := CL_good cols hcl
      have good11 : Good n11 cols := ⟨good.len, fun c hc => n10_n11 _ (good.names c hc), good.tops, good.nd⟩
      have cl := CL_len cols hcl
      have g3 : G3 p = none := X1.non hB.ne hp
      obtain ⟨ca_, cs, e0, hca, dcs⟩ := id dca.list_inv
      cases e0
      refine ⟨_, rfl, fun tb dx n1 n2 n3 => ⟨tb, dx, ca, cs, cols, H3, G3, rfl, n1, n2, n3, rfl, X1.sub _ _ hca, dcs, good11, X1.sub, fun H4 G4 X2 tat => ⟨rfl, ?_⟩⟩⟩
      have hB2 := hB1.keep X2
      have g4 : G4 p = none := X2.non hB1.ne g3
      have XA := (XB.trans X1).trans X2.of
      have dca4 := dca.mono X2.gg
      refine ⟨_, rfl, by decide, by decide, ?_⟩
      refine for_it walk_range (fun t σ' H' => ∃ (v5 v9 v10 v11 v12 v13 v14 v15 : Option V) (G' : Hp), σ' = [some (.ref a), some (.int (0 + ((i : Nat) : Int))), some (.ref p), some (.ref ca), some (.ref tb), v5, v6, v7, v8, v9, v10, v11, v12, v13, v14, v15, none, none, none] ∧ Xt (some p) H4 G4 H' G' ∧ Bag H' p (1 + 80 * ((t : Nat) : Int)) ∧ G' p = none) ?_ ?_ ?_ ?_
      · exact ⟨_, _, _, _, _, _, _, _, G4, rfl, Xt.refl XA.sub, hB2.mono (by omega), g4⟩
      · exact fun _ _ _ _ _ => trivial
      · rintro t y σ' H5 H5_ ht ⟨w5, w9, w10, w11, w12, w13, w14, w15, G5, rfl, X5, hB5, g5⟩ ⟨rfl, rfl⟩
        have t8 : t < 8 := ht
        refine ⟨_, rfl, _, rfl, (by show 4 ≤ sizeLine; decide), fun nm hnm => ?_⟩
        have nbn : p ≠ nm := fun q => hB5.ne (by rw [q]; exact hnm)
        have X6 := X5.alloc (o := .lst (n4.map V.str)) hnm
        have g6 : upd G5 nm (.lst (n4.map V.str)) p = none := none_of_ne g5 nbn
        refine ⟨p, ca, nm, _, cols, upd G5 nm (.lst (n4.map V.str)), rfl, dca4.mono X6.gg, hcl, upd_same, hB5.upd nbn, by omega, g6, X6.sub, fun q ds H7 G7 X7 hB7 dq hds hln => ?_⟩
        have X8 := X6.trans X7
        have g7 := X7.non (hB5.upd nbn).ne g6
        clear X6 X7 g6
        refine ⟨_, rfl, p, _, _, rfl, by decide, by decide, hB7, by omega, fun r x y z r0 r1 hB8 => ?_⟩
        have X9 := X8.put (o := .lst [.int x, .int y, .int z]) g7
        refine ⟨_, rfl, by omega, by omega, ?_⟩
        have r2 : r.toNat ≤ 2 := by have : r < 3 := r1; omega
        refine for_range (n := r.toNat) (fun j σ' H' => ∃ (v10 v11 v12 v13 : Option V) (G' : Hp) (q : Addr) (ds : List PyData), σ' = [some (.ref a), some (.int (0 + ((i : Nat) : Int))), some (.ref p), some (.ref ca), some (.ref tb), some (.int (0 + ((t : Nat) : Int))), v6, v7, v8, some (.ref q), v10, v11, v12, v13, w14, w15, none, none, none] ∧ Xt (some p) H4 G4 H' G' ∧ Bag H' p (1 + 80 * ((t : Nat) : Int) + 61 + 5 * ((j : Nat) : Int)) ∧ G' p = none ∧ D G' (.ref q) (.list ds) ∧ ds.length + 1 ≤ 9 * 2 ^ j ∧ ∀ d ∈ ds, lnB d = true) ?_ ?_ ?_
        · exact ⟨_, _, _, _, G7, q, ds, rfl, X9, hB8.mono (by omega), g7, dq, by show ds.length + 1 ≤ 9 * 1; omega, hln⟩
        · clear hB8 X9 dq hds hln
          rintro j σ' H8 hj ⟨u10, u11, u12, u13, G8, q, ds, rfl, X8, hB8, g8, dq, hds, hln⟩
          have p2 : 2 ^ j ≤ 2 := by
            rcases (show j = 0 ∨ j = 1 by omega) with h | h <;> rw [h] <;> decide
          obtain ⟨q_, xs, e0, hq, da⟩ := id dq.list_inv
          cases e0
          have lx : xs.length = ds.length := da.length
          refine ⟨_, rfl, _, rfl, q, _, rfl, .inl (SqL.of (X8.sub _ _ hq)), _, _, rfl, rfl, p, _, _, rfl, by omega, by omega, hB8, by omega, fun at_ x y z a0 a1 hB9 => ?_⟩
          have X9 := X8.put (o := .lst [.int x, .int y, .int z]) g8
          generalize upd H8 p (.lst [.int x, .int y, .int z]) = H9 at X9 hB9 ⊢
          refine ⟨_, rfl, _, rfl, p, ca, _, cols, G8, rfl, dca4.mono X9.gg, hcl, hB9, by omega, g8, X9.sub, fun v d HA GA XA_ hBA dv lv => ?_⟩
          have gA := XA_.non hB9.ne g8
          have XAA := X9.trans XA_
          have dqA := dq.mono XA_.gg
          refine ⟨fun σ' H' => ∃ (v : V) (d : PyData), σ' = [some (.ref a), some (.int (0 + ((i : Nat) : Int))), some (.ref p), some (.ref ca), some (.ref tb), some (.int (0 + ((t : Nat) : Int))), v6, v7, v8, some (.ref q), some (.int (0 + ((j : Nat) : Int))), some (.int at_), some v, u13, w14, w15, none, none, none] ∧ Xt (some p) H4 G4 H' GA ∧ Bag H' p (1 + 80 * ((t : Nat) : Int) + 61 + 5 * ((j : Nat) : Int) + 4) ∧ D GA v d ∧ lnB d = true, ?_, ?_⟩
          · refine ⟨_, rfl, p, _, _, rfl, by decide, by decide, hBA, by omega, fun r1_ x y z _ _ hBB => ?_⟩
            have XBB := XAA.put (o := .lst [.int x, .int y, .int z]) gA
            generalize upd HA p (.lst [.int x, .int y, .int z]) = HB at XBB hBB ⊢
            refine ⟨rfl, _, rfl, ?_⟩
            rw [ei_]
            by_cases c1 : r1_ = 0
            · rw [decide_eq_true c1]
              have hqB : HB q = some (.lst xs) := XBB.sub _ _ (XA_.gg _ _ hq)
              have shq : SeqAt.shaped (.list ds) = true := shaped_sm (ln_list hln (by omega)) (by omega)
              refine iteT ⟨_, rfl, Nat.zero_le _, fun e he => ?_⟩
              have nbe : p ≠ e := fun z => hBB.ne (by rw [z]; exact he)
              have XC := XBB.allocT (o := .lst []) he
              have hqC : upd HB e (.lst []) q = some (.lst xs) := upd_same_ he _ _ hqB
              refine ⟨.list ds, .list [], .lst (SqL.of hqC) (DA.dp XC.sub (da.mono XA_.gg)), .lst (SqL.of upd_same) .nil, shq, shaped_nil, _, rfl, ?_⟩
              have hBC := hBB.upd (p := e) (o := .lst []) nbe
              generalize upd HB e (.lst []) = HC at XC hqC hBC ⊢
              rw [eqv_nil]
              by_cases c0 : ds = []
              · rw [decide_eq_true c0]
                exact iteF ⟨v, d, rfl, XC, hBC.mono (by omega), dv, lv⟩
              · rw [decide_eq_false c0]
                have lpos : 0 < ds.length := List.length_pos_iff.mpr c0
                refine iteT ⟨_, rfl, _, rfl, _, rfl, q, _, rfl, .inl (SqL.of hqC), p, _, _, rfl, by omega, by omega, hBC, by omega, fun r2_ x y z r20 r21 hBD => ?_⟩
                have hk : r2_.toNat < xs.length := by omega
                obtain ⟨xk, hxk⟩ : ∃ xk, xs[r2_.toNat]? = some xk := ⟨_, List.getElem?_eq_getElem hk⟩
                obtain ⟨dk, hdk, dxk⟩ := da.get hxk
                have npq : q ≠ p := fun z => by rw [z] at hq; rw [g8] at hq; cases hq
                have XD := XC.put (o := .lst [.int x, .int y, .int z]) gA
                refine ⟨q, xs, r2_, xk, rfl, rfl, SqL.of (by rw [upd_ne npq]; exact hqC), ?_, ?_⟩
                · have e : ((r2_.toNat : Nat) : Int) = r2_ := by omega
                  have q2 := atI_nat (xs := xs) (j := r2_.toNat) (v := xk) hxk
                  rw [e] at q2
                  exact q2
                · exact ⟨xk, dk, rfl, XD, hBD.mono (by omega), dxk.mono XA_.gg, hln dk (List.mem_of_getElem? hdk)⟩
            · rw [decide_eq_false c1]
              exact iteF ⟨v, d, rfl, XBB, hBB.mono (by omega), dv, lv⟩
          · clear dv lv
            rintro σ' HB ⟨v, d, rfl, XBB, hBB, dv, lv⟩
            refine ⟨_, rfl, _, rfl, p, _, _, rfl, by decide, by decide, hBB, by omega, fun b1 x y z b10 b11 hBC => ⟨_, _, rfl, rfl, ?_⟩⟩
            have XC := XBB.put (o := .lst [.int x, .int y, .int z]) gA
            generalize upd HB p (.lst [.int x, .int y, .int z]) = HC at XC hBC ⊢
            have c1 := cut_le ds none (some at_)
            have c2 := cut_le ds (some (at_ + b1)) none
            (try dsimp only); rw [gName_go]; (try dsimp only); rw [tAsg_go]
            refine (show Mkd _ _ GA (.list (cutD ds none (some at_) ++ [d] ++ cutD ds (some (at_ + b1)) none)) from ?_) HC GA _ (fun _ _ h => h) XC.sub fun v2 HD GD XD d2 => ?_
            · refine mk_catL (mk_catL (mk_slTo (mk_v dqA rfl) rfl) (mk_lst (mk_cons (mk_v dv rfl) mk_nil)) ?_) (mk_slFrom (mk_v dqA rfl) rfl) ?_
              · show (cutD ds none (some at_)).length + 1 ≤ 100000
                omega
              · rw [List.length_append]
                show (cutD ds none (some at_)).length + 1 + (cutD ds (some (at_ + b1)) none).length ≤ 100000
                omega
            obtain ⟨q2, ys, rfl, _, _⟩ := id d2.list_inv
            refine ⟨_, _, _, _, GD, q2, _, rfl, XC.trans XD.of, (hBC.keep XD).mono (by push_cast; omega), XD.non hBC.ne gA, d2, ?_, fun d' hd' => ?_⟩
            · rw [List.length_append, List.length_append, Nat.pow_succ]
              show (cutD ds none (some at_)).length + 1 + (cutD ds (some (at_ + b1)) none).length + 1 ≤ _
              omega
            · rcases List.mem_append.mp hd' with h | h
              · rcases List.mem_append.mp h with h | h
                · exact hln d' (cut_mem h)
                · rw [List.mem_singleton.mp h]; exact lv
              · exact hln d' (cut_mem h)
        · clear hB8 X9 dq hds hln
          rintro σ' H8 ⟨u10, u11, u12, u13, G8, q, ds, rfl, X8, hB8, g8, dq, hds, hln⟩
          have p4 : 2 ^ r.toNat ≤ 4 := by
            rcases (show r.toNat = 0 ∨ r.toNat = 1 ∨ r.toNat = 2 by omega) with h | h | h <;> rw [h] <;> decide
          have l40 : ds.length ≤ 40 := by omega
          obtain ⟨q_, xs, e0, hq, da⟩ := id dq.list_inv
          cases e0
          have lx : xs.length = ds.length := da.length
          have short : ∀ d ∈ ds, shortD d := fun d hd => ln_short (hln d hd)
          refine ⟨_, rfl, q, _, rfl, .inl (SqL.of (X8.sub _ _ hq)), fun l hl => ?_⟩
          have nbl : p ≠ l := fun z => hB8.ne (by rw [z]; exact hl)
          have X9 := X8.alloc (o := .lst xs) hl
          have gl : G8 l = none := X8.sub.free hl
          have dl : D (upd G8 l (.lst xs)) (.ref l) (.list ds) := .lst upd_same (da.mono (upd_same_ gl))
          have dq9 := dq.mono (upd_same_ (o := .lst xs) gl)
          have g9 : upd G8 l (.lst xs) p = none := none_of_ne g8 nbl
          have hB9 := hB8.upd (p := l) (o := .lst xs) nbl
          generalize upd H8 l (.lst xs) = H9 at X9 hB9 ⊢
          generalize upd G8 l (.lst xs) = G9 at X9 dl dq9 g9
          refine ⟨_, rfl, _, rfl, q, ca, ds, cols, G9, rfl, dq9, by omega, short, dca4.mono X9.gg, by omega, X9.sub, fun HA XA_ => ⟨_, _, rfl, ?_⟩⟩
          have XAA := X9.trans XA_.of
          have hBA := hB9.keep XA_
          refine ⟨fun σ' H' => ∃ (v : V) (G' : Hp), σ' = [some (.ref a), some (.int (0 + ((i : Nat) : Int))), some (.ref p), some (.ref ca), some (.ref tb), some (.int (0 + ((t : Nat) : Int))), v6, v7, v8, some (.ref q), u10, u11, u12, u13, some (.ref l), some v, none, none, none] ∧ Xt (some p) H4 G4 H' G' ∧ Bag H' p (1 + 80 * ((t : Nat) : Int) + 79) ∧ G' p = none ∧ D G' v (dueD (cols.map (·.2)) ds) ∧ D G' (.ref q) (.list ds) ∧ D G' (.ref l) (.list ds), ?_, ?_⟩
          · refine ⟨_, rfl, rfl, _, rfl, ?_⟩
            cases hb : badE (cols.map (·.2)) [] 0 ds with
            | some m =>
              rw [show decide (optV (some m) = V.non) = false by simp [optV]]
              refine iteF ⟨_, G9, rfl, XAA, hBA.mono (by omega), g9, ?_, dq9, dl⟩
              unfold dueD
              rw [hb]
              exact .int _
            | none =>
              rw [show decide (optV none = V.non) = true by decide]
              obtain ⟨rs, er, _⟩ := badE_good ds [] 0 hb List.nodup_nil
              obtain ⟨q_, xs9, e0, hq9, da9⟩ := id dq9.list_inv
              cases e0
              have lo : (rowsOut rs).length = xs9.length := by unfold rowsOut; rw [List.length_mapIdx, da9.length, er, List.length_map]
              have lr : rs.length ≤ 40 := by rw [er, List.length_map] at l40; exact l40
              refine iteT ⟨_, rfl, q, xs9, rfl, SqL.of (XAA.sub _ _ hq9), fun Dl hD => ?_⟩
              refine lc_data (b := none) (R := fun _ _ => True) (G := G9) (walk_enum (xs := xs9)) (rowsOut rs) lo (by have := da9.length; omega) hD XAA.sub (fun q => by cases q) trivial (fun _ _ _ _ => trivial) (fun i HC GC XC _ => SqL.of (XC.sub _ _ (XC.gg _ _ hq9))) ?_ ?_
              · rintro m y HC GC HD dd hdd XC _ ⟨T_, u1, u2, rfl, hT, rfl, e1, e2⟩ Qy hqy
                obtain rfl := Option.some.inj e1
                unfold rowsOut at hdd
                rw [List.getElem?_mapIdx] at hdd
                obtain ⟨rw_, hrw, rfl⟩ := Option.map_eq_some_iff.mp hdd
                obtain ⟨d, hd, dy⟩ := da9.get e2
                rw [er, List.getElem?_map, hrw] at hd
                obtain rfl := Option.some.inj hd
                obtain ⟨tr, vs, rfl, htr, dw⟩ := D.tup_inv dy
                cases dw with
                | @cons x1 _ _ _ q1 dw =>
                cases dw with
                | @cons x2 _ _ _ q2 dw =>
                cases dw
                have XD := (Xt.refl (b := none) XC.sub).allocT (o := .tup [.int ((m : Nat) : Int), .ref tr]) hT
                refine ⟨T_, _, rfl, SqT.of upd_same, rfl, _, _, rfl, _, _, rfl, rfl, rfl, ?_⟩
                generalize upd HC T_ (.tup [.int ((m : Nat) : Int), .ref tr]) = HE at XD ⊢
                have htE : HE tr = some (.tup [x1, x2]) := XD.sub _ _ (XC.gg _ _ htr)
                refine ⟨_, rfl, _, rfl, tr, _, _, _, rfl, rfl, SqT.of htE, rfl, _, rfl, tr, _, _, _, rfl, rfl, SqT.of htE, rfl, (by show 3 ≤ sizeLine; decide), fun pp hp => ?_⟩
                have X5_ := Xt.new (b := none) (o := .tup [.int ((m : Nat) : Int), x1, x2]) XD.sub hp
                refine hqy _ _ _ (XD.trans X5_) trivial ?_
                exact .tup (ds := [.int ((m : Nat) : Int), optS rw_.1, rw_.2]) upd_same (.cons (.int _) (.cons ((q1.mono XC.gg).mono X5_.gg) (.cons ((q2.mono XC.gg).mono X5_.gg) .nil)))
              intro HC GC ys XC _ hlC glC daC
              have XF := XC.fix hD hlC
              refine ⟨_, _, rfl, XAA.trans XF.of, (hBA.keep XF).mono (by omega), XF.non hBA.ne g9, ?_, dq9.mono XF.gg, dl.mono XF.gg⟩
              have eD : dueD (cols.map (·.2)) ds = .list (rowsOut rs) := by
                unfold dueD
                rw [hb, er]
                exact congrArg PyData.list due_rows
              rw [eD]
              exact .lst upd_same (daC.mono (upd_same_ glC))
          · clear XAA hBA XA_
            rintro σ' HA ⟨v, GA, rfl, XAA, hBA, gA, dv, dqA, dlA⟩
            have tatA := tat.mono XAA.gg
            have shd := due_shaped (tops := cols.map (·.2)) hln l40
            refine ⟨_, rfl, _, rfl, tb, l, ds, cols, GA, rfl, dlA, by omega, short, tatA, good11, XAA.sub, fun v2 HC GC XC dv2 => ⟨_, rfl, dueD (cols.map (·.2)) ds, dueD (cols.map (·.2)) ds, dv2.dp XC.sub, (dv.mono XC.gg).dp XC.sub, shd, shd, _, rfl, ?_⟩⟩
            rw [PySem.SeqAt.eqv_refl _ (shaped_lay0 shd)]
            obtain ⟨s1_, s2_, s3_, s4_, s5_⟩ := smB_iff.mp (ln_list hln l40)
            have shl : (PyData.list ds).shown.length ≤ sizeLine := Nat.le_trans (shown_le13 (by
              show (PyData.canLay0 (.list ds) && decide (PyData.depth (.list ds) ≤ 64) && decide (PyData.weight (.list ds) ≤ 2 ^ 20)) = true
              rw [s1_, decide_eq_true (by omega), decide_eq_true (by omega)]; rfl) s5_) (by decide)
            refine iteF ⟨_, rfl, .ref l, .list ds, rfl, (dlA.mono XC.gg).dp XC.sub, rfl, s1_, by omega, s4_, shl, _, rfl, .ref q, .list ds, rfl, (dqA.mono XC.gg).dp XC.sub, rfl, s1_, by omega, s4_, shl, rfl, _, rfl, ?_⟩
            rw [show (!decide (V.str (PyData.list ds).shown = V.str (PyData.list ds).shown)) = false by simp]
            exact iteF ⟨_, _, _, _, _, _, _, _, GC, rfl, XAA.trans XC.of, (hBA.keep XC).mono (by push_cast; omega), XC.non hBA.ne gA⟩
      · rintro σ' H5 ⟨w5, w9, w10, w11, w12, w13, w14, w15, G5, rfl, X5, hB5, g5⟩
        have dca5 := dca4.mono X5.gg
        have tat5 := tat.mono X5.gg
        have XX := XA.trans X5
        obtain ⟨ca_, cs5, e0, hca5, dcs5⟩ := id dca5.list_inv
        cases e0
        have lx : cs5.length = cols.length := by rw [dcs5.length, dCols, List.length_map]
        have n2 : cols.length ∈ [1, 2] := by
          rcases (show cols.length = 1 ∨ cols.length = 2 by omega) with h | h <;> rw [h] <;> decide
        -- the zeros
        refine ⟨_, rfl, ca, rfl, ⟨_, SqL.of (X5.sub _ _ hca5)⟩, fun Dl hD => ?_⟩
        refine lc_data (b := none) (R := fun _ _ => True) (G := G5) (walk_list (xs := cs5)) (zD cols.length) (by unfold zD; rw [List.length_replicate, lx]) (by omega) hD X5.sub (fun q => by cases q) trivial (fun _ _ _ _ => trivial) (fun i HA GA XA _ => SqL.of (XA.sub _ _ (XA.gg _ _ hca5))) ?_ ?_
        · rintro i y HA GA HB d hdd XA _ ⟨rfl, hy⟩ Qy hqy
          have ed : d = .int 0 := by
            unfold zD at hdd
            rw [List.getElem?_replicate] at hdd
            split at hdd
            · exact (Option.some.inj hdd).symm
            · cases hdd
          subst ed
          exact ⟨rfl, hqy _ _ _ (Xt.refl XA.sub) trivial (.int _)⟩
        intro H6 G6 ys X6 _ hl6 gl6 da6
        refine ⟨Dl, _, rfl, .inl ⟨SqL.of hl6, fun zt hzt => ?_⟩⟩
        have X7 := X6.alloc (o := .tup ys) hzt
        have dz : D (upd G6 zt (.tup ys)) (.ref zt) (.tuple (zD cols.length)) := .tup upd_same (da6.mono (upd_same_ (X6.sub.free hzt)))
        have g7 := X7.non hB5.ne g5
        have hB7 := hB5.keep X7
        generalize upd G6 zt (.tup ys) = G7 at X7 dz g7
        generalize upd H6 zt (.tup ys) = H7 at X7 hB7 ⊢
        clear hl6 gl6 da6 hzt X6
        -- forty rows
        refine ⟨_, rfl, (by show 2 ≤ sizeLine; decide), fun t1 ht1 => ⟨(by show 1 ≤ sizeLine; decide), fun l1 hl1 => ?_⟩⟩
        have Y1 := X7.alloc (o := .tup [.non, .ref zt]) ht1
        have d1 : D (upd G7 t1 (.tup [.non, .ref zt])) (.ref t1) (.tuple [.none, .tuple (zD cols.length)]) := .tup upd_same (.cons .non (.cons (dz.mono (upd_same_ (X7.sub.free ht1))) .nil))
        have dz1 := dz.mono (upd_same_ (o := .tup [.non, .ref zt]) (X7.sub.free ht1))
        generalize upd G7 t1 (.tup [.non, .ref zt]) = G8 at Y1 d1 dz1
        generalize upd H7 t1 (.tup [.non, .ref zt]) = H8 at Y1 hl1 ⊢
        have Y2 := Y1.allocT (o := .lst [.ref t1]) hl1
        refine ⟨l1, 39, _, rfl, rfl, upd_same, by decide, by decide, (by show 1 * 39 ≤ sizeLine; decide), fun l2 hl2 => ?_⟩
        have Y3 := Y2.allocT (o := .lst (List.replicate (Int.toNat 39) [V.ref t1]).flatten) hl2
        have hl2_ : upd (upd H8 l1 (.lst [.ref t1])) l2 (.lst (List.replicate (Int.toNat 39) [V.ref t1]).flatten) l2 = some (.lst (List.replicate (Int.toNat 39) [V.ref t1]).flatten) := upd_same
        generalize upd (upd H8 l1 (.lst [.ref t1])) l2 (.lst (List.replicate (Int.toNat 39) [V.ref t1]).flatten) = H9 at Y3 hl2_ ⊢
        refine ⟨_, rfl, (by show 2 ≤ sizeLine; decide), fun t2 ht2 => ⟨(by show 1 ≤ sizeLine; decide), fun l3 hl3 => ?_⟩⟩
        have Y4 := Y3.alloc (o := .tup [.str "x", .ref zt]) ht2
        have gt2 : G8 t2 = none := Y3.sub.free ht2
        have d2 : D (upd G8 t2 (.tup [.str "x", .ref zt])) (.ref t2) (.tuple [.str "x", .tuple (zD cols.length)]) := .tup upd_same (.cons (.str _) (.cons (dz1.mono (upd_same_ gt2)) .nil))
        have d1b := d1.mono (upd_same_ (o := .tup [.str "x", .ref zt]) gt2)
        have dzb := dz1.mono (upd_same_ (o := .tup [.str "x", .ref zt]) gt2)
        have hl2b := upd_same_ (o := .tup [.str "x", .ref zt]) ht2 _ _ hl2_
        generalize upd G8 t2 (.tup [.str "x", .ref zt]) = GB at Y4 d2 d1b dzb
        generalize upd H9 t2 (.tup [.str "x", .ref zt]) = HB at Y4 hl2b hl3 ⊢
        have Y5 := Y4.allocT (o := .lst [.ref t2]) hl3
        have hl2c := upd_same_ (o := .lst [.ref t2]) hl3 _ _ hl2b
        refine ⟨l2, l3, _, _, rfl, rfl, hl2c, upd_same, (by show 39 + 1 ≤ sizeLine; decide), fun p4 hp4 => ?_⟩
        have daM : DA GB ((List.replicate (Int.toNat 39) [V.ref t1]).flatten ++ [V.ref t2]) (manyD cols.length) := DA.append (DA.rep d1b 39) (.cons d2 .nil)
        generalize (List.replicate (Int.toNat 39) [V.ref t1]).flatten ++ [V.ref t2] = ms at daM ⊢
        have Y6 := Y5.allocT (o := .lst ms) hp4
        have hp4_ : upd (upd HB l3 (.lst [.ref t2])) p4 (.lst ms) p4 = some (.lst ms) := upd_same
        have gp4 : GB p4 = none := Y5.sub.free hp4
        have hp4F : H5 p4 = none := Y5.fresh hp4
        generalize upd (upd HB l3 (.lst [.ref t2])) p4 (.lst ms) = HC at Y6 hp4_ ⊢
        have tatC := tat5.mono Y6.gg
        have okM := many_ok cols hcl
        -- the database
        refine ⟨_, rfl, _, rfl, rfl, rfl, fun bx bdx n1 n2_ n3 => ⟨bx, bdx, tb, p4, ms, manyD cols.length, cols, HC, GB, rfl, n1, n2_, n3, rfl, hp4_, daM, by rw [many_len]; decide, many_short _, tatC, good11, Y6.sub, okM, fun rs HD GD ers XD dbat => ⟨rfl, ?_⟩⟩⟩
        have ers : rs = manyR cols.length := rwD_map (by rw [← ers, many_map])
        subst ers
        have len40 : (manyR cols.length).length ≤ 100 := by have := congrArg List.length (many_map cols.length); rw [List.length_map, many_len] at this; omega
        have Y7 := Y6.trans XD
        have hp4D := XD.hh p4 _ (fun q => by cases q) hp4_
        have gp4D : GD p4 = none := XD.non (ne_none_of hp4_) gp4
        refine ⟨_, rfl, .inl ⟨rfl, _, SqL.of hp4D⟩, p4, _, rfl, rfl, hp4D, ?_⟩
        have Y8 := Y7.set (o := .lst []) hp4F gp4D
        have dzD := dzb.mono XD.gg
        generalize upd HD p4 (.lst []) = HE at Y8 ⊢
        obtain ⟨bdx2, bs, bh, gb1, gb2, bst⟩ := id dbat
        have nf : (dbF bs bh).lookup ("committed" : Str) = none := by
          unfold dbF
          rw [lookup_putF, lookup_putF, lookup_putF]
          rfl
        refine ⟨_, rfl, bx, bdx2, _, rfl, Y8.sub _ _ gb1, nf, bx, _, GD, rfl, dbat, len40, Y8.sub, fun q1 xs1 HF GF XF hq1 hq1_ gq1 da1 => ?_⟩
        have lx1 : xs1.length = 40 := by rw [da1.length, out_len]
        refine ⟨q1, _, rfl, .inl (SqL.of hq1_), rfl, _, rfl, ?_⟩
        rw [lx1, show (!decide (V.int ((40 : Nat) : Int) = V.int 40)) = false by decide]
        have Y9 := Y8.trans XF
        have dbF_ := dbat.mono XF.gg
        have gb1F := XF.gg _ _ gb1
        refine iteF ⟨_, rfl, bx, bdx2, _, rfl, Y9.sub _ _ gb1F, nf, bx, _, GF, rfl, dbF_, len40, Y9.sub, fun q2 xs2 HG GG XG hq2 hq2_ gq2 da2 => ?_⟩
        have YA := Y9.trans XG
        obtain ⟨x39, hx39, dx39⟩ := da2.at' (out_39 cols.length)
        refine ⟨q2, xs2, 39, x39, rfl, rfl, SqL.of hq2_, atI_nat (j := 39) hx39, ?_⟩
        refine ⟨_, rfl, (by show 3 ≤ sizeLine; decide), fun e1 he1 => ?_⟩
        have YB := YA.alloc (o := .tup [.int 39, .str "x", .ref zt]) he1
        have ge1 := YA.sub.free he1
        refine ⟨.tuple [.int 39, .str "x", .tuple (zD cols.length)], .tuple [.int 39, .str "x", .tuple (zD cols.length)], (dx39.mono (upd_same_ ge1)).dp YB.sub, D.dp YB.sub (.tup upd_same (.cons (.int _) (.cons (.str _) (.cons (((dzD.mono XF.gg).mono XG.gg).mono (upd_same_ ge1)) .nil)))), sh_39 _ n2, sh_39 _ n2, _, rfl, ?_⟩
        rw [PySem.SeqAt.eqv_refl _ (shaped_lay0 (sh_39 _ n2))]
        have gb1G := XG.gg _ _ gb1F
        have dbG := (dbF_.mono XG.gg).mono (upd_same_ (o := .tup [.int 39, .str "x", .ref zt]) ge1)
        have gb1H := upd_same_ (o := .tup [.int 39, .str "x", .ref zt]) ge1 _ _ gb1G
        have dzH := ((dzD.mono XF.gg).mono XG.gg).mono (upd_same_ (o := .tup [.int 39, .str "x", .ref zt]) ge1)
        generalize upd GG e1 (.tup [.int 39, .str "x", .ref zt]) = GH at YB dbG gb1H dzH
        generalize upd HG e1 (.tup [.int 39, .str "x", .ref zt]) = HH at YB ⊢
        refine iteF ?_
        refine ⟨_, rfl, bx, bdx2, _, rfl, YB.sub _ _ gb1H, nf, bx, _, GH, rfl, dbG, len40, YB.sub, fun q3 xs3 HI GI XI hq3 hq3_ gq3 da3 => ?_⟩
        have YC := YB.trans XI
        have hq3F : H5 q3 = none := YB.fresh hq3
        refine ⟨.inl ⟨rfl, _, SqL.of hq3_⟩, q3, _, rfl, rfl, hq3_, ?_⟩
        have YD := YC.set (o := .lst []) hq3F gq3
        have dbI := dbG.mono XI.gg
        have gb1I := XI.gg _ _ gb1H
        have dzI := dzH.mono XI.gg
        generalize upd HI q3 (.lst []) = HJ at YD ⊢
        refine ⟨_, rfl, bx, bdx2, _, rfl, YD.sub _ _ gb1I, nf, bx, _, GI, rfl, dbI, len40, YD.sub, fun q4 xs4 HK GK XK hq4 hq4_ gq4 da4 => ?_⟩
        have YE := YD.trans XK
        obtain ⟨x00, hx00, dx00⟩ := da4.at' (out_0 cols.length)
        refine ⟨q4, xs4, 0, x00, rfl, rfl, SqL.of hq4_, atI_nat (j := 0) hx00, ?_⟩
        refine ⟨_, rfl, (by show 3 ≤ sizeLine; decide), fun e2 he2 => ?_⟩
        have YF := YE.alloc (o := .tup [.int 0, .non, .ref zt]) he2
        have ge2 := YE.sub.free he2
        refine ⟨.tuple [.int 0, .none, .tuple (zD cols.length)], .tuple [.int 0, .none, .tuple (zD cols.length)], (dx00.mono (upd_same_ ge2)).dp YF.sub, D.dp YF.sub (.tup upd_same (.cons (.int _) (.cons .non (.cons ((dzI.mono XK.gg).mono (upd_same_ ge2)) .nil)))), sh_0 _ n2, sh_0 _ n2, _, rfl, ?_⟩
        rw [PySem.SeqAt.eqv_refl _ (shaped_lay0 (sh_0 _ n2))]
        have ZZ := XX.trans YF.of
        exact iteF ⟨_, _, _, _, _, _, _, _, _, _, _, _, _, _, _, rfl, fun _ _ h => ZZ.sub _ _ (ZZ.gg _ _ (s1 _ _ h))⟩
    · rintro σ' H1 ⟨v1, v2, v3, v4, v5, v6, v7, v8, v9, v10, v11, v12, v13, v14, v15, rfl, s1⟩
      refine ⟨(by show 2 ≤ sizeLine; decide), fun c1 hc1 => ⟨(by show 1 ≤ sizeLine; decide), fun c2 hc2 => ?_⟩⟩
      have Z1 := (Xt.refl (b := none) (fun _ _ h => h : Same H1 H1)).alloc (o := .tup [.str "a", .int 1]) hc1
      have e1 : upd H1 c1 (.tup [.str "a", .int 1]) c1 = some (.tup [.str "a", .int 1]) := upd_same
      generalize upd H1 c1 (.tup [.str "a", .int 1]) = H2 at Z1 e1 hc2 ⊢
      have Z2 := Z1.alloc (o := .lst [.ref c1]) hc2
      have e2 := upd_same_ (o := .lst [.ref c1]) hc2 _ _ e1
      have e3 : upd H2 c2 (.lst [.ref c1]) c2 = some (.lst [.ref c1]) := upd_same
      generalize upd H2 c2 (.lst [.ref c1]) = H3 at Z2 e2 e3 ⊢
      have g1 : Good n11 [(("a" : Str), (1 : Int))] := ⟨by decide, by decide +kernel, by decide, by decide +kernel⟩
      refine fun tb dx n1 n2 n3 => ⟨tb, dx, c2, _, [("a", 1)], H3, H3, rfl, n1, n2, n3, rfl, e3, .cons (.tup (ds := [.str "a", .int 1]) e2 (.cons (.str _) (.cons (.int _) .nil))) .nil, g1, fun _ _ h => h, fun H4 G4 X4 tat => ⟨rfl, ?_⟩⟩
      refine ⟨Nat.zero_le _, fun c3 hc3 => ?_⟩
      have Z3 := X4.allocT (o := .lst []) hc3
      have e4 : upd H4 c3 (.lst []) c3 = some (.lst []) := upd_same
      generalize upd H4 c3 (.lst []) = H5 at Z3 e4 ⊢
      refine fun bx bdx n1 n2_ n3 => ⟨bx, bdx, tb, c3, [], [], [("a", 1)], H5, G4, rfl, n1, n2_, n3, rfl, e4, .nil, by decide, (fun d hd => by cases hd), tat, g1, Z3.sub, rfl, fun rs HD GD ers XD dbat => ⟨rfl, ?_⟩⟩
      have ers : rs = [] := by
        cases rs with
        | nil => rfl
        | cons _ _ => cases ers
      subst ers
      obtain ⟨bdx2, bs, bh, gb1, gb2, bst⟩ := id dbat
      have nf : (dbF bs bh).lookup ("committed" : Str) = none := by
        unfold dbF
        rw [lookup_putF, lookup_putF, lookup_putF]
        rfl
      refine ⟨bx, bdx2, _, rfl, XD.sub _ _ gb1, nf, bx, [], GD, rfl, dbat, by decide, XD.sub, fun q4 xs4 HK GK XK hq4 hq4_ gq4 da4 => ?_⟩
      cases da4
      refine ⟨Nat.zero_le _, fun c5 hc5 => ?_⟩
      refine ⟨.list [], .list [], .lst (SqL.of (upd_same_ hc5 _ _ hq4_)) .nil, .lst (SqL.of upd_same) .nil, shaped_nil, shaped_nil, ?_⟩
      exact k _
end
end Nw
namespace Nw
open PySem L2 PySem.Spec PyProof.Rows RZ
/-! ### what the top has written -/
theorem all_mk {P : Program} {w : World} {K : PySem.W.Frag} {h : Heap} {mg : Str → Option Value} {fa C SC HC DC CE CN R : Addr} {f_d0 f_d1 f_d2 f_d3 f_d4 f_d5 f_d6 f_d7 f_d8 f_d9 f_d10 f_d11 f_d12 f_d13 f_d14 f_d15 f_d16 f_d17 f_m0 f_m1 f_m2 f_m3 f_m4 f_m5 f_m6 f_m7 : Addr} (X : K.In h) (G : h.Ns mainGlobals mg) (hfa : mg "law" = some (.ref fa))
    {fd_d0 fd_d1 fd_d2 fd_d3 fd_d4 fd_d5 fd_d6 fd_d7 fd_d8 fd_d9 fd_d10 fd_d11 fd_d12 fd_d13 fd_d14 fd_d15 fd_d16 fd_d17 fd_m0 fd_m1 fd_m2 fd_m3 fd_m4 fd_m5 fd_m6 fd_m7 : FuncData} {uL : Value}
    (a_d0 : PySem.W.nsIn K mainGlobals "copied" = some (some (.ref f_d0)))
    (D_d0 : FunD K "copied" "copied" (C8.fnArgs s_copied) (C8.fnBody s_copied) (C8.fnScope s_copied) [] [] f_d0 fd_d0)
    (a_d1 : PySem.W.nsIn K mainGlobals "is_word" = some (some (.ref f_d1)))
    (D_d1 : FunD K "is_word" "is_word" (C8.fnArgs s_is_word) (C8.fnBody s_is_word) (C8.fnScope s_is_word) [] [] f_d1 fd_d1)
    (a_d2 : PySem.W.nsIn K mainGlobals "is_integer" = some (some (.ref f_d2)))
    (D_d2 : FunD K "is_integer" "is_integer" (C8.fnArgs s_is_integer) (C8.fnBody s_is_integer) (C8.fnScope s_is_integer) [] [] f_d2 fd_d2)
    (a_d3 : PySem.W.nsIn K mainGlobals "is_tuple_of" = some (some (.ref f_d3)))
    (D_d3 : FunD K "is_tuple_of" "is_tuple_of" (C8.fnArgs s_is_tuple_of) (C8.fnBody s_is_tuple_of) (C8.fnScope s_is_tuple_of) [] [] f_d3 fd_d3)
    (a_d4 : PySem.W.nsIn K mainGlobals "is_column" = some (some (.ref f_d4)))
    (D_d4 : FunD K "is_column" "is_column" (C8.fnArgs s_is_column) (C8.fnBody s_is_column) (C8.fnScope s_is_column) [] [] f_d4 fd_d4)
    (a_d5 : PySem.W.nsIn K mainGlobals "is_row" = some (some (.ref f_d5)))
    (D_d5 : FunD K "is_row" "is_row" (C8.fnArgs s_is_row) (C8.fnBody s_is_row) (C8.fnScope s_is_row) [] [] f_d5 fd_d5)
    (a_d6 : PySem.W.nsIn K mainGlobals "wrong_entry" = some (some (.ref f_d6)))
    (D_d6 : FunD K "wrong_entry" "wrong_entry" (C8.fnArgs s_wrong_entry) (C8.fnBody s_wrong_entry) (C8.fnScope s_wrong_entry) [] [] f_d6 fd_d6)
    (a_d7 : PySem.W.nsIn K mainGlobals "name_of" = some (some (.ref f_d7)))
    (D_d7 : FunD K "name_of" "name_of" (C8.fnArgs s_name_of) (C8.fnBody s_name_of) (C8.fnScope s_name_of) [] [] f_d7 fd_d7)
    (a_d8 : PySem.W.nsIn K mainGlobals "_law_source" = some (some (.ref f_d8)))
    (D_d8 : FunD K "_law_source" "_law_source" (C8.fnArgs s__law_source) (C8.fnBody s__law_source) (C8.fnScope s__law_source) [] [] f_d8 fd_d8)
    (a_d9 : PySem.W.nsIn K mainGlobals "_law_draw" = some (some (.ref f_d9)))
    (D_d9 : FunD K "_law_draw" "_law_draw" (C8.fnArgs s__law_draw) (C8.fnBody s__law_draw) (C8.fnScope s__law_draw) [] [] f_d9 fd_d9)
    (a_d10 : PySem.W.nsIn K mainGlobals "_law_of" = some (some (.ref f_d10)))
    (D_d10 : FunD K "_law_of" "_law_of" (C8.fnArgs s__law_of) (C8.fnBody s__law_of) (C8.fnScope s__law_of) [] [] f_d10 fd_d10)
    (a_d11 : PySem.W.nsIn K mainGlobals "_law_columns" = some (some (.ref f_d11)))
    (D_d11 : FunD K "_law_columns" "_law_columns" (C8.fnArgs s__law_columns) (C8.fnBody s__law_columns) (C8.fnScope s__law_columns) [] [] f_d11 fd_d11)
    (a_d12 : PySem.W.nsIn K mainGlobals "_law_rows" = some (some (.ref f_d12)))
    (D_d12 : FunD K "_law_rows" "_law_rows" (C8.fnArgs s__law_rows) (C8.fnBody s__law_rows) (C8.fnScope s__law_rows) [] [] f_d12 fd_d12)
    (a_d13 : PySem.W.nsIn K mainGlobals "_law_odd" = some (some (.ref f_d13)))
    (D_d13 : FunD K "_law_odd" "_law_odd" (C8.fnArgs s__law_odd) (C8.fnBody s__law_odd) (C8.fnScope s__law_odd) [] [] f_d13 fd_d13)
    (a_d14 : PySem.W.nsIn K mainGlobals "_law_is_row" = some (some (.ref f_d14)))
    (D_d14 : FunD K "_law_is_row" "_law_is_row" (C8.fnArgs s__law_is_row) (C8.fnBody s__law_is_row) (C8.fnScope s__law_is_row) [] [] f_d14 fd_d14)
    (a_d15 : PySem.W.nsIn K mainGlobals "_law_first" = some (some (.ref f_d15)))
    (D_d15 : FunD K "_law_first" "_law_first" (C8.fnArgs s__law_first) (C8.fnBody s__law_first) (C8.fnScope s__law_first) [] [] f_d15 fd_d15)
    (a_d16 : PySem.W.nsIn K mainGlobals "_law_told" = some (some (.ref f_d16)))
    (D_d16 : FunD K "_law_told" "_law_told" (C8.fnArgs s__law_told) (C8.fnBody s__law_told) (C8.fnScope s__law_told) [] [] f_d16 fd_d16)
    (a_d17 : PySem.W.nsIn K mainGlobals "law" = some (some (.ref f_d17)))
    (D_d17 : FunD K "law" "law" (C8.fnArgs s_law) (C8.fnBody s_law) (C8.fnScope s_law) [] [] f_d17 fd_d17)
    (aC : PySem.W.nsIn K mainGlobals "Table" = some (some (.ref C)))
    (aSC : PySem.W.nsIn K mainGlobals "Store" = some (some (.ref SC)))
    (aHC : PySem.W.nsIn K mainGlobals "Holds" = some (some (.ref HC)))
    (aDC : PySem.W.nsIn K mainGlobals "Database" = some (some (.ref DC)))
    (aCE : PySem.W.nsIn K mainGlobals "BadDatabase" = some (some (.ref CE)))
    (aCN : PySem.W.nsIn K mainGlobals "NewestrowError" = some (some (.ref CN)))
    (a_m0 : PySem.W.findIn K (.ref C) "__init__" = some (some (.ref f_m0)))
    (i_m0 : PySem.W.isFn K (.ref f_m0) = true)
    (D_m0 : FunD K "__init__" "Table.__init__" (C8.fnArgs s_Table____init__) (C8.fnBody s_Table____init__) (C8.fnScope s_Table____init__) [] [] f_m0 fd_m0)
    (a_m1 : PySem.W.findIn K (.ref C) "__contains__" = some (some (.ref f_m1)))
    (i_m1 : PySem.W.isFn K (.ref f_m1) = true)
    (D_m1 : FunD K "__contains__" "Table.__contains__" (C8.fnArgs s_Table____contains__) (C8.fnBody s_Table____contains__) (C8.fnScope s_Table____contains__) [] [] f_m1 fd_m1)
    (a_m2 : PySem.W.findIn K (.ref SC) "__init__" = some (some (.ref f_m2)))
    (i_m2 : PySem.W.isFn K (.ref f_m2) = true)
    (D_m2 : FunD K "__init__" "Store.__init__" (C8.fnArgs s_Store____init__) (C8.fnBody s_Store____init__) (C8.fnScope s_Store____init__) [] [] f_m2 fd_m2)
    (a_m3 : PySem.W.findIn K (.ref SC) "committed_rows" = some (some (.ref f_m3)))
    (i_m3 : PySem.W.isFn K (.ref f_m3) = true)
    (D_m3 : FunD K "committed_rows" "Store.committed_rows" (C8.fnArgs s_Store__committed_rows) (C8.fnBody s_Store__committed_rows) (C8.fnScope s_Store__committed_rows) [] [] f_m3 fd_m3)
    (a_m4 : PySem.W.findIn K (.ref HC) "__init__" = some (some (.ref f_m4)))
    (i_m4 : PySem.W.isFn K (.ref f_m4) = true)
    (D_m4 : FunD K "__init__" "Holds.__init__" (C8.fnArgs s_Holds____init__) (C8.fnBody s_Holds____init__) (C8.fnScope s_Holds____init__) [] [] f_m4 fd_m4)
    (a_m5 : PySem.W.findIn K (.ref DC) "__init__" = some (some (.ref f_m5)))
    (i_m5 : PySem.W.isFn K (.ref f_m5) = true)
    (D_m5 : FunD K "__init__" "Database.__init__" (C8.fnArgs s_Database____init__) (C8.fnBody s_Database____init__) (C8.fnScope s_Database____init__) [] [] f_m5 fd_m5)
    (a_m6 : PySem.W.findIn K (.ref DC) "committed" = some (some (.ref f_m6)))
    (i_m6 : PySem.W.isFn K (.ref f_m6) = true)
    (D_m6 : FunD K "committed" "Database.committed" (C8.fnArgs s_Database__committed) (C8.fnBody s_Database__committed) (C8.fnScope s_Database__committed) [] [] f_m6 fd_m6)
    (a_m7 : PySem.W.findIn K (.ref CE) "__init__" = some (some (.ref f_m7)))
    (i_m7 : PySem.W.isFn K (.ref f_m7) = true)
    (D_m7 : FunD K "__init__" "BadDatabase.__init__" (C8.fnArgs s_BadDatabase____init__) (C8.fnBody s_BadDatabase____init__) (C8.fnScope s_BadDatabase____init__) [] [] f_m7 fd_m7)
    (pgC : PySem.W.plainGet K C Str.empty = true)
    (hdC : PySem.W.hasDictIn K C = true)
    (poC : PySem.W.plainOver K C = true)
    (saC : PySem.W.findIn K (.ref C) "__setattr__" = some (some (.builtin "object.__setattr__")))
    (mkC : PySem.W.makesIn K C = true)
    (kcC : PySem.W.keepIn K (.ref C) = true)
    (pgSC : PySem.W.plainGet K SC Str.empty = true)
    (hdSC : PySem.W.hasDictIn K SC = true)
    (poSC : PySem.W.plainOver K SC = true)
    (saSC : PySem.W.findIn K (.ref SC) "__setattr__" = some (some (.builtin "object.__setattr__")))
    (mkSC : PySem.W.makesIn K SC = true)
    (kcSC : PySem.W.keepIn K (.ref SC) = true)
    (pgHC : PySem.W.plainGet K HC Str.empty = true)
    (hdHC : PySem.W.hasDictIn K HC = true)
    (poHC : PySem.W.plainOver K HC = true)
    (saHC : PySem.W.findIn K (.ref HC) "__setattr__" = some (some (.builtin "object.__setattr__")))
    (mkHC : PySem.W.makesIn K HC = true)
    (kcHC : PySem.W.keepIn K (.ref HC) = true)
    (pgDC : PySem.W.plainGet K DC Str.empty = true)
    (hdDC : PySem.W.hasDictIn K DC = true)
    (poDC : PySem.W.plainOver K DC = true)
    (saDC : PySem.W.findIn K (.ref DC) "__setattr__" = some (some (.builtin "object.__setattr__")))
    (mkDC : PySem.W.makesIn K DC = true)
    (kcDC : PySem.W.keepIn K (.ref DC) = true)
    (nC_columns : PySem.W.findIn K (.ref C) "columns" = some none)
    (nC_tops : PySem.W.findIn K (.ref C) "tops" = some none)
    (nSC_moment : PySem.W.findIn K (.ref SC) "moment" = some none)
    (nSC__tags : PySem.W.findIn K (.ref SC) "_tags" = some none)
    (nSC__versions : PySem.W.findIn K (.ref SC) "_versions" = some none)
    (nHC__store : PySem.W.findIn K (.ref HC) "_store" = some none)
    (nHC__tables : PySem.W.findIn K (.ref HC) "_tables" = some none)
    (nHC__acts : PySem.W.findIn K (.ref HC) "_acts" = some none)
    (nHC__wishes : PySem.W.findIn K (.ref HC) "_wishes" = some none)
    (nDC__store : PySem.W.findIn K (.ref DC) "_store" = some none)
    (nDC__holds : PySem.W.findIn K (.ref DC) "_holds" = some none)
    (nDC__many : PySem.W.findIn K (.ref DC) "_many" = some none)
    (nCE_at : PySem.W.findIn K (.ref CE) "at" = some none)
    (hn : PySem.W.specialIn K (.builtin "object.__class__") "__get__" = some (some (.builtin "getset_descriptor.__get__")))
    (htk : PySem.W.takesIn K (.builtin "object.__class__") = some true)
    (oxCE : oexB K CE = true)
    (esaCE : PySem.W.findIn K (.ref CE) "__setattr__" = some (some (.builtin "object.__setattr__")))
    (eexCE : PySem.W.subIn K (.ref CE) (.type "BaseException") = some true)
    (etyCE : some (PySem.W.typeIn K (.ref CE)) = some (some (.type "type")))
    (ekcCE : PySem.W.keepIn K (.ref CE) = true)
    (egaCE : PySem.W.findIn K (.ref CE) "__getattribute__" = some (some (.builtin "BaseException.__getattribute__")))
    (egtCE : PySem.W.findIn K (.ref CE) "__getattr__" = some none)
    (ehdCE : PySem.W.hasDictIn K CE = true)
    (eclCE : (PySem.W.clsIn K CE).isSome = true)
    (ehaCE : PySem.W.findIn K (.ref CE) "__class__" = some (some (.builtin "object.__class__")))
    (emrCE : PySem.W.mroIn K CE (.type "object") = some true)
    (guL : PySem.W.nsIn K mainGlobals "LETTERS" = some (some uL))
    (gR : PySem.W.nsIn K mainGlobals "RESERVED" = some (some (.ref R)))
    (sqR : ∀ H : Hp, SqT K H R (RES.map V.str))
    (tyE : some (PySem.W.typeIn K (.ref f_m7)) = some (some (.type "function")))
    (exE : PySem.W.exmOne K (.ref CE) (.ref CE) = some true)
    (kN : PySem.W.kitOne K (.ref CE) (.ref CN) = some true)
    (kV : PySem.W.kitOne K (.ref CE) (.type "ValueError") = some true)
    (z_len : PySem.W.nsIn K mainGlobals "len" = some none)
    (z_range : PySem.W.nsIn K mainGlobals "range" = some none)
    (z_abs : PySem.W.nsIn K mainGlobals "abs" = some none)
    (z_int : PySem.W.nsIn K mainGlobals "int" = some none)
    (z_str : PySem.W.nsIn K mainGlobals "str" = some none)
    (z_bool : PySem.W.nsIn K mainGlobals "bool" = some none)
    (z_tuple : PySem.W.nsIn K mainGlobals "tuple" = some none)
    (z_list : PySem.W.nsIn K mainGlobals "list" = some none)
    (z_isinstance : PySem.W.nsIn K mainGlobals "isinstance" = some none)
    (z_all : PySem.W.nsIn K mainGlobals "all" = some none)
    (z_any : PySem.W.nsIn K mainGlobals "any" = some none)
    (z_max : PySem.W.nsIn K mainGlobals "max" = some none)
    (z_min : PySem.W.nsIn K mainGlobals "min" = some none)
    (z_enumerate : PySem.W.nsIn K mainGlobals "enumerate" = some none)
    (z_zip : PySem.W.nsIn K mainGlobals "zip" = some none)
    (z_repr : PySem.W.nsIn K mainGlobals "repr" = some none)
    (z_dict : PySem.W.nsIn K mainGlobals "dict" = some none)
    (z_sorted : PySem.W.nsIn K mainGlobals "sorted" = some none)
    (z_ValueError : PySem.W.nsIn K mainGlobals "ValueError" = some none)
    (ruL : RelV (.str LET) uL)
    :
    ∃ fd : FuncData, (∀ (s : Shared) (v : Value), BindsTo s fd ⟨[v], []⟩ [("_law_script", v)]) ∧ ∀ base : Heap, K.In base → base.Ns mainGlobals mg → FnG P w K mg base C8.CX0 8 fa fd ["_law_script"] (spLaw K) := by
  have e := hfa.symm.trans (PySem.W.mg_of X G a_d17)
  cases e
  have n_len : mg "len" = none := PySem.W.mg_none_of X G z_len
  have n_range : mg "range" = none := PySem.W.mg_none_of X G z_range
  have n_abs : mg "abs" = none := PySem.W.mg_none_of X G z_abs
  have n_int : mg "int" = none := PySem.W.mg_none_of X G z_int
  have n_str : mg "str" = none := PySem.W.mg_none_of X G z_str
  have n_bool : mg "bool" = none := PySem.W.mg_none_of X G z_bool
  have n_tuple : mg "tuple" = none := PySem.W.mg_none_of X G z_tuple
  have n_list : mg "list" = none := PySem.W.mg_none_of X G z_list
  have n_isinstance : mg "isinstance" = none := PySem.W.mg_none_of X G z_isinstance
  have n_all : mg "all" = none := PySem.W.mg_none_of X G z_all
  have n_any : mg "any" = none := PySem.W.mg_none_of X G z_any
  have n_max : mg "max" = none := PySem.W.mg_none_of X G z_max
  have n_min : mg "min" = none := PySem.W.mg_none_of X G z_min
  have n_enumerate : mg "enumerate" = none := PySem.W.mg_none_of X G z_enumerate
  have n_zip : mg "zip" = none := PySem.W.mg_none_of X G z_zip
  have n_repr : mg "repr" = none := PySem.W.mg_none_of X G z_repr
  have n_dict : mg "dict" = none := PySem.W.mg_none_of X G z_dict
  have n_sorted : mg "sorted" = none := PySem.W.mg_none_of X G z_sorted
  have n_ValueError : mg "ValueError" = none := PySem.W.mg_none_of X G z_ValueError
  have gC := PySem.W.mg_of X G aC
  have gSC := PySem.W.mg_of X G aSC
  have gHC := PySem.W.mg_of X G aHC
  have gDC := PySem.W.mg_of X G aDC
  have gCE := PySem.W.mg_of X G aCE
  have gCN := PySem.W.mg_of X G aCN
  have F_d0 : C8.Def K mg "copied" s_copied f_d0 _ := ⟨fun_ofD D_d0, PySem.W.mg_of X G a_d0, D_d0.kp⟩
  have b_d0 : Binds K _ P_copied [] := D_d0.bindsN fun _ _ _ _ _ _ us hl => match us, hl with | [_], _ => rfl
  have F_d1 : C8.Def K mg "is_word" s_is_word f_d1 _ := ⟨fun_ofD D_d1, PySem.W.mg_of X G a_d1, D_d1.kp⟩
  have b_d1 : Binds K _ P_is_word [] := D_d1.bindsN fun _ _ _ _ _ _ us hl => match us, hl with | [_], _ => rfl
  have F_d2 : C8.Def K mg "is_integer" s_is_integer f_d2 _ := ⟨fun_ofD D_d2, PySem.W.mg_of X G a_d2, D_d2.kp⟩
  have b_d2 : Binds K _ P_is_integer [] := D_d2.bindsN fun _ _ _ _ _ _ us hl => match us, hl with | [_], _ => rfl
  have F_d3 : C8.Def K mg "is_tuple_of" s_is_tuple_of f_d3 _ := ⟨fun_ofD D_d3, PySem.W.mg_of X G a_d3, D_d3.kp⟩
  have b_d3 : Binds K _ P_is_tuple_of [] := D_d3.bindsN fun _ _ _ _ _ _ us hl => match us, hl with | [_, _], _ => rfl
  have F_d4 : C8.Def K mg "is_column" s_is_column f_d4 _ := ⟨fun_ofD D_d4, PySem.W.mg_of X G a_d4, D_d4.kp⟩
  have b_d4 : Binds K _ P_is_column [] := D_d4.bindsN fun _ _ _ _ _ _ us hl => match us, hl with | [_], _ => rfl
  have F_d5 : C8.Def K mg "is_row" s_is_row f_d5 _ := ⟨fun_ofD D_d5, PySem.W.mg_of X G a_d5, D_d5.kp⟩
  have b_d5 : Binds K _ P_is_row [] := D_d5.bindsN fun _ _ _ _ _ _ us hl => match us, hl with | [_, _], _ => rfl
  have F_d6 : C8.Def K mg "wrong_entry" s_wrong_entry f_d6 _ := ⟨fun_ofD D_d6, PySem.W.mg_of X G a_d6, D_d6.kp⟩
  have b_d6 : Binds K _ P_wrong_entry [] := D_d6.bindsN fun _ _ _ _ _ _ us hl => match us, hl with | [_, _], _ => rfl
  have F_d7 : C8.Def K mg "name_of" s_name_of f_d7 _ := ⟨fun_ofD D_d7, PySem.W.mg_of X G a_d7, D_d7.kp⟩
  have b_d7 : Binds K _ P_name_of [] := D_d7.bindsN fun _ _ _ _ _ _ us hl => match us, hl with | [_], _ => rfl
  have F_d8 : C8.Def K mg "_law_source" s__law_source f_d8 _ := ⟨fun_ofD D_d8, PySem.W.mg_of X G a_d8, D_d8.kp⟩
  have b_d8 : Binds K _ P__law_source [] := D_d8.bindsN fun _ _ _ _ _ _ us hl => match us, hl with | [_, _], _ => rfl
  have F_d9 : C8.Def K mg "_law_draw" s__law_draw f_d9 _ := ⟨fun_ofD D_d9, PySem.W.mg_of X G a_d9, D_d9.kp⟩
  have b_d9 : Binds K _ P__law_draw [] := D_d9.bindsN fun _ _ _ _ _ _ us hl => match us, hl with | [_, _], _ => rfl
  have F_d10 : C8.Def K mg "_law_of" s__law_of f_d10 _ := ⟨fun_ofD D_d10, PySem.W.mg_of X G a_d10, D_d10.kp⟩
  have b_d10 : Binds K _ P__law_of [] := D_d10.bindsN fun _ _ _ _ _ _ us hl => match us, hl with | [_, _], _ => rfl
  have F_d11 : C8.Def K mg "_law_columns" s__law_columns f_d11 _ := ⟨fun_ofD D_d11, PySem.W.mg_of X G a_d11, D_d11.kp⟩
  have b_d11 : Binds K _ P__law_columns [] := D_d11.bindsN fun _ _ _ _ _ _ us hl => match us, hl with | [_], _ => rfl
  have F_d12 : C8.Def K mg "_law_rows" s__law_rows f_d12 _ := ⟨fun_ofD D_d12, PySem.W.mg_of X G a_d12, D_d12.kp⟩
  have b_d12 : Binds K _ P__law_rows [] := D_d12.bindsN fun _ _ _ _ _ _ us hl => match us, hl with | [_, _, _, _], _ => rfl
  have F_d13 : C8.Def K mg "_law_odd" s__law_odd f_d13 _ := ⟨fun_ofD D_d13, PySem.W.mg_of X G a_d13, D_d13.kp⟩
  have b_d13 : Binds K _ P__law_odd [] := D_d13.bindsN fun _ _ _ _ _ _ us hl => match us, hl with | [_, _], _ => rfl
  have F_d14 : C8.Def K mg "_law_is_row" s__law_is_row f_d14 _ := ⟨fun_ofD D_d14, PySem.W.mg_of X G a_d14, D_d14.kp⟩
  have b_d14 : Binds K _ P__law_is_row [] := D_d14.bindsN fun _ _ _ _ _ _ us hl => match us, hl with | [_, _], _ => rfl
  have F_d15 : C8.Def K mg "_law_first" s__law_first f_d15 _ := ⟨fun_ofD D_d15, PySem.W.mg_of X G a_d15, D_d15.kp⟩
  have b_d15 : Binds K _ P__law_first [] := D_d15.bindsN fun _ _ _ _ _ _ us hl => match us, hl with | [_, _], _ => rfl
  have F_d16 : C8.Def K mg "_law_told" s__law_told f_d16 _ := ⟨fun_ofD D_d16, PySem.W.mg_of X G a_d16, D_d16.kp⟩
  have b_d16 : Binds K _ P__law_told [] := D_d16.bindsN fun _ _ _ _ _ _ us hl => match us, hl with | [_, _], _ => rfl
  have F_d17 : C8.Def K mg "law" s_law fa _ := ⟨fun_ofD D_d17, PySem.W.mg_of X G a_d17, D_d17.kp⟩
  have F_m0 : C8.Fun K "__init__" "Table.__init__" s_Table____init__ f_m0 _ := fun_ofD D_m0
  have b_m0 : Binds K _ P_Table____init__ [] := D_m0.bindsN fun _ _ _ _ _ _ us hl => match us, hl with | [_, _], _ => rfl
  have k_m0 := D_m0.kp
  have F_m1 : C8.Fun K "__contains__" "Table.__contains__" s_Table____contains__ f_m1 _ := fun_ofD D_m1
  have b_m1 : Binds K _ P_Table____contains__ [] := D_m1.bindsN fun _ _ _ _ _ _ us hl => match us, hl with | [_, _], _ => rfl
  have k_m1 := D_m1.kp
  have F_m2 : C8.Fun K "__init__" "Store.__init__" s_Store____init__ f_m2 _ := fun_ofD D_m2
  have b_m2 : Binds K _ P_Store____init__ [] := D_m2.bindsN fun _ _ _ _ _ _ us hl => match us, hl with | [_, _], _ => rfl
  have k_m2 := D_m2.kp
  have F_m3 : C8.Fun K "committed_rows" "Store.committed_rows" s_Store__committed_rows f_m3 _ := fun_ofD D_m3
  have b_m3 : Binds K _ P_Store__committed_rows [] := D_m3.bindsN fun _ _ _ _ _ _ us hl => match us, hl with | [_], _ => rfl
  have k_m3 := D_m3.kp
  have F_m4 : C8.Fun K "__init__" "Holds.__init__" s_Holds____init__ f_m4 _ := fun_ofD D_m4
  have b_m4 : Binds K _ P_Holds____init__ [] := D_m4.bindsN fun _ _ _ _ _ _ us hl => match us, hl with | [_, _], _ => rfl
  have k_m4 := D_m4.kp
  have F_m5 : C8.Fun K "__init__" "Database.__init__" s_Database____init__ f_m5 _ := fun_ofD D_m5
  have b_m5 : Binds K _ P_Database____init__ [] := D_m5.bindsN fun _ _ _ _ _ _ us hl => match us, hl with | [_, _, _], _ => rfl
  have k_m5 := D_m5.kp
  have F_m6 : C8.Fun K "committed" "Database.committed" s_Database__committed f_m6 _ := fun_ofD D_m6
  have b_m6 : Binds K _ P_Database__committed [] := D_m6.bindsN fun _ _ _ _ _ _ us hl => match us, hl with | [_], _ => rfl
  have k_m6 := D_m6.kp
  have F_m7 : C8.Fun K "__init__" "BadDatabase.__init__" s_BadDatabase____init__ f_m7 _ := fun_ofD D_m7
  have b_m7 : Binds K _ P_BadDatabase____init__ [] := D_m7.bindsN fun _ _ _ _ _ _ us hl => match us, hl with | [_, _], _ => rfl
  have k_m7 := D_m7.kp
  refine ⟨fd_d17, fun s v => D_d17.bindsA (ps := ["_law_script"]) (fun _ _ _ _ _ _ us hl => match us, hl with | [_], _ => rfl) s [v] rfl, fun base _ _ => ?_⟩
  have T : Names K mg := ⟨n_len, n_range, n_abs, n_int, n_str, n_bool, n_tuple, n_list, n_isinstance, n_all, n_any, n_max, n_min, n_enumerate, n_zip, n_repr, ⟨_, PySem.W.mg_of X G guL, ruL⟩, R, ⟨_, PySem.W.mg_of X G gR, rfl⟩, sqR⟩
  have TC : TabC K mg C := ⟨⟨pgC, hdC, poC, saC⟩, nC_columns, nC_tops⟩
  have SCF : ClsF K SC STF := ⟨⟨pgSC, hdSC, poSC, saSC⟩, fun n hn => by
    simp only [STF, List.mem_cons, List.not_mem_nil, or_false] at hn
    rcases hn with rfl | rfl | rfl
    · exact nSC_moment
    · exact nSC__tags
    · exact nSC__versions⟩
  have HCF : ClsF K HC HLF := ⟨⟨pgHC, hdHC, poHC, saHC⟩, fun n hn => by
    simp only [HLF, List.mem_cons, List.not_mem_nil, or_false] at hn
    rcases hn with rfl | rfl | rfl | rfl
    · exact nHC__store
    · exact nHC__tables
    · exact nHC__acts
    · exact nHC__wishes⟩
  have DCF : ClsF K DC DBF := ⟨⟨pgDC, hdDC, poDC, saDC⟩, fun n hn => by
    simp only [DBF, List.mem_cons, List.not_mem_nil, or_false] at hn
    rcases hn with rfl | rfl | rfl
    · exact nDC__store
    · exact nDC__holds
    · exact nDC__many⟩
  have c_draw : C8.Cal P w K mg base 1 "_law_draw" spTake [] := draw F_d9 b_d9 T
  have c_src : C8.Cal P w K mg base 1 "_law_source" (spBag K) [] := source F_d8 b_d8 T
  have c_of : C8.Cal P w K mg base 2 "_law_of" spOf [] := of_ F_d10 b_d10 T c_draw
  have c_int : C8.Cal P w K mg base 1 "is_integer" spIsInt [] := isInteger F_d2 b_d2 T
  have c_tup : C8.Cal P w K mg base 1 "is_tuple_of" spTupOf [] := isTupleOf F_d3 b_d3 T
  have c_word : C8.Cal P w K mg base 1 "is_word" spWord [] := isWord_ F_d1 b_d1 T
  have c_col : C8.Cal P w K mg base 2 "is_column" spCol [] := isColumn F_d4 b_d4 T c_word c_int c_tup
  have m_T : C8.Mak P w K mg base 3 "Table" C (spInit C) [] := tInit F_m0 b_m0 ⟨mkC, a_m0, i_m0, kcC⟩ gC T TC c_col
  have o_in : Own P w K mg base 2 C "__contains__" (spIn C) := tContains F_m1 b_m1 TC a_m1 i_m1 T c_int c_tup
  have c_row : C8.Cal P w K mg base 3 "is_row" (spRow C) [] := isRow F_d5 b_d5 T c_word c_tup o_in
  have c_we : C8.Cal P w K mg base 4 "wrong_entry" (spWrongE C) [] := wrongEntry F_d6 b_d6 T c_row
  have c_nm : C8.Cal P w K mg base 1 "name_of" spName [] := nameOf F_d7 b_d7 T
  have c_copied : C8.Cal P w K mg base 1 "copied" spCopied [] := copied_ F_d0 b_d0 T n_dict
  have OCE : OexC K CE := ⟨oexB_ok oxCE, esaCE, eexCE, Option.some.inj etyCE, ekcCE⟩
  have F_E : FnOk P w K mg base C8.CX0 2 f_m7 _ P_BadDatabase____init__ (spErrF CE "at") := badInit F_m7 OCE nCE_at c_copied
  have TE : ErrD K mg CE CN := ⟨⟨eclCE, egaCE, egtCE, eexCE, ehaCE, hn, htk, emrCE⟩, ⟨egaCE, egtCE, eexCE, ehdCE⟩, nCE_at, gCE, gCN, n_ValueError, exE, kN, kV⟩
  have m_S : C8.Mak P w K mg base 1 "Store" SC (spSto SC) [] := stoInit F_m2 b_m2 ⟨mkSC, a_m2, i_m2, kcSC⟩ gSC T SCF
  have c_cr : C8.Met P w K mg base 2 SC "committed_rows" (spRows SC) [] := committedRows F_m3 b_m3 ⟨a_m3, i_m3, k_m3⟩ T n_sorted SCF c_nm
  have m_H : C8.Mak P w K mg base 1 "Holds" HC (spHol HC) [] := holInit F_m4 b_m4 ⟨mkHC, a_m4, i_m4, kcHC⟩ gHC HCF
  have F_D : FnOk P w K mg base C8.CX0 5 f_m5 _ P_Database____init__ (spDb C DC SC) := dbInit F_m5 T DCF c_we m_S m_H
  have F_DX : FnOk P w K mg base (L2.CX P w) 5 f_m5 _ P_Database____init__ (spDbX C DC SC CE) := dbInitX F_m5 T DCF c_we m_S m_H OCE a_m7 (Option.some.inj tyE) F_E b_m7 gCE
  have M_D : Mk K DC f_m5 := ⟨mkDC, a_m5, i_m5, kcDC⟩
  have c_com : C8.Met P w K mg base 3 DC "committed" (spCom DC SC) [] := committed_ F_m6 b_m6 ⟨a_m6, i_m6, k_m6⟩ DCF c_cr
  have c_told : C8.Cal P w K mg base 7 "_law_told" (spTold C) [] := lTold F_d16 b_d16 T TE M_D F_DX b_m5 gDC c_com
  have c_cols : C8.Cal P w K mg base 3 "_law_columns" spCol59 [] := lColumns F_d11 b_d11 T c_of
  have c_odd : C8.Cal P w K mg base 3 "_law_odd" spOdd59 [] := lOdd F_d13 b_d13 T c_of
  have c_rows : C8.Cal P w K mg base 2 "_law_rows" spRows59 [] := lRows F_d12 b_d12 T c_draw
  have c_isr : C8.Cal P w K mg base 1 "_law_is_row" spLRow [] := lIsRow F_d14 b_d14 T
  have c_first : C8.Cal P w K mg base 2 "_law_first" spLFirst [] := lFirst F_d15 b_d15 T c_isr
  have KB_D := kb_all (ps := P_Database____init__) D_m5 1 ["table", "rows"] fun kV doc pm an cdv ct us ws l1 l2 => match us, ws, l1, l2 with | [_], [_, _], _, _ => rfl
  exact lLaw F_d17 T c_src c_cols m_T c_rows c_draw c_odd c_first c_told c_com M_D F_D b_m5 gDC KB_D
theorem hd_facts {P : Program} {w : World} {K : PySem.W.Frag} {h : Heap} {mg : Str → Option Value} {fa : Addr} (X : K.In h) (G : h.Ns mainGlobals mg) (hfa : mg "law" = some (.ref fa)) (c : ToldN hdFs hdDs hdTs w K) :
    ∃ fd : FuncData, (∀ (s : Shared) (v : Value), BindsTo s fd ⟨[v], []⟩ [("_law_script", v)]) ∧ ∀ base : Heap, K.In base → base.Ns mainGlobals mg → FnG P w K mg base C8.CX0 8 fa fd ["_law_script"] (spLaw K) := by
  obtain ⟨fd_d0, D_d0⟩ := c.fn 0 hdD0 rfl
  obtain ⟨fd_d1, D_d1⟩ := c.fn 1 hdD1 rfl
  obtain ⟨fd_d2, D_d2⟩ := c.fn 2 hdD2 rfl
  obtain ⟨fd_d3, D_d3⟩ := c.fn 3 hdD3 rfl
  obtain ⟨fd_d4, D_d4⟩ := c.fn 4 hdD4 rfl
  obtain ⟨fd_d5, D_d5⟩ := c.fn 5 hdD5 rfl
  obtain ⟨fd_d6, D_d6⟩ := c.fn 6 hdD6 rfl
  obtain ⟨fd_d7, D_d7⟩ := c.fn 7 hdD7 rfl
  obtain ⟨fd_d8, D_d8⟩ := c.fn 8 hdD8 rfl
  obtain ⟨fd_d9, D_d9⟩ := c.fn 9 hdD9 rfl
  obtain ⟨fd_d10, D_d10⟩ := c.fn 10 hdD10 rfl
  obtain ⟨fd_d11, D_d11⟩ := c.fn 11 hdD11 rfl
  obtain ⟨fd_d12, D_d12⟩ := c.fn 12 hdD12 rfl
  obtain ⟨fd_d13, D_d13⟩ := c.fn 13 hdD13 rfl
  obtain ⟨fd_d14, D_d14⟩ := c.fn 14 hdD14 rfl
  obtain ⟨fd_d15, D_d15⟩ := c.fn 15 hdD15 rfl
  obtain ⟨fd_d16, D_d16⟩ := c.fn 16 hdD16 rfl
  obtain ⟨fd_d17, D_d17⟩ := c.fn 17 hdD17 rfl
  obtain ⟨fd_m0, D_m0⟩ := c.fn 18 hdD18 rfl
  obtain ⟨fd_m1, D_m1⟩ := c.fn 19 hdD19 rfl
  obtain ⟨fd_m2, D_m2⟩ := c.fn 20 hdD20 rfl
  obtain ⟨fd_m3, D_m3⟩ := c.fn 21 hdD21 rfl
  obtain ⟨fd_m4, D_m4⟩ := c.fn 22 hdD22 rfl
  obtain ⟨fd_m5, D_m5⟩ := c.fn 23 hdD23 rfl
  obtain ⟨fd_m6, D_m6⟩ := c.fn 24 hdD24 rfl
  obtain ⟨fd_m7, D_m7⟩ := c.fn 25 hdD25 rfl
  obtain ⟨uL, q_uL, r_uL⟩ := rvB_ok (c.test 90 hdF90 rfl)
  exact all_mk X G hfa (He.eqO_ok (c.test 0 hdF0 rfl)) D_d0 (He.eqO_ok (c.test 1 hdF1 rfl)) D_d1 (He.eqO_ok (c.test 2 hdF2 rfl)) D_d2 (He.eqO_ok (c.test 3 hdF3 rfl)) D_d3 (He.eqO_ok (c.test 4 hdF4 rfl)) D_d4 (He.eqO_ok (c.test 5 hdF5 rfl)) D_d5 (He.eqO_ok (c.test 6 hdF6 rfl)) D_d6 (He.eqO_ok (c.test 7 hdF7 rfl)) D_d7 (He.eqO_ok (c.test 8 hdF8 rfl)) D_d8 (He.eqO_ok (c.test 9 hdF9 rfl)) D_d9 (He.eqO_ok (c.test 10 hdF10 rfl)) D_d10 (He.eqO_ok (c.test 11 hdF11 rfl)) D_d11 (He.eqO_ok (c.test 12 hdF12 rfl)) D_d12 (He.eqO_ok (c.test 13 hdF13 rfl)) D_d13 (He.eqO_ok (c.test 14 hdF14 rfl)) D_d14 (He.eqO_ok (c.test 15 hdF15 rfl)) D_d15 (He.eqO_ok (c.test 16 hdF16 rfl)) D_d16 (He.eqO_ok (c.test 17 hdF17 rfl)) D_d17 (He.eqO_ok (c.test 18 hdF18 rfl)) (He.eqO_ok (c.test 19 hdF19 rfl)) (He.eqO_ok (c.test 20 hdF20 rfl)) (He.eqO_ok (c.test 21 hdF21 rfl)) (He.eqO_ok (c.test 22 hdF22 rfl)) (He.eqO_ok (c.test 23 hdF23 rfl)) (He.eqO_ok (c.test 24 hdF24 rfl)) (c.test 25 hdF25 rfl) D_m0 (He.eqO_ok (c.test 26 hdF26 rfl)) (c.test 27 hdF27 rfl) D_m1 (He.eqO_ok (c.test 28 hdF28 rfl)) (c.test 29 hdF29 rfl) D_m2 (He.eqO_ok (c.test 30 hdF30 rfl)) (c.test 31 hdF31 rfl) D_m3 (He.eqO_ok (c.test 32 hdF32 rfl)) (c.test 33 hdF33 rfl) D_m4 (He.eqO_ok (c.test 34 hdF34 rfl)) (c.test 35 hdF35 rfl) D_m5 (He.eqO_ok (c.test 36 hdF36 rfl)) (c.test 37 hdF37 rfl) D_m6 (He.eqO_ok (c.test 38 hdF38 rfl)) (c.test 39 hdF39 rfl) D_m7 (c.test 40 hdF40 rfl) (c.test 41 hdF41 rfl) (c.test 42 hdF42 rfl) (He.eqO_ok (c.test 43 hdF43 rfl)) (c.test 44 hdF44 rfl) (c.test 45 hdF45 rfl) (c.test 46 hdF46 rfl) (c.test 47 hdF47 rfl) (c.test 48 hdF48 rfl) (He.eqO_ok (c.test 49 hdF49 rfl)) (c.test 50 hdF50 rfl) (c.test 51 hdF51 rfl) (c.test 52 hdF52 rfl) (c.test 53 hdF53 rfl) (c.test 54 hdF54 rfl) (He.eqO_ok (c.test 55 hdF55 rfl)) (c.test 56 hdF56 rfl) (c.test 57 hdF57 rfl) (c.test 58 hdF58 rfl) (c.test 59 hdF59 rfl) (c.test 60 hdF60 rfl) (He.eqO_ok (c.test 61 hdF61 rfl)) (c.test 62 hdF62 rfl) (c.test 63 hdF63 rfl) (He.eqO_ok (c.test 64 hdF64 rfl)) (He.eqO_ok (c.test 65 hdF65 rfl)) (He.eqO_ok (c.test 66 hdF66 rfl)) (He.eqO_ok (c.test 67 hdF67 rfl)) (He.eqO_ok (c.test 68 hdF68 rfl)) (He.eqO_ok (c.test 69 hdF69 rfl)) (He.eqO_ok (c.test 70 hdF70 rfl)) (He.eqO_ok (c.test 71 hdF71 rfl)) (He.eqO_ok (c.test 72 hdF72 rfl)) (He.eqO_ok (c.test 73 hdF73 rfl)) (He.eqO_ok (c.test 74 hdF74 rfl)) (He.eqO_ok (c.test 75 hdF75 rfl)) (He.eqO_ok (c.test 76 hdF76 rfl)) (He.eqO_ok (c.test 77 hdF77 rfl)) (of_decide_eq_true (c.test 78 hdF78 rfl)) (c.test 79 hdF79 rfl) (He.eqO_ok (c.test 80 hdF80 rfl)) (of_decide_eq_true (c.test 81 hdF81 rfl)) (He.eqO_ok (c.test 82 hdF82 rfl)) (c.test 83 hdF83 rfl) (He.eqO_ok (c.test 84 hdF84 rfl)) (He.eqO_ok (c.test 85 hdF85 rfl)) (c.test 86 hdF86 rfl) (c.test 87 hdF87 rfl) (He.eqO_ok (c.test 88 hdF88 rfl)) (of_decide_eq_true (c.test 89 hdF89 rfl)) q_uL (He.eqO_ok (c.test 91 hdF91 rfl)) (fun H => He.tupB_ok (c.test 92 hdF92 rfl) H) (He.eqO_ok (c.test 93 hdF93 rfl)) (of_decide_eq_true (c.test 94 hdF94 rfl)) (of_decide_eq_true (c.test 95 hdF95 rfl)) (of_decide_eq_true (c.test 96 hdF96 rfl)) (He.eqO_ok (c.test 97 hdF97 rfl)) (He.eqO_ok (c.test 98 hdF98 rfl)) (He.eqO_ok (c.test 99 hdF99 rfl)) (He.eqO_ok (c.test 100 hdF100 rfl)) (He.eqO_ok (c.test 101 hdF101 rfl)) (He.eqO_ok (c.test 102 hdF102 rfl)) (He.eqO_ok (c.test 103 hdF103 rfl)) (He.eqO_ok (c.test 104 hdF104 rfl)) (He.eqO_ok (c.test 105 hdF105 rfl)) (He.eqO_ok (c.test 106 hdF106 rfl)) (He.eqO_ok (c.test 107 hdF107 rfl)) (He.eqO_ok (c.test 108 hdF108 rfl)) (He.eqO_ok (c.test 109 hdF109 rfl)) (He.eqO_ok (c.test 110 hdF110 rfl)) (He.eqO_ok (c.test 111 hdF111 rfl)) (He.eqO_ok (c.test 112 hdF112 rfl)) (He.eqO_ok (c.test 113 hdF113 rfl)) (He.eqO_ok (c.test 114 hdF114 rfl)) (He.eqO_ok (c.test 115 hdF115 rfl)) r_uL
end Nw
open PySem PySem.W PySem.Calls PyProof.Rows in
set_option maxRecDepth 100000 in
set_option maxHeartbeats 0 in
theorem PySem.Challenge.cw_newestrow_k59_databases_refused_holds : PySem.Challenge.rw_newestrow_k59_databases_refused.Holds := by
  w_on; o_law
  refine HandSHeadRun.head_any (r := Nw.hdR) (q := Nw.hdQ) (H := Nw.hdK) (ob := Nw.hdO) (M := 9000) (loose := Nw.hdN) (d := HandSHeadRun.topDef Nw.hdR.prog 42) (kwd := []) Nw.hdO_eq
    (by kernel_rfl) (fun s => by kernel_rfl) Nw.hd_run (by kernel_rfl) (by kernel_rfl) (by kernel_rfl) (by rfl) (by first | assumption | decide +kernel) (by decide +kernel) ⟨rfl, rfl, rfl, rfl, rfl, by decide +kernel⟩ ?hw ?hc
  case hw => w_witness2
  case hc =>
    refine Nw.walkG (l := PySem.Challenge.rw_newestrow_k59_databases_refused) (n := 63) (k := 8) (x := "_law_script") rfl (by decide) (by kernel_rfl) ⟨rfl, by decide, by decide⟩ ?F
    intro w mg fa h Y G hmg0
    obtain ⟨K, KX, c⟩ := Y
    have hmg : mg ("law" : PySem.Str) = some (.ref fa) := by
      have e : (HandSHeadRun.topDef Nw.hdR.prog 42).name = ("law" : PySem.Str) := by kernel_rfl
      rw [← e]
      exact hmg0
    obtain ⟨fd, hb, hF⟩ := Nw.hd_facts (P := (PySem.Challenge.rw_newestrow_k59_databases_refused).prog) (w := w) KX G hmg c
    exact ⟨K, fd, Nw.spLaw K, KX, hb, fun H a ns hl _ hS => ⟨a, ns, rfl, hS, hl, fun _ => rfl⟩, hF⟩
