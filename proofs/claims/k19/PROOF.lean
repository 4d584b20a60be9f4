import PyProof.Rows.All
import Wide.All
import OpenK.AllK
import Wide.FinOn
import HandS.ForExc
import HandS.Comp
import HandS.Wide
import HandS.IsInst
import HandS.Codes
import HandS.ExcInit
import HandS.Property
import HandS.Defaults
import HandS.HeadHook2
import HandS.HeadEnd
import HandS.HeadNt
import HandS.Head2
import KE.DataEq
import HandS.NoneIn
import HandS.SetFor
import HandS.More
import HandS.Dict
import HandS.Small
import HandS.ClsMeth
import HandS.ExcField
import HandS.ExcIs
import HandS.TryMany
import HandS.DictComp
import HandS.Iter
import HandS.Conv
import KE.KCallOwn
import HandS.Style
import HandS.TupLe
import HandS.HeadHook3
import HandS.HeadWalk
import HandS.RaiseMore
import PyProof.RowDictHeap
import HandS.CallSlots
import HandS.Strs
import HandS.Lambda
import KE.KNestM
import HandS.Finally
import HandS.Nested
import KE.KWithOwn
import HandS.Star
import HandS.TupAny
import HandS.SortInts
import PyProof.Rows.Range3
import PyProof.Conv_bool
import KE.KTupTruth
import KE.GoesMore
import OpenK.KOps
import HandS.Flow
import KE.KRevSl
import OpenK.KMeth
import HandS.MakeKwOnly
import PyProof.DictUpdate
import PyProof.DictCopy
import KE.KOpsOwn
import HandS.Walk
import HandS.WordsDict
import PySem.Challenge.RW_agedfiles_k19_whole_looks_decided
set_option Elab.async false
set_option linter.all false
set_option maxRecDepth 100000
set_option maxHeartbeats 4000000
namespace AF
open PySem PySem.Spec PyProof.Rows L2

theorem rm {j k : Nat} {A : Around} (r : Room k A) (h : j ≤ k := by decide) : Room j A := r.mono h
/-! what stands on the heap, told by a list -/
abbrev Ent := Addr × HO × Bool
def tag (e : Ent) : Addr × Bool := (e.1, e.2.2)
def Apart (a b : Addr × Bool) : Prop := a.2 = true ∨ b.2 = true → a.1 ≠ b.1
structure Sh (H0 : Hp) (M : Addr → Prop) (H : Hp) (l : List Ent) : Prop where
  fr : ∀ b o, H0 b = some o → ¬ M b → H b = some o
  has : ∀ e, e ∈ l → H e.1 = some e.2.1
  ap : (l.map tag).Pairwise Apart
  mu : ∀ e, e ∈ l → e.2.2 = true → M e.1 ∨ H0 e.1 = none
/-- what a call leaves as it was: all but ms -/
def Ch (ms : List Addr) (H H' : Hp) : Prop := ∀ b o, H b = some o → b ∉ ms → H' b = some o
theorem Ch.rfl' {ms : List Addr} {H : Hp} : Ch ms H H := fun _ _ h _ => h
inductive Rep : List Ent → Addr → HO → HO → List Ent → Prop where
  | here {p : Addr} {o o' : HO} {r : List Ent} : Rep ((p, o, true) :: r) p o o' ((p, o', true) :: r)
  | next {e : Ent} {l : List Ent} {p : Addr} {o o' : HO} {l' : List Ent} : Rep l p o o' l' → Rep (e :: l) p o o' (e :: l')
theorem Rep.tags {l l' : List Ent} {p : Addr} {o o' : HO} (r : Rep l p o o' l') : l'.map tag = l.map tag := by
  induction r with
  | here => rfl
  | next _ ih => rw [List.map_cons, List.map_cons, ih]
theorem Rep.mem {l l' : List Ent} {p : Addr} {o o' : HO} (r : Rep l p o o' l') : (p, o, true) ∈ l := by
  induction r with
  | here => exact List.mem_cons_self
  | next _ ih => exact List.mem_cons_of_mem _ ih
theorem Rep.mem' {l l' : List Ent} {p : Addr} {o o' : HO} (r : Rep l p o o' l') : (p, o', true) ∈ l' := by
  induction r with
  | here => exact List.mem_cons_self
  | next _ ih => exact List.mem_cons_of_mem _ ih
theorem Rep.other {l l' : List Ent} {p : Addr} {o o' : HO} (r : Rep l p o o' l') (ap : (l.map tag).Pairwise Apart) : ∀ e, e ∈ l' → e = (p, o', true) ∨ (e ∈ l ∧ e.1 ≠ p) := by
  induction r with
  | here =>
    intro e he
    rcases List.mem_cons.mp he with h | h
    · exact .inl h
    · rw [List.map_cons, List.pairwise_cons] at ap
      exact .inr ⟨List.mem_cons_of_mem _ h, fun z => ap.1 (tag e) (List.mem_map.mpr ⟨e, h, rfl⟩) (.inl rfl) z.symm⟩
  | @next e0 l p o o' l' r ih =>
    intro e he
    rw [List.map_cons, List.pairwise_cons] at ap
    rcases List.mem_cons.mp he with h | h
    · subst h
      refine .inr ⟨List.mem_cons_self, fun z => ?_⟩
      exact ap.1 (tag (p, o, true)) (List.mem_map.mpr ⟨_, r.mem, rfl⟩) (.inr rfl) z
    · rcases ih ap.2 e h with h | ⟨h, n⟩
      · exact .inl h
      · exact .inr ⟨List.mem_cons_of_mem _ h, n⟩
inductive On : List Ent → Addr → HO → Prop where
  | here {p : Addr} {o : HO} {m : Bool} {r : List Ent} : On ((p, o, m) :: r) p o
  | next {e : Ent} {l : List Ent} {p : Addr} {o : HO} : On l p o → On (e :: l) p o
theorem On.mem {l : List Ent} {p : Addr} {o : HO} (h : On l p o) : ∃ m, (p, o, m) ∈ l := by
  induction h with
  | here => exact ⟨_, List.mem_cons_self⟩
  | next _ ih =>
    obtain ⟨m, h⟩ := ih
    exact ⟨m, List.mem_cons_of_mem _ h⟩
section
variable {H0 : Hp} {M : Addr → Prop} {H H' : Hp} {l l' : List Ent} {p q b : Addr} {o o' : HO} {m : Bool}
theorem Sh.at_ (S : Sh H0 M H l) (h : (p, o, m) ∈ l) : H p = some o := S.has _ h
theorem Sh.has_ (S : Sh H0 M H l) (h : On l p o) : H p = some o := by
  obtain ⟨m, h⟩ := h.mem
  exact S.has _ h
theorem Sh.ch0 (S : Sh H0 M H l) (c : Ch [] H H') : Sh H0 M H' l :=
  ⟨fun b o h n => c b o (S.fr b o h n) List.not_mem_nil, fun e he => c _ _ (S.has e he) List.not_mem_nil, S.ap, S.mu⟩
theorem Sh.ch1 (S : Sh H0 M H l) (r : Rep l p o o' l') (c : Ch [p] H H') (h : H' p = some o') : Sh H0 M H' l' := by
  have mp := S.mu _ r.mem rfl
  refine ⟨fun b u hb n => ?_, fun e he => ?_, by rw [r.tags]; exact S.ap, fun e he hm => ?_⟩
  · by_cases e : b = p
    · subst e
      rcases mp with k | k
      · exact absurd k n
      · rw [show H0 b = none from k] at hb; cases hb
    · exact c b u (S.fr b u hb n) (by simpa using e)
  · rcases r.other S.ap e he with h1 | ⟨h1, h2⟩
    · rw [h1]; exact h
    · exact c _ _ (S.has e h1) (by simpa using h2)
  · rcases r.other S.ap e he with h1 | ⟨h1, _⟩
    · rw [h1]; exact mp
    · exact S.mu e h1 hm
theorem Sh.add (S : Sh H0 M H l) (c : Ch [] H H') (hn : H q = none) (h : H' q = some o) : Sh H0 M H' ((q, o, true) :: l) := by
  have S' := S.ch0 c
  refine ⟨S'.fr, fun e he => ?_, ?_, fun e he hm => ?_⟩
  · rcases List.mem_cons.mp he with h1 | h1
    · rw [h1]; exact h
    · exact S'.has e h1
  · rw [List.map_cons, List.pairwise_cons]
    refine ⟨fun t ht _ z => ?_, S.ap⟩
    obtain ⟨e, he, rfl⟩ := List.mem_map.mp ht
    have z' : q = e.1 := z
    have := S.has e he
    rw [← z', hn] at this; cases this
  · rcases List.mem_cons.mp he with h1 | h1
    · rw [h1]
      by_cases k : M q
      · exact .inl k
      · refine .inr ?_
        cases e0 : H0 q with
        | none => rfl
        | some u => rw [S.fr q u e0 k] at hn; cases hn
    · exact S.mu e h1 hm
theorem ch_upd_new (hn : H p = none) : Ch [] H (upd H p o) := fun b u h _ => by
  rw [upd_ne (ne_of_none h hn)]; exact h
theorem ch_upd : Ch [p] H (upd H p o) := fun b u h n => by
  rw [upd_ne (by simpa using n)]; exact h
theorem Sh.new (S : Sh H0 M H l) (hn : H p = none) : Sh H0 M (upd H p o) ((p, o, true) :: l) := S.add (ch_upd_new hn) hn upd_same
theorem Sh.put (S : Sh H0 M H l) (r : Rep l p o o' l') : Sh H0 M (upd H p o') l' := S.ch1 r ch_upd upd_same
theorem Sh.out {ms : List Addr} (S : Sh H0 M H l) (h : ∀ b, M b → b ∈ ms) : Ch ms H0 H := fun b o hb n => S.fr b o hb fun k => n (h b k)
theorem Sh.was (S : Sh H0 M H l) (hn : H q = none) (k : ¬ M q) : H0 q = none := by
  cases e0 : H0 q with
  | none => rfl
  | some u => rw [S.fr q u e0 k] at hn; cases hn
theorem Sh.seq {K : PySem.W.Frag} {a : Addr} {xs : List V} (S : Sh H0 M H l) (k : ¬ M a) (h : SqL K H0 a xs) : SqL K H a xs := by
  rcases h with (h | ⟨o, h⟩) | h
  · exact .inl (.inl (S.fr _ _ h k))
  · exact .inl (.inr ⟨o, S.fr _ _ h k⟩)
  · exact .inr h
theorem Sh.start {M : Addr → Prop} : Sh H M H [] := ⟨fun _ _ h _ => h, fun _ h => (nomatch h), List.Pairwise.nil, fun _ h => (nomatch h)⟩
/-- one more thing that stands, not to be changed, apart from what may be -/
theorem Sh.know (S : Sh H0 M H l) (h : H p = some o) (d : ∀ e, e ∈ l → e.2.2 = true → p ≠ e.1) : Sh H0 M H ((p, o, false) :: l) := by
  refine ⟨S.fr, fun e he => ?_, ?_, fun e he hm => ?_⟩
  · rcases List.mem_cons.mp he with h1 | h1
    · rw [h1]; exact h
    · exact S.has e h1
  · rw [List.map_cons, List.pairwise_cons]
    refine ⟨fun t ht k => ?_, S.ap⟩
    obtain ⟨e, he, rfl⟩ := List.mem_map.mp ht
    rcases k with k | k
    · cases k
    · exact d e he k
  · rcases List.mem_cons.mp he with h1 | h1
    · rw [h1] at hm; cases hm
    · exact S.mu e h1 hm
/-- one that may be changed -/
theorem Sh.take (S : Sh H0 M H l) (h : H p = some o) (k : M p) (d : ∀ e, e ∈ l → p ≠ e.1) : Sh H0 M H ((p, o, true) :: l) := by
  refine ⟨S.fr, fun e he => ?_, ?_, fun e he hm => ?_⟩
  · rcases List.mem_cons.mp he with h1 | h1
    · rw [h1]; exact h
    · exact S.has e h1
  · rw [List.map_cons, List.pairwise_cons]
    refine ⟨fun t ht _ => ?_, S.ap⟩
    obtain ⟨e, he, rfl⟩ := List.mem_map.mp ht
    exact d e he
  · rcases List.mem_cons.mp he with h1 | h1
    · rw [h1]; exact .inl k
    · exact S.mu e h1 hm
end

/-! slots -/
inductive SetS : L2.St → Nat → V → L2.St → Prop where
  | z {a : Option V} {r : L2.St} {x : V} : SetS (a :: r) 0 x (some x :: r)
  | s {a : Option V} {r r' : L2.St} {i : Nat} {x : V} : SetS r i x r' → SetS (a :: r) (i + 1) x (a :: r')
theorem SetS.eq {σ σ' : L2.St} {i : Nat} {x : V} (h : SetS σ i x σ') : σ.set i (some x) = σ' := by
  induction h with
  | z => rfl
  | s _ ih => rw [List.set_cons_succ, ih]

/-! what is asked behind a part, by name -/
def kB (Q : Bool → Hp → Prop) (x : V) (H : Hp) : Prop := ∃ k, x = .bl k ∧ Q k H
def kAnd (Q : VK) (tb : TE) (σ : L2.St) (x : V) (H : Hp) : Prop := ∃ c, x = .bl c ∧ if c = true then tb σ H Q else Q (.bl false) H
def kOr (Q : VK) (tb : TE) (σ : L2.St) (x : V) (H : Hp) : Prop := ∃ c, x = .bl c ∧ if c = true then Q (.bl true) H else tb σ H Q
def kNot (Q : VK) (x : V) (H : Hp) : Prop := ∃ c, x = .bl c ∧ Q (.bl (!c)) H
def kLst (Q : VK) (xs : List V) (H : Hp) : Prop := xs.length ≤ sizeLine ∧ ∀ p, H p = none → Q (.ref p) (upd H p (.lst xs))
def kTup (Q : VK) (xs : List V) (H : Hp) : Prop := xs.length ≤ sizeLine ∧ ∀ p, H p = none → Q (.ref p) (upd H p (.tup xs))
def kFld (K : PySem.W.Frag) (f : Str) (Q : VK) (x : V) (H : Hp) : Prop := ∃ a C dx fs v, x = .ref a ∧ H a = some (.ins C dx fs) ∧ Cls K C ∧ NoAttr K C f ∧ fs.lookup f = some v ∧ Q v H
def kSFld (K : PySem.W.Frag) (f : Str) (P : Hp → Prop) (y x : V) (H : Hp) : Prop := ∃ a C dx fs, x = .ref a ∧ H a = some (.ins C dx fs) ∧ Cls K C ∧ NoAttr K C f ∧ fs.length < 1000 ∧ P (upd H a (.ins C dx (putF f y fs)))
def kPar (nx : L2.St → Hp → Prop) (σ : L2.St) (i j : Nat) (vs : List V) (H : Hp) : Prop := ∃ v w, vs = [v, w] ∧ nx ((σ.set i (some v)).set j (some w)) H

/-! one step each -/
section
variable {σ σ' : L2.St} {H : Hp} {Q : VK} {nx : L2.St → Hp → Prop} {rt : VK} {bk ct : L2.St → Hp → Prop} {ta tb te : TE} {t u : TS} {c : TT} {i j : Int} {x y : V} {K : PySem.W.Frag} {a C dx : Addr} {fs : List (Str × V)} {f : Str} {v : V}
theorem g_seq (h : t ⟨fun σ H => u ⟨nx, rt, bk, ct⟩ σ H, rt, bk, ct⟩ σ H) : tSeq t u ⟨nx, rt, bk, ct⟩ σ H := h
theorem g_next (h : nx σ H) : tNext ⟨nx, rt, bk, ct⟩ σ H := h
theorem g_asg {i : Nat} (h : te σ H fun x H1 => nx (σ.set i (some x)) H1) : tAsg te (gName i) ⟨nx, rt, bk, ct⟩ σ H := h
theorem g_set {i : Nat} {P : L2.St → Hp → Prop} (s : SetS σ i x σ') (h : P σ' H) : P (σ.set i (some x)) H := by rw [s.eq]; exact h
theorem g_ret (h : te σ H rt) : tRet te ⟨nx, rt, bk, ct⟩ σ H := h
theorem g_retN (h : rt .non H) : tRetN ⟨nx, rt, bk, ct⟩ σ H := h
theorem g_drop (h : te σ H fun _ H1 => nx σ H1) : tDrop te ⟨nx, rt, bk, ct⟩ σ H := h
theorem g_if (h : c σ H fun b H1 => if b = true then t ⟨nx, rt, bk, ct⟩ σ H1 else u ⟨nx, rt, bk, ct⟩ σ H1) : tIfS c t u ⟨nx, rt, bk, ct⟩ σ H := h
theorem g_var {i : Nat} (h : σ[i]? = some (some v)) (q : Q v H) : tVar i σ H Q := ⟨v, h, q⟩
theorem g_c (q : Q v H) : tC v σ H Q := q
theorem g_op {r : R2} (h : ta σ H fun x H1 => tb σ H1 fun y H2 => r x y H2 Q) : tOp r ta tb σ H Q := h
theorem g_un {r : V → Hp → VK → Prop} (h : ta σ H fun x H1 => r x H1 Q) : tUn r ta σ H Q := h
theorem g_I0 {g : Int → Int → V} (q : Q (g i j) H) : rI0 g (.int i) (.int j) H Q := ⟨i, j, rfl, rfl, q⟩
theorem g_I {D : Int → Int → Prop} {g : Int → Int → V} (d : D i j) (q : Q (g i j) H) : rI D g (.int i) (.int j) H Q := ⟨i, j, rfl, rfl, d, q⟩
theorem g_U {g : Int → V} (q : Q (g i) H) : rU g (.int i) H Q := ⟨i, rfl, q⟩
theorem g_eqI (q : Q (.bl (decide (i = j))) H) : rEq (.int i) (.int j) H Q := ⟨rfl, by
  have e : decide (V.int i = V.int j) = decide (i = j) := by rw [dec_int]; rfl
  rw [e]; exact q⟩
theorem g_neI (q : Q (.bl (!decide (i = j))) H) : rNe (.int i) (.int j) H Q := ⟨rfl, by
  have e : decide (V.int i = V.int j) = decide (i = j) := by rw [dec_int]; rfl
  rw [e]; exact q⟩
theorem g_test {Q : Bool → Hp → Prop} (h : te σ H (kB Q)) : tTest te σ H Q := h
theorem g_tB {Q : Bool → Hp → Prop} (h : te σ H (kB Q)) : tB te σ H Q := h
theorem g_kb {Q : Bool → Hp → Prop} {k : Bool} (q : Q k H) : kB Q (.bl k) H := ⟨k, rfl, q⟩
theorem g_kand {k : Bool} (q : if k = true then tb σ H Q else Q (.bl false) H) : kAnd Q tb σ (.bl k) H := ⟨k, rfl, q⟩
theorem g_kor {k : Bool} (q : if k = true then Q (.bl true) H else tb σ H Q) : kOr Q tb σ (.bl k) H := ⟨k, rfl, q⟩
theorem g_knot {k : Bool} (q : Q (.bl (!k)) H) : kNot Q (.bl k) H := ⟨k, rfl, q⟩
theorem g_tnot {Q : Bool → Hp → Prop} (h : c σ H fun k H1 => Q (!k) H1) : tNot c σ H Q := h
theorem g_tand {d : TT} {Q : Bool → Hp → Prop} (h : c σ H fun k H1 => if k = true then d σ H1 Q else Q false H1) : tAnd c d σ H Q := h
theorem g_tor {d : TT} {Q : Bool → Hp → Prop} (h : c σ H fun k H1 => if k = true then Q true H1 else d σ H1 Q) : tOr c d σ H Q := h
theorem g_andV (h : ta σ H (kAnd Q tb σ)) : tAndV ta tb σ H Q := h
theorem g_orV (h : ta σ H (kOr Q tb σ)) : tOrV ta tb σ H Q := h
theorem g_notV (h : ta σ H (kNot Q)) : tNotV ta σ H Q := h
theorem g_ifE (h : c σ H fun k H1 => if k = true then ta σ H1 Q else tb σ H1 Q) : tIf c ta tb σ H Q := h
theorem g_nil {Q : List V → Hp → Prop} (q : Q [] H) : tNil σ H Q := q
theorem g_cons {tr : TA} {Q : List V → Hp → Prop} (h : ta σ H fun x H1 => tr σ H1 fun xs H2 => Q (x :: xs) H2) : tCons ta tr σ H Q := h
theorem g_cb {r : List V → Hp → VK → Prop} {tr : TA} (h : tr σ H fun vs H1 => r vs H1 Q) : tCB r tr σ H Q := h
theorem g_call {sp : Sp} {E : XK} {tr : TA} (h : tr σ H fun vs H1 => sp vs H1 Q E) : tCall sp [] E tr σ H Q := by
  have e : (fun (vs : List V) (H1 : Hp) => sp (vs ++ []) H1 Q E) = fun vs H1 => sp vs H1 Q E := by
    funext vs H1; rw [List.append_nil]
  show tr σ H fun vs H1 => sp (vs ++ []) H1 Q E
  rw [e]; exact h
theorem g_lst {tr : TA} (h : tr σ H (kLst Q)) : tLst tr σ H Q := h
theorem g_tup {tr : TA} (h : tr σ H (kTup Q)) : tTup tr σ H Q := h
theorem line_of {n : Nat} (h : Nat.ble n 1000 = true) : n ≤ sizeLine := Nat.le_trans (Nat.le_of_ble_eq_true h) (Nat.le_of_lt (small1000 (Nat.le_refl _)))
theorem g_klst {H0 : Hp} {M : Addr → Prop} {l : List Ent} {xs : List V} (S : Sh H0 M H l) (hn : Nat.ble xs.length 1000 = true) (q : ∀ p H', H p = none → Sh H0 M H' ((p, .lst xs, true) :: l) → Q (.ref p) H') : kLst Q xs H := ⟨line_of hn, fun p hp => q p _ hp (S.new hp)⟩
theorem g_ktup {H0 : Hp} {M : Addr → Prop} {l : List Ent} {xs : List V} (S : Sh H0 M H l) (hn : Nat.ble xs.length 1000 = true) (q : ∀ p H', H p = none → Sh H0 M H' ((p, .tup xs, true) :: l) → Q (.ref p) H') : kTup Q xs H := ⟨line_of hn, fun p hp => q p _ hp (S.new hp)⟩
theorem g_fld (h : ta σ H (kFld K f Q)) : tFld K ta f σ H Q := h
theorem g_kfld (ho : H a = some (.ins C dx fs)) (hc : Cls K C) (hn : NoAttr K C f) (hl : fs.lookup f = some v) (q : Q v H) : kFld K f Q (.ref a) H :=
  ⟨a, C, dx, fs, v, rfl, ho, hc, hn, hl, q⟩
theorem g_sfld {tv : TE} (h : tv σ H fun y H1 => ta σ H1 (kSFld K f (nx σ) y)) : sFld K ta tv f ⟨nx, rt, bk, ct⟩ σ H := h
theorem g_ksfld {H0 : Hp} {M : Addr → Prop} {l l' : List Ent} {P : Hp → Prop} (S : Sh H0 M H l) (r : Rep l a (.ins C dx fs) (.ins C dx (putF f y fs)) l') (hc : Cls K C) (hn : NoAttr K C f) (hl : fs.length < 1000) (q : ∀ H', Sh H0 M H' l' → P H') : kSFld K f P y (.ref a) H :=
  ⟨a, C, dx, fs, rfl, S.has _ r.mem, hc, hn, hl, q _ (S.put r)⟩
theorem g_ixL {p : Addr} {xs : List V} (h : H p = some (.lst xs)) (ha : atI xs i = some v) (q : Q v H) : rIxL K (.ref p) (.int i) H Q := ⟨p, xs, i, v, rfl, rfl, SqL.of h, ha, q⟩
theorem g_ixQ {p : Addr} {xs : List V} (h : SqL K H p xs) (ha : atI xs i = some v) (q : Q v H) : rIxL K (.ref p) (.int i) H Q := ⟨p, xs, i, v, rfl, rfl, h, ha, q⟩
theorem g_sub {to ti : TE} {s : TSet} (h : te σ H fun x H1 => to σ H1 fun o H2 => ti σ H2 fun i H3 => s o i x H3 fun H4 => nx σ H4) : tAsg te (gSub to ti s) ⟨nx, rt, bk, ct⟩ σ H := h
theorem g_setL {H0 : Hp} {M : Addr → Prop} {l l' : List Ent} {P : Hp → Prop} {p : Addr} {xs : List V} {j : Nat} (S : Sh H0 M H l) (r : Rep l p (.lst xs) (.lst (xs.set j v)) l') (hj : ixN xs.length i = some j) (q : ∀ H', Sh H0 M H' l' → P H') :
    rSetL (.ref p) (.int i) v H P := ⟨p, xs, i, j, rfl, rfl, S.has _ r.mem, hj, q _ (S.put r)⟩
theorem g_par {i j : Nat} {tr : TA} (h : tr σ H (kPar nx σ i j)) : tPar i j tr ⟨nx, rt, bk, ct⟩ σ H := h
theorem g_kpar {i j : Nat} {σ2 : L2.St} (s : SetS σ i x σ') (s2 : SetS σ' j y σ2) (q : nx σ2 H) : kPar nx σ i j [x, y] H := ⟨x, y, rfl, by rw [s.eq, s2.eq]; exact q⟩
end

/-! the slots at the entry -/
inductive Ent0 : List Str → List V → L2.St → Prop where
  | nil : Ent0 [] [] []
  | val {x : Str} {N : List Str} {v : V} {vs : List V} {σ : L2.St} : Ent0 N vs σ → Ent0 (x :: N) (v :: vs) (some v :: σ)
  | non {x : Str} {N : List Str} {σ : L2.St} : Ent0 N [] σ → Ent0 (x :: N) [] (none :: σ)
theorem Ent0.eq {N : List Str} {vs : List V} {σ : L2.St} (h : Ent0 N vs σ) : L2.start N vs = σ := by
  induction h with
  | nil => rfl
  | @val x N v vs σ _ ih =>
    have e : (x :: N).length - (v :: vs).length = N.length - vs.length := by simp
    unfold L2.start at ih ⊢
    rw [e, List.map_cons, List.cons_append, ih]
  | @non x N σ _ ih =>
    unfold L2.start at ih ⊢
    simp only [List.map_nil, List.nil_append, List.length_cons, List.length_nil, Nat.sub_zero, List.replicate_succ] at ih ⊢
    rw [ih]
theorem g_start {N : List Str} {vs : List V} {σ : L2.St} {P : L2.St → Hp → Prop} {H : Hp} (h : Ent0 N vs σ) (q : P σ H) : P (L2.start N vs) H := by rw [h.eq]; exact q

theorem cdivw {i j : Int} (h1 : 1 ≤ j) (h2 : j ≤ 10 ^ 60) : CDivW i j := by
  refine wide_div (b := 200) (by omega) ?_ (by decide) (by decide)
  have e : ((j.natAbs : Nat) : Int) = j := Int.natAbs_of_nonneg (by omega)
  have e2 : ((10 : Int) ^ 60) < 2 ^ 200 := by decide
  have h : ((j.natAbs : Nat) : Int) < ((2 ^ 200 : Nat) : Int) := by
    rw [e]
    exact Int.lt_of_le_of_lt h2 (by decide)
  exact Int.ofNat_lt.mp h
/-! built-ins by named readings -/
def rInt1 : List V → Hp → VK → Prop := fun xs H Q => (∃ i, xs = [.int i] ∧ Q (.int i) H) ∨ ∃ k, xs = [.bl k] ∧ Q (.int (if k then 1 else 0)) H
def rAbs1 : List V → Hp → VK → Prop := fun xs H Q => ∃ i, xs = [.int i] ∧ Q (.int (if i < 0 then -i else i)) H
def rMaxI : List V → Hp → VK → Prop := fun xs H Q => ∃ i j, xs = [.int i, .int j] ∧ Q (.int (if j > i then j else i)) H
def rMinI : List V → Hp → VK → Prop := fun xs H Q => ∃ i j, xs = [.int i, .int j] ∧ Q (.int (if j < i then j else i)) H
def rLenQ (K : PySem.W.Frag) : List V → Hp → VK → Prop := fun xs H Q => ∃ p ys, xs = [.ref p] ∧ (SqL K H p ys ∨ SqT K H p ys) ∧ Q (.int ys.length) H
section
variable {X : Cx} {H : Hp} {Q : VK} {i j : Int} {K : PySem.W.Frag} {p : Addr} {xs : List V}
theorem cl_int : CallR X (.type "int") rInt1 := call_int1
theorem cl_abs : CallR X (.builtin "abs") rAbs1 := call_abs
theorem cl_max (hc : X.calm = true) : CallR X (.builtin "max") rMaxI := call_max2 hc
theorem cl_min (hc : X.calm = true) : CallR X (.builtin "min") rMinI := call_min2 hc
theorem cl_len : CallR X (.builtin "len") (rLenQ X.K) := call_len_seq
theorem g_pow10_2 (q : Q (.int 100) H) : rI CPow (fun i j => .int (i ^ j.toNat)) (.int 10) (.int 2) H Q := by
  refine ⟨10, 2, rfl, rfl, ⟨by decide, by decide, by decide⟩, ?_⟩
  have e : ((10 : Int) ^ (2 : Int).toNat) = 100 := by decide
  show Q (.int ((10 : Int) ^ (2 : Int).toNat)) H
  rw [e]; exact q
theorem g_pow10_3 (q : Q (.int 1000) H) : rI CPow (fun i j => .int (i ^ j.toNat)) (.int 10) (.int 3) H Q := by
  refine ⟨10, 3, rfl, rfl, ⟨by decide, by decide, by decide⟩, ?_⟩
  have e : ((10 : Int) ^ (3 : Int).toNat) = 1000 := by decide
  show Q (.int ((10 : Int) ^ (3 : Int).toNat)) H
  rw [e]; exact q
theorem g_pow10_4 (q : Q (.int 10000) H) : rI CPow (fun i j => .int (i ^ j.toNat)) (.int 10) (.int 4) H Q := by
  refine ⟨10, 4, rfl, rfl, ⟨by decide, by decide, by decide⟩, ?_⟩
  have e : ((10 : Int) ^ (4 : Int).toNat) = 10000 := by decide
  show Q (.int ((10 : Int) ^ (4 : Int).toNat)) H
  rw [e]; exact q
theorem g_pow10_5 (q : Q (.int 100000) H) : rI CPow (fun i j => .int (i ^ j.toNat)) (.int 10) (.int 5) H Q := by
  refine ⟨10, 5, rfl, rfl, ⟨by decide, by decide, by decide⟩, ?_⟩
  have e : ((10 : Int) ^ (5 : Int).toNat) = 100000 := by decide
  show Q (.int ((10 : Int) ^ (5 : Int).toNat)) H
  rw [e]; exact q
theorem g_pow10_6 (q : Q (.int 1000000) H) : rI CPow (fun i j => .int (i ^ j.toNat)) (.int 10) (.int 6) H Q := by
  refine ⟨10, 6, rfl, rfl, ⟨by decide, by decide, by decide⟩, ?_⟩
  have e : ((10 : Int) ^ (6 : Int).toNat) = 1000000 := by decide
  show Q (.int ((10 : Int) ^ (6 : Int).toNat)) H
  rw [e]; exact q
theorem g_pow10_7 (q : Q (.int 10000000) H) : rI CPow (fun i j => .int (i ^ j.toNat)) (.int 10) (.int 7) H Q := by
  refine ⟨10, 7, rfl, rfl, ⟨by decide, by decide, by decide⟩, ?_⟩
  have e : ((10 : Int) ^ (7 : Int).toNat) = 10000000 := by decide
  show Q (.int ((10 : Int) ^ (7 : Int).toNat)) H
  rw [e]; exact q
theorem g_pow10_8 (q : Q (.int 100000000) H) : rI CPow (fun i j => .int (i ^ j.toNat)) (.int 10) (.int 8) H Q := by
  refine ⟨10, 8, rfl, rfl, ⟨by decide, by decide, by decide⟩, ?_⟩
  have e : ((10 : Int) ^ (8 : Int).toNat) = 100000000 := by decide
  show Q (.int ((10 : Int) ^ (8 : Int).toNat)) H
  rw [e]; exact q
theorem g_pow10_9 (q : Q (.int 1000000000) H) : rI CPow (fun i j => .int (i ^ j.toNat)) (.int 10) (.int 9) H Q := by
  refine ⟨10, 9, rfl, rfl, ⟨by decide, by decide, by decide⟩, ?_⟩
  have e : ((10 : Int) ^ (9 : Int).toNat) = 1000000000 := by decide
  show Q (.int ((10 : Int) ^ (9 : Int).toNat)) H
  rw [e]; exact q
theorem g_pow10_10 (q : Q (.int 10000000000) H) : rI CPow (fun i j => .int (i ^ j.toNat)) (.int 10) (.int 10) H Q := by
  refine ⟨10, 10, rfl, rfl, ⟨by decide, by decide, by decide⟩, ?_⟩
  have e : ((10 : Int) ^ (10 : Int).toNat) = 10000000000 := by decide
  show Q (.int ((10 : Int) ^ (10 : Int).toNat)) H
  rw [e]; exact q
theorem g_pow10_11 (q : Q (.int 100000000000) H) : rI CPow (fun i j => .int (i ^ j.toNat)) (.int 10) (.int 11) H Q := by
  refine ⟨10, 11, rfl, rfl, ⟨by decide, by decide, by decide⟩, ?_⟩
  have e : ((10 : Int) ^ (11 : Int).toNat) = 100000000000 := by decide
  show Q (.int ((10 : Int) ^ (11 : Int).toNat)) H
  rw [e]; exact q
theorem g_pow10_12 (q : Q (.int 1000000000000) H) : rI CPow (fun i j => .int (i ^ j.toNat)) (.int 10) (.int 12) H Q := by
  refine ⟨10, 12, rfl, rfl, ⟨by decide, by decide, by decide⟩, ?_⟩
  have e : ((10 : Int) ^ (12 : Int).toNat) = 1000000000000 := by decide
  show Q (.int ((10 : Int) ^ (12 : Int).toNat)) H
  rw [e]; exact q
theorem g_pow10_13 (q : Q (.int 10000000000000) H) : rI CPow (fun i j => .int (i ^ j.toNat)) (.int 10) (.int 13) H Q := by
  refine ⟨10, 13, rfl, rfl, ⟨by decide, by decide, by decide⟩, ?_⟩
  have e : ((10 : Int) ^ (13 : Int).toNat) = 10000000000000 := by decide
  show Q (.int ((10 : Int) ^ (13 : Int).toNat)) H
  rw [e]; exact q
theorem g_pow10_14 (q : Q (.int 100000000000000) H) : rI CPow (fun i j => .int (i ^ j.toNat)) (.int 10) (.int 14) H Q := by
  refine ⟨10, 14, rfl, rfl, ⟨by decide, by decide, by decide⟩, ?_⟩
  have e : ((10 : Int) ^ (14 : Int).toNat) = 100000000000000 := by decide
  show Q (.int ((10 : Int) ^ (14 : Int).toNat)) H
  rw [e]; exact q
theorem g_pow10_15 (q : Q (.int 1000000000000000) H) : rI CPow (fun i j => .int (i ^ j.toNat)) (.int 10) (.int 15) H Q := by
  refine ⟨10, 15, rfl, rfl, ⟨by decide, by decide, by decide⟩, ?_⟩
  have e : ((10 : Int) ^ (15 : Int).toNat) = 1000000000000000 := by decide
  show Q (.int ((10 : Int) ^ (15 : Int).toNat)) H
  rw [e]; exact q
theorem g_pow10_16 (q : Q (.int 10000000000000000) H) : rI CPow (fun i j => .int (i ^ j.toNat)) (.int 10) (.int 16) H Q := by
  refine ⟨10, 16, rfl, rfl, ⟨by decide, by decide, by decide⟩, ?_⟩
  have e : ((10 : Int) ^ (16 : Int).toNat) = 10000000000000000 := by decide
  show Q (.int ((10 : Int) ^ (16 : Int).toNat)) H
  rw [e]; exact q
theorem g_pow10_17 (q : Q (.int 100000000000000000) H) : rI CPow (fun i j => .int (i ^ j.toNat)) (.int 10) (.int 17) H Q := by
  refine ⟨10, 17, rfl, rfl, ⟨by decide, by decide, by decide⟩, ?_⟩
  have e : ((10 : Int) ^ (17 : Int).toNat) = 100000000000000000 := by decide
  show Q (.int ((10 : Int) ^ (17 : Int).toNat)) H
  rw [e]; exact q
theorem g_pow10_18 (q : Q (.int 1000000000000000000) H) : rI CPow (fun i j => .int (i ^ j.toNat)) (.int 10) (.int 18) H Q := by
  refine ⟨10, 18, rfl, rfl, ⟨by decide, by decide, by decide⟩, ?_⟩
  have e : ((10 : Int) ^ (18 : Int).toNat) = 1000000000000000000 := by decide
  show Q (.int ((10 : Int) ^ (18 : Int).toNat)) H
  rw [e]; exact q
theorem g_pow10_19 (q : Q (.int 10000000000000000000) H) : rI CPow (fun i j => .int (i ^ j.toNat)) (.int 10) (.int 19) H Q := by
  refine ⟨10, 19, rfl, rfl, ⟨by decide, by decide, by decide⟩, ?_⟩
  have e : ((10 : Int) ^ (19 : Int).toNat) = 10000000000000000000 := by decide
  show Q (.int ((10 : Int) ^ (19 : Int).toNat)) H
  rw [e]; exact q
theorem g_pow10_20 (q : Q (.int 100000000000000000000) H) : rI CPow (fun i j => .int (i ^ j.toNat)) (.int 10) (.int 20) H Q := by
  refine ⟨10, 20, rfl, rfl, ⟨by decide, by decide, by decide⟩, ?_⟩
  have e : ((10 : Int) ^ (20 : Int).toNat) = 100000000000000000000 := by decide
  show Q (.int ((10 : Int) ^ (20 : Int).toNat)) H
  rw [e]; exact q
theorem g_pow10_21 (q : Q (.int 1000000000000000000000) H) : rI CPow (fun i j => .int (i ^ j.toNat)) (.int 10) (.int 21) H Q := by
  refine ⟨10, 21, rfl, rfl, ⟨by decide, by decide, by decide⟩, ?_⟩
  have e : ((10 : Int) ^ (21 : Int).toNat) = 1000000000000000000000 := by decide
  show Q (.int ((10 : Int) ^ (21 : Int).toNat)) H
  rw [e]; exact q
theorem g_pow10_22 (q : Q (.int 10000000000000000000000) H) : rI CPow (fun i j => .int (i ^ j.toNat)) (.int 10) (.int 22) H Q := by
  refine ⟨10, 22, rfl, rfl, ⟨by decide, by decide, by decide⟩, ?_⟩
  have e : ((10 : Int) ^ (22 : Int).toNat) = 10000000000000000000000 := by decide
  show Q (.int ((10 : Int) ^ (22 : Int).toNat)) H
  rw [e]; exact q
theorem g_pow10_23 (q : Q (.int 100000000000000000000000) H) : rI CPow (fun i j => .int (i ^ j.toNat)) (.int 10) (.int 23) H Q := by
  refine ⟨10, 23, rfl, rfl, ⟨by decide, by decide, by decide⟩, ?_⟩
  have e : ((10 : Int) ^ (23 : Int).toNat) = 100000000000000000000000 := by decide
  show Q (.int ((10 : Int) ^ (23 : Int).toNat)) H
  rw [e]; exact q
theorem g_pow10_24 (q : Q (.int 1000000000000000000000000) H) : rI CPow (fun i j => .int (i ^ j.toNat)) (.int 10) (.int 24) H Q := by
  refine ⟨10, 24, rfl, rfl, ⟨by decide, by decide, by decide⟩, ?_⟩
  have e : ((10 : Int) ^ (24 : Int).toNat) = 1000000000000000000000000 := by decide
  show Q (.int ((10 : Int) ^ (24 : Int).toNat)) H
  rw [e]; exact q
theorem g_pow10_25 (q : Q (.int 10000000000000000000000000) H) : rI CPow (fun i j => .int (i ^ j.toNat)) (.int 10) (.int 25) H Q := by
  refine ⟨10, 25, rfl, rfl, ⟨by decide, by decide, by decide⟩, ?_⟩
  have e : ((10 : Int) ^ (25 : Int).toNat) = 10000000000000000000000000 := by decide
  show Q (.int ((10 : Int) ^ (25 : Int).toNat)) H
  rw [e]; exact q
theorem g_pow10_26 (q : Q (.int 100000000000000000000000000) H) : rI CPow (fun i j => .int (i ^ j.toNat)) (.int 10) (.int 26) H Q := by
  refine ⟨10, 26, rfl, rfl, ⟨by decide, by decide, by decide⟩, ?_⟩
  have e : ((10 : Int) ^ (26 : Int).toNat) = 100000000000000000000000000 := by decide
  show Q (.int ((10 : Int) ^ (26 : Int).toNat)) H
  rw [e]; exact q
theorem g_pow10_27 (q : Q (.int 1000000000000000000000000000) H) : rI CPow (fun i j => .int (i ^ j.toNat)) (.int 10) (.int 27) H Q := by
  refine ⟨10, 27, rfl, rfl, ⟨by decide, by decide, by decide⟩, ?_⟩
  have e : ((10 : Int) ^ (27 : Int).toNat) = 1000000000000000000000000000 := by decide
  show Q (.int ((10 : Int) ^ (27 : Int).toNat)) H
  rw [e]; exact q
theorem g_pow10_28 (q : Q (.int 10000000000000000000000000000) H) : rI CPow (fun i j => .int (i ^ j.toNat)) (.int 10) (.int 28) H Q := by
  refine ⟨10, 28, rfl, rfl, ⟨by decide, by decide, by decide⟩, ?_⟩
  have e : ((10 : Int) ^ (28 : Int).toNat) = 10000000000000000000000000000 := by decide
  show Q (.int ((10 : Int) ^ (28 : Int).toNat)) H
  rw [e]; exact q
theorem g_pow10_29 (q : Q (.int 100000000000000000000000000000) H) : rI CPow (fun i j => .int (i ^ j.toNat)) (.int 10) (.int 29) H Q := by
  refine ⟨10, 29, rfl, rfl, ⟨by decide, by decide, by decide⟩, ?_⟩
  have e : ((10 : Int) ^ (29 : Int).toNat) = 100000000000000000000000000000 := by decide
  show Q (.int ((10 : Int) ^ (29 : Int).toNat)) H
  rw [e]; exact q
theorem g_pow10_30 (q : Q (.int 1000000000000000000000000000000) H) : rI CPow (fun i j => .int (i ^ j.toNat)) (.int 10) (.int 30) H Q := by
  refine ⟨10, 30, rfl, rfl, ⟨by decide, by decide, by decide⟩, ?_⟩
  have e : ((10 : Int) ^ (30 : Int).toNat) = 1000000000000000000000000000000 := by decide
  show Q (.int ((10 : Int) ^ (30 : Int).toNat)) H
  rw [e]; exact q
theorem g_int (q : Q (.int i) H) : rInt1 [.int i] H Q := .inl ⟨i, rfl, q⟩
theorem g_intb {k : Bool} (q : Q (.int (if k then 1 else 0)) H) : rInt1 [.bl k] H Q := .inr ⟨k, rfl, q⟩
theorem g_abs (q : Q (.int (if i < 0 then -i else i)) H) : rAbs1 [.int i] H Q := ⟨i, rfl, q⟩
theorem g_max (q : Q (.int (if j > i then j else i)) H) : rMaxI [.int i, .int j] H Q := ⟨i, j, rfl, q⟩
theorem g_min (q : Q (.int (if j < i then j else i)) H) : rMinI [.int i, .int j] H Q := ⟨i, j, rfl, q⟩
theorem g_lenL (h : SqL K H p xs) (q : Q (.int xs.length) H) : rLenQ K [.ref p] H Q := ⟨p, xs, rfl, .inl h, q⟩
theorem g_lenT (h : SqT K H p xs) (q : Q (.int xs.length) H) : rLenQ K [.ref p] H Q := ⟨p, xs, rfl, .inr h, q⟩
theorem g_lenl (h : H p = some (.lst xs)) (q : Q (.int xs.length) H) : rLenQ K [.ref p] H Q := ⟨p, xs, rfl, .inl (SqL.of h), q⟩
theorem g_lent (h : H p = some (.tup xs)) (q : Q (.int xs.length) H) : rLenQ K [.ref p] H Q := ⟨p, xs, rfl, .inr (.inl (.inl h)), q⟩
end
theorem g_yes {A B : Prop} {k : Bool} (h : k = true) (a : A) : if k = true then A else B := by rw [if_pos h]; exact a
theorem g_no {A B : Prop} {k : Bool} (h : k = false) (b : B) : if k = true then A else B := by rw [h]; exact iteF b
theorem g_two {A B : Prop} {k : Bool} (a : k = true → A) (b : k = false → B) : if k = true then A else B := by
  cases k with
  | true => exact iteT (a rfl)
  | false => exact iteF (b rfl)

/-! a def by its promise, its parameters all given -/
structure Dn (P : Program) (w : World) (K : PySem.W.Frag) (mg : Str → Option Value) (base : Heap) (k : Nat) (a : Addr) (ps : List Str) (sp : Sp) : Prop where
  ex : ∃ fd, FnOk P w K mg base (L2.CX P w) k a fd ps sp ∧ Binds K fd ps []
  kp : PySem.W.keepIn K (.ref a) = true
section
variable {X : Cx} {k : Nat} {f C : Addr} {ps : List Str} {sp : Sp} {E : XK} {x m : Str} {p pos apos : Pos} {e o : Expr} {es : List Expr} {ta : TE} {t : TA}
theorem pe_dn (D : Dn X.prog X.w X.K X.mg X.base k f ps sp) (hr : Room k X.A) (hg : Gl X x) (hm : X.mg x = some (.ref f)) (hx : Passes (L2.CX X.prog X.w) X E) (ha : PA X (e :: es) t) (hdb : (x == ("__debug__" : Str)) = false := by decide)
    (he : starEach (e :: es) X.env = (false, eval e X.env) :: starEach es X.env := by rfl) (hpl : (backTo pos (starEach es X.env)).any (·.1) = false := by rfl) : PE X (.Call (.Name x p) (e :: es) [] pos) (tCall sp [] E t) := by
  obtain ⟨fd, F, b⟩ := D.ex
  exact pe_call F hr hg hm D.kp b .nil hx ha hdb he hpl
/-- a class made by its __init__ -/
structure Mn (P : Program) (w : World) (K : PySem.W.Frag) (mg : Str → Option Value) (base : Heap) (k : Nat) (C : Addr) (ps : List Str) (sp : Sp) : Prop where
  ex : ∃ f fd, FnOk P w K mg base (L2.CX P w) k f fd ps sp ∧ Binds K fd ps [] ∧ Mk K C f
theorem pe_mn (D : Mn X.prog X.w X.K X.mg X.base k C ps sp) (hr : Room (k + 1) X.A) (hg : Gl X x) (hm : X.mg x = some (.ref C)) (hx : Passes (L2.CX X.prog X.w) X E) (ha : PA X (e :: es) t) (hdb : (x == ("__debug__" : Str)) = false := by decide)
    (he : starEach (e :: es) X.env = (false, eval e X.env) :: starEach es X.env := by rfl) (hpl : (backTo pos (starEach es X.env)).any (·.1) = false := by rfl) : PE X (.Call (.Name x p) (e :: es) [] pos) (tMake C sp [] E t) := by
  obtain ⟨f, fd, F, b, M⟩ := D.ex
  exact pe_make M F hr hg hm b .nil hx ha hdb he hpl
end
end AF
/-! operators, properties and methods of own classes -/
namespace AF
open PySem PySem.Spec PyProof.Rows L2
open PySem.W (Looks InstAt findIn isFn subIn selfFirst notFirst looks_findIn looks_subIn)

/-- of what type a value is -/
inductive Kd (H : Hp) : V → Value → Prop where
  | non : Kd H .non (.type "NoneType")
  | bl (b : Bool) : Kd H (.bl b) (.type "bool")
  | int (i : Int) : Kd H (.int i) (.type "int")
  | str (z : Str) : Kd H (.str z) (.type "str")
  | flt (b : UInt64) : Kd H (.flt b) (.type "float")
  | ins {a C dx : Addr} {fs : List (Str × V)} (e : H a = some (.ins C dx fs)) : Kd H (.ref a) (.ref C)
  | lst {a : Addr} {xs : List V} (e : H a = some (.lst xs)) : Kd H (.ref a) (.type "list")
  | tup {a : Addr} {xs : List V} (e : H a = some (.tup xs)) : Kd H (.ref a) (.type "tuple")
  | dK {a : Addr} {kvs : List (Key × V)} (e : H a = some (.dK kvs)) : Kd H (.ref a) (.type "dict")

section
variable {X : Cx} {pins : List (Addr × Obj)} {σ : L2.St} {H : Hp} {s : Shared} {M : Model}
theorem Kd.looks {y : V} {u t : Value} (I : Inv X pins σ H s) (ry : RelV y u) (k : Kd H y t) : Looks M s.heap (typeOf u) t := by
  cases k with
  | non => cases ry; exact .now
  | bl b => cases ry; exact .now
  | int i => obtain ⟨_, rfl⟩ := ry; exact .now
  | str z => obtain ⟨_, rfl⟩ := ry; exact .now
  | flt b => obtain ⟨_, rfl⟩ := ry; exact .now
  | ins e =>
    cases ry
    obtain ⟨mA, J, _⟩ := ins_get I.hok e
    obtain ⟨od, J, _⟩ := J.look
    exact J.type
  | @lst a xs e =>
    cases ry
    obtain ⟨_, _, n, _, h1⟩ := (show ObjOk X.prog X.w H s.heap a (.lst xs) from I.hok a _ e)
    exact (Looks.ld (part := none) h1).andThen .now
  | @tup a xs e =>
    cases ry
    obtain ⟨_, _, _, o, h1, h2, _⟩ := (show ObjOk X.prog X.w H s.heap a (.tup xs) from I.hok a _ e)
    have := (Looks.ld (M := M) (part := none) h1).andThen (f := fun o => pure o.cls) .now
    rw [h2] at this
    exact this
  | @dK a kvs e =>
    cases ry
    obtain ⟨_, _, vs, _, o, es, ep, h1, h2, _⟩ := (show ObjOk X.prog X.w H s.heap a (.dK kvs) from I.hok a _ e)
    have := (Looks.ld (M := M) (part := none) h1).andThen (f := fun o => pure o.cls) .now
    rw [h2.1] at this
    exact this
end

/-! binary operators of an own class, on the left -/
structure Bin (K : PySem.W.Frag) (op : Operator) (C f : Addr) : Prop where
  hc : selfFirst K C = true
  hs : findIn K (.ref C) (PySem.dunder op.info.2) = some (some (.ref f))
  hf : isFn K (.ref f) = true
  hr : ∃ rc, findIn K (.ref C) (dunderR op.info.2) = some rc ∧ (rc = none ∨ ∃ g : Addr, rc = some (.ref g))
/-- a built-in type beside it -/
structure BinT (K : PySem.W.Frag) (op : Operator) (C : Addr) (T : String) : Prop where
  h1 : ∃ fo, findIn K (.type T) (PySem.dunder op.info.2) = some fo
  h2 : ∃ ro, findIn K (.type T) (dunderR op.info.2) = some ro
  hs : subIn K (.type T) (.ref C) = some false
def Beside (K : PySem.W.Frag) (op : Operator) (C : Addr) (t : Value) : Prop := t = .ref C ∨ ∃ T, t = .type T ∧ BinT K op C T
section
variable {prog : Program} {w : World} {A : Around} {E : Value → Shared → Prop} {s : Shared} {K : PySem.W.Frag} {x C f : Addr} {ox : Obj} {od : Option Obj}
theorem bin_left {op : Operator} {b t : Value} {Q : Value → Shared → Prop} (X : K.In s.heap) (I : InstAt s.heap x ox C od) (hb : Looks (model prog w) s.heap (typeOf b) t) (B : Bin K op C f) (hT : Beside K op C t)
    (h : wpAny (model prog w) A (call (.ref f) [.ref x, b]) (PySem.W.CmpBack Q) E s) : wpAny (model prog w) A (binaryOp op (.ref x) b) Q E s := by
  obtain ⟨cd, rest, hcd, hm⟩ := PySem.W.ksp_first B.hc
  obtain ⟨rc, hrc, hrp⟩ := B.hr
  have hs := B.hs
  rcases hi : op.info with ⟨sym, nm⟩
  rw [hi] at hs hrc
  dsimp only at hs hrc
  have one := PySem.W.ksp_try X I hs B.hf h
  rcases hT with e | ⟨T, e, BT⟩
  · subst e
    obtain ⟨hh, g, d, tt, os⟩ := s
    have la : Looks (model prog w) hh (typeOf (.ref x)) (.ref C) := I.type
    have lf : Looks (model prog w) hh (fillsNumberSlot (.ref C) nm) true := PySem.W.fills_K X hcd hm hs
    simp only [binaryOp, hi]
    refine wpAny_holding (wpAny_bind ?_)
    unfold binaryOp1
    refine wpAny_bind (la.at (wpAny_bind (hb.at (wpAny_bind (lf.at ?_)))))
    simp only [beq_self_eq_true, if_true]
    ksp_lk
    refine wpAny_mono one (fun r s' hr' => ?_) fun _ _ e => e
    obtain ⟨v, rfl, hq⟩ := hr'
    ksp_lk
    exact hq
  · subst e
    obtain ⟨fo, h1⟩ := BT.h1
    obtain ⟨ro, h2⟩ := BT.h2
    have hsub := BT.hs
    rw [hi] at h1 h2
    dsimp only at h1 h2
    obtain ⟨hh, g, d, tt, os⟩ := s
    have la : Looks (model prog w) hh (typeOf (.ref x)) (.ref C) := I.type
    have lf : Looks (model prog w) hh (fillsNumberSlot (.ref C) nm) true := PySem.W.fills_K X hcd hm hs
    have lg : Looks (model prog w) hh (fillsNumberSlot (.type T) nm) ((fo.isSome && !isSeqSlot fo) || (ro.isSome && !isSeqSlot ro)) := PySem.W.ksp_fillsT X h1 h2
    have lsub : Looks (model prog w) hh (isSubtype (.type T) (.ref C)) false := looks_subIn X hsub
    have lpy : Looks (model prog w) hh (numberSlotInPython (.ref C) nm) true := PySem.W.ksp_inPy X hs hrc hrp
    have lpt : Looks (model prog w) hh (numberSlotInPython (.type T) nm) false := Looks.of_pure rfl
    have ltk : Looks (model prog w) hh (typeLookup (.type T) (dunderR nm)) ro := looks_findIn X h2
    generalize ((fo.isSome && !isSeqSlot fo) || (ro.isSome && !isSeqSlot ro)) = right at lg
    have hne : (Value.ref C == Value.type T) = false := Bool.eq_false_iff.mpr fun q => by cases beq_iff_eq.mp q
    simp only [binaryOp, hi]
    refine wpAny_holding (wpAny_bind ?_)
    unfold binaryOp1
    refine wpAny_bind (la.at (wpAny_bind (hb.at (wpAny_bind (lf.at ?_)))))
    simp only [hne, Bool.false_eq_true, if_false]
    cases right with
    | false =>
      ksp_lk
      refine wpAny_mono one (fun r s' hr' => ?_) fun _ _ e => e
      obtain ⟨v, rfl, hq⟩ := hr'
      ksp_lk
      exact hq
    | true =>
      ksp_lk
      refine wpAny_mono one (fun r s' hr' => ?_) fun _ _ e => e
      obtain ⟨v, rfl, hq⟩ := hr'
      ksp_lk
      exact hq
end

/-! the readings -/
section
variable {X : Cx} {pins : List (Addr × Obj)} {σ : L2.St} {H : Hp} {s : Shared} {k : Nat} {f C : Addr} {ps : List Str} {sp : Sp} {E : XK} {Q : VK}
/-- behind a call of an own operator's def -/
theorem cmpBack_of {u : Value} {s' : Shared} (h : EP X pins σ Q u s') : PySem.W.CmpBack (EP X pins σ Q) u s' := by
  obtain ⟨v, H', I, r, q⟩ := id h
  cases v with
  | non => cases r; exact h
  | bl b => cases r; exact h
  | int i => obtain ⟨_, rfl⟩ := r; exact h
  | str z => obtain ⟨_, rfl⟩ := r; exact h
  | byt b => obtain ⟨_, rfl⟩ := r; exact h
  | flt b => obtain ⟨_, rfl⟩ := r; exact h
  | ref a => cases r; exact h
  | ty n => cases r; exact h
def rOwn (K : PySem.W.Frag) (op : Operator) (C : Addr) (sp : Sp) (E : XK) : R2 := fun x y H Q => ∃ a dx fs t, x = .ref a ∧ H a = some (.ins C dx fs) ∧ Kd H y t ∧ Beside K op C t ∧ sp [x, y] H Q E
theorem op_own {op : Operator} (D : Dn X.prog X.w X.K X.mg X.base k f ps sp) (B : Bin X.K op C f) (hr : Room k X.A) (hx : Passes (L2.CX X.prog X.w) X E) : OpR X (binaryOp op) (rOwn X.K op C sp E) := by
  intro pins s σ H x y v u Q I rx ry h
  obtain ⟨a, dx, fs, t, rfl, ha, kd, bs, q⟩ := h
  cases rx
  obtain ⟨fd, F, b⟩ := D.ex
  obtain ⟨mA, J, _⟩ := ins_get I.hok ha
  obtain ⟨od, J, _⟩ := J.look
  refine bin_left I.kIn J (kd.looks I ry) B bs ?_
  exact thn (run_fn (us := [.ref a, u]) (vs := [.ref a, y]) F hr b .nil hx I (.cons rfl (.cons ry .nil)) q) fun v s' z => cmpBack_of z
/-- a comparison by an own def -/
structure Cmp (K : PySem.W.Frag) (op : CmpOp) (C f : Addr) : Prop where
  hs : findIn K (.ref C) (cmpInfo op).2.1 = some (some (.ref f))
  hf : isFn K (.ref f) = true
def rCmp (K : PySem.W.Frag) (C : Addr) (sp : Sp) (E : XK) : R2 := fun x y H Q => ∃ a dx fs t, x = .ref a ∧ H a = some (.ins C dx fs) ∧ Kd H y t ∧ notFirst K C t = true ∧ sp [x, y] H Q E
theorem rich_own {op : CmpOp} (D : Dn X.prog X.w X.K X.mg X.base k f ps sp) (B : Cmp X.K op C f) (hr : Room k X.A) (hx : Passes (L2.CX X.prog X.w) X E) : OpR X (richCompare op) (rCmp X.K C sp E) := by
  intro pins s σ H x y v u Q I rx ry h
  obtain ⟨a, dx, fs, t, rfl, ha, kd, bs, q⟩ := h
  cases rx
  obtain ⟨fd, F, b⟩ := D.ex
  obtain ⟨mA, J, _⟩ := ins_get I.hok ha
  obtain ⟨od, J, _⟩ := J.look
  obtain ⟨m, hF⟩ := I.fr
  refine PySem.W.cmp_K (op := op) hr.units0 hF I.ok.mod.kin J (kd.looks I ry) bs B.hs B.hf ?_
  exact thn (run_fn (us := [.ref a, u]) (vs := [.ref a, y]) F hr b .nil hx I (.cons rfl (.cons ry .nil)) q) fun v s' z => cmpBack_of z
theorem cmp_lt (D : Dn X.prog X.w X.K X.mg X.base k f ps sp) (B : Cmp X.K .Lt C f) (hr : Room k X.A) (hx : Passes (L2.CX X.prog X.w) X E) : OpR X (compareOp .Lt) (rCmp X.K C sp E) := rich_own D B hr hx
theorem cmp_le (D : Dn X.prog X.w X.K X.mg X.base k f ps sp) (B : Cmp X.K .LtE C f) (hr : Room k X.A) (hx : Passes (L2.CX X.prog X.w) X E) : OpR X (compareOp .LtE) (rCmp X.K C sp E) := rich_own D B hr hx
theorem cmp_gt (D : Dn X.prog X.w X.K X.mg X.base k f ps sp) (B : Cmp X.K .Gt C f) (hr : Room k X.A) (hx : Passes (L2.CX X.prog X.w) X E) : OpR X (compareOp .Gt) (rCmp X.K C sp E) := rich_own D B hr hx
theorem cmp_ge (D : Dn X.prog X.w X.K X.mg X.base k f ps sp) (B : Cmp X.K .GtE C f) (hr : Room k X.A) (hx : Passes (L2.CX X.prog X.w) X E) : OpR X (compareOp .GtE) (rCmp X.K C sp E) := rich_own D B hr hx
theorem cmp_eq (D : Dn X.prog X.w X.K X.mg X.base k f ps sp) (B : Cmp X.K .Eq C f) (hr : Room k X.A) (hx : Passes (L2.CX X.prog X.w) X E) : OpR X (compareOp .Eq) (rCmp X.K C sp E) := rich_own D B hr hx
end

/-! properties and methods -/
section
variable {X : Cx} {k : Nat} {f C : Addr} {ps : List Str} {sp : Sp} {E : XK} {x m : Str} {p pos apos : Pos} {e o : Expr} {es : List Expr} {ta : TE} {t : TA}
structure Rn (P : Program) (w : World) (K : PySem.W.Frag) (mg : Str → Option Value) (base : Heap) (k : Nat) (C : Addr) (m : Str) (sp : Sp) : Prop where
  ex : ∃ p g fd ps, PropOf K C m p g ∧ FnOk P w K mg base (L2.CX P w) k g fd ps sp ∧ Binds K fd ps []
  cl : Cls K C
theorem pe_pr (D : Rn X.prog X.w X.K X.mg X.base k C m sp) (hr : Room (k + 1) X.A) (he : PE X e ta) (hab : attributeBase e m X.env (eval e X.env) = eval e X.env := by rfl) : PE X (.Attribute e m pos) (tProp C sp [] E0 ta) := by
  obtain ⟨p, g, fd, ps, hp, F, b⟩ := D.ex
  exact pe_prop he D.cl hp F hr b .nil passL hab
structure Hn (P : Program) (w : World) (K : PySem.W.Frag) (mg : Str → Option Value) (base : Heap) (k : Nat) (C : Addr) (m : Str) (sp : Sp) : Prop where
  ex : ∃ f fd ps, FnOk P w K mg base (L2.CX P w) k f fd ps sp ∧ Binds K fd ps [] ∧ Meth K C m f
  cl : Cls K C
theorem pe_dm {pl : Sem Bool} (D : Hn X.prog X.w X.K X.mg X.base k C m sp) (hr : Room k X.A) (hx : Passes (L2.CX X.prog X.w) X E) (he : PE X o ta) (ha : PA X (e :: es) t)
    (hst : starEach (e :: es) X.env = (false, eval e X.env) :: starEach es X.env := by rfl) (hpl : (backTo pos (starEach es X.env)).any (·.1) = false := by rfl)
    (ht : eval (.Call (.Attribute o m apos) (e :: es) [] pos) X.env = (do
      let ov ← eval o X.env
      standAt apos.atName
      let (f, first) ← holding [ov] (getMethod ov m pl)
      callWith pos f first (backTo pos (starEach (e :: es) X.env)) (backToKw pos (keywordEach [] X.env))) := by rfl) :
    PE X (.Call (.Attribute o m apos) (e :: es) [] pos) (tMeth C m sp [] E ta t) := by
  obtain ⟨f, fd, ps, F, b, M⟩ := D.ex
  exact pe_meth he D.cl M F hr b .nil hx ha hst hpl ht
theorem pe_dm0 {pl : Sem Bool} (D : Hn X.prog X.w X.K X.mg X.base k C m sp) (hr : Room k X.A) (hx : Passes (L2.CX X.prog X.w) X E) (he : PE X o ta)
    (ht : eval (.Call (.Attribute o m apos) [] [] pos) X.env = (do
      let ov ← eval o X.env
      standAt apos.atName
      let (f, first) ← holding [ov] (getMethod ov m pl)
      callWith pos f first (backTo pos (starEach [] X.env)) (backToKw pos (keywordEach [] X.env))) := by rfl) :
    PE X (.Call (.Attribute o m apos) [] [] pos) (tMeth C m sp [] E ta tNil) := by
  obtain ⟨f, fd, ps, F, b, M⟩ := D.ex
  exact pe_meth0 he D.cl M F hr b .nil hx ht
end

/-! steps -/
def kProp (C : Addr) (sp : Sp) (E : XK) (Q : VK) (x : V) (H : Hp) : Prop := ∃ a dx fs, x = .ref a ∧ H a = some (.ins C dx fs) ∧ sp [x] H Q E
def kMeth (C : Addr) (m : Str) (sp : Sp) (E : XK) (t : TA) (σ : L2.St) (Q : VK) (x : V) (H : Hp) : Prop := ∃ a dx fs, x = .ref a ∧ H a = some (.ins C dx fs) ∧ fs.lookup m = none ∧ t σ H fun vs H2 => sp (x :: vs) H2 Q E
def kMake (C : Addr) (sp : Sp) (E : XK) (Q : VK) (vs : List V) (H : Hp) : Prop := ∀ x dx, H x = none → H dx = none → dx ≠ x → sp (.ref x :: vs) (upd (upd H dx (.own x)) x (.ins C dx [])) (fun v H2 => v = .non ∧ Q (.ref x) H2) E
section
variable {σ : L2.St} {H : Hp} {Q : VK} {ta : TE} {tr : TA} {C a dx : Addr} {fs : List (Str × V)} {m : Str} {sp : Sp} {E : XK} {y : V} {K : PySem.W.Frag} {op : Operator} {t : Value}
theorem g_prop (h : ta σ H (kProp C sp E Q)) : tProp C sp [] E ta σ H Q := by
  have e : (fun (x : V) (H1 : Hp) => ∃ a dx fs, x = .ref a ∧ H1 a = some (.ins C dx fs) ∧ sp (.ref a :: []) H1 Q E) = kProp C sp E Q := by
    funext x H1
    refine propext ⟨fun ⟨a, dx, fs, e, h, q⟩ => ⟨a, dx, fs, e, h, by rw [e]; exact q⟩, fun ⟨a, dx, fs, e, h, q⟩ => ⟨a, dx, fs, e, h, by rw [← e]; exact q⟩⟩
  show ta σ H _
  rw [e]; exact h
theorem g_kprop (ho : H a = some (.ins C dx fs)) (q : sp [.ref a] H Q E) : kProp C sp E Q (.ref a) H := ⟨a, dx, fs, rfl, ho, q⟩
theorem g_meth (h : ta σ H (kMeth C m sp E tr σ Q)) : tMeth C m sp [] E ta tr σ H Q := by
  have e : (fun (x : V) (H1 : Hp) => ∃ a dx fs, x = .ref a ∧ H1 a = some (.ins C dx fs) ∧ fs.lookup m = none ∧ tr σ H1 fun vs H2 => sp (x :: (vs ++ [])) H2 Q E) = kMeth C m sp E tr σ Q := by
    funext x H1
    simp only [List.append_nil]
    rfl
  show ta σ H _
  rw [e]; exact h
theorem g_kmeth (ho : H a = some (.ins C dx fs)) (hl : fs.lookup m = none) (q : tr σ H fun vs H2 => sp (.ref a :: vs) H2 Q E) : kMeth C m sp E tr σ Q (.ref a) H := ⟨a, dx, fs, rfl, ho, hl, q⟩
theorem g_make (h : tr σ H (kMake C sp E Q)) : tMake C sp [] E tr σ H Q := by
  have e : (fun (vs : List V) (H1 : Hp) => ∀ x dx, H1 x = none → H1 dx = none → dx ≠ x → sp (.ref x :: (vs ++ [])) (upd (upd H1 dx (.own x)) x (.ins C dx [])) (fun v H2 => v = .non ∧ Q (.ref x) H2) E) = kMake C sp E Q := by
    funext vs H1
    simp only [List.append_nil]
    rfl
  show tr σ H _
  rw [e]; exact h
theorem g_own (ho : H a = some (.ins C dx fs)) (kd : Kd H y t) (b : Beside K op C t) (q : sp [.ref a, y] H Q E) : rOwn K op C sp E (.ref a) y H Q := ⟨a, dx, fs, t, rfl, ho, kd, b, q⟩
theorem g_cmp (ho : H a = some (.ins C dx fs)) (kd : Kd H y t) (b : notFirst K C t = true) (q : sp [.ref a, y] H Q E) : rCmp K C sp E (.ref a) y H Q := ⟨a, dx, fs, t, rfl, ho, kd, b, q⟩
end
end AF
/-! an own operator on the right of an int; != by an own == -/
namespace AF
open PySem PySem.Spec PyProof.Rows L2
open PySem.W (Looks InstAt findIn isFn subIn selfFirst notFirst looks_findIn looks_subIn)

def Declines (y : Addr) : PySem.Spec := fun _ R s => (∃ C dx, s.heap.get? y = some (PySem.W.instObj C dx)) ∧ R (.ok (.ret .notImplemented)) s
theorem add_declines (i : Int) (t : Tok) (y : Addr) : Meets (Builtin.«int.__add__» ⟨[.int i t, .ref y], []⟩) (Declines y) :=
  .of_wp fun prog w A R s h => by
    obtain ⟨hp, g, d, tk, os⟩ := s
    obtain ⟨⟨C, dx, hl⟩, h⟩ := h
    unfold PySem.W.instObj at hl
    wp_walk using AutoSeq1.wpAny_loadPart' hl
    exact ⟨_, rfl, h⟩
theorem sub_declines (i : Int) (t : Tok) (y : Addr) : Meets (Builtin.«int.__sub__» ⟨[.int i t, .ref y], []⟩) (Declines y) :=
  .of_wp fun prog w A R s h => by
    obtain ⟨hp, g, d, tk, os⟩ := s
    obtain ⟨⟨C, dx, hl⟩, h⟩ := h
    unfold PySem.W.instObj at hl
    wp_walk using AutoSeq1.wpAny_loadPart' hl
    exact ⟨_, rfl, h⟩
structure BinR (K : PySem.W.Frag) (op : Operator) (C f : Addr) : Prop where
  hc : selfFirst K C = true
  hs : ∃ g : Addr, findIn K (.ref C) (PySem.dunder op.info.2) = some (some (.ref g))
  hr : findIn K (.ref C) (dunderR op.info.2) = some (some (.ref f))
  hf : isFn K (.ref f) = true
  hb : subIn K (.ref C) (.type "int") = some false
section
variable {prog : Program} {w : World} {A : Around} {E : Value → Shared → Prop} {s : Shared} {K : PySem.W.Frag} {y C f : Addr} {oy : Obj} {od : Option Obj}
/-- an int's own method declines, the right one's is taken -/
theorem bin_right {op : Operator} {i : Int} {t : Tok} {id : String} {Bl : Builtin} {Q : Value → Shared → Prop} (X : K.In s.heap) (I : InstAt s.heap y oy C od) (B : BinR K op C f) (sl : Slot "int" (PySem.dunder op.info.2) id) (fi : fillsNumberSlot (.type "int") op.info.2 = pure true)
    (en : entryFor table id = some Bl) (ar : argsOk id ⟨[.int i t, .ref y], []⟩) (de : Meets (Bl ⟨[.int i t, .ref y], []⟩) (Declines y)) (hy : ∃ C dx, s.heap.get? y = some (PySem.W.instObj C dx))
    (h : wpAny (model prog w) A (call (.ref f) [.ref y, .int i t]) (PySem.W.CmpBack Q) E s) : wpAny (model prog w) A (binaryOp op (.int i t) (.ref y)) Q E s := by
  obtain ⟨cd, rest, hcd, hm⟩ := PySem.W.ksp_first B.hc
  obtain ⟨g', hs⟩ := B.hs
  have hr := B.hr
  rcases hi : op.info with ⟨sym, nm⟩
  rw [hi] at hs hr sl fi
  dsimp only at hs hr sl fi
  have one := PySem.W.ksp_try X I hr B.hf h
  have none1 : wpAny (model prog w) A (tryMethod (.int i t) (PySem.dunder nm) (.ref y)) (fun r s' => r = none ∧ s' = s) E s :=
    wpAny_tryMethod_declines (typeIs_int _ _ _) sl (call_meets sl (typeIs_int _ _ _) en ar de ⟨hy, rfl, rfl, rfl⟩)
  obtain ⟨hh, g, d, tt, os⟩ := s
  have la : Looks (model prog w) hh (typeOf (.int i t)) (.type "int") := Looks.of_pure rfl
  have lb : Looks (model prog w) hh (typeOf (.ref y)) (.ref C) := I.type
  have lf : Looks (model prog w) hh (fillsNumberSlot (.type "int") nm) true := Looks.of_pure fi
  have lg : Looks (model prog w) hh (fillsNumberSlot (.ref C) nm) true := PySem.W.fills_K X hcd hm hs
  have lsub : Looks (model prog w) hh (isSubtype (.ref C) (.type "int")) false := looks_subIn X B.hb
  have lpt : Looks (model prog w) hh (numberSlotInPython (.type "int") nm) false := Looks.of_pure rfl
  have hne : (Value.type "int" == Value.ref C) = false := Bool.eq_false_iff.mpr fun q => by cases beq_iff_eq.mp q
  simp only [binaryOp, hi]
  refine wpAny_holding (wpAny_bind ?_)
  unfold binaryOp1
  refine wpAny_bind (la.at (wpAny_bind (lb.at (wpAny_bind (lf.at ?_)))))
  simp only [hne, Bool.false_eq_true, if_false]
  ksp_lk
  refine wpAny_mono none1 (fun r s' hr' => ?_) fun _ _ e => e
  obtain ⟨rfl, rfl⟩ := hr'
  ksp_lk
  refine wpAny_mono one (fun r s' hr' => ?_) fun _ _ e => e
  obtain ⟨v, rfl, hq⟩ := hr'
  ksp_lk
  exact hq
end

/-! != by an own == -/
structure NeC (K : PySem.W.Frag) (C f : Addr) : Prop where
  hn : findIn K (.ref C) "__ne__" = some (some (.builtin "object.__ne__"))
  hs : findIn K (.ref C) "__eq__" = some (some (.ref f))
  hf : isFn K (.ref f) = true
  ho : PySem.W.mroIn K C (.type "object") = some true
theorem slot_objne : Slot "object" "__ne__" "object.__ne__" :=
  .of (owner := "object") (n := "__ne__") (by rw [typeLookup_type, builtinLookup_eq_fast]; kernel_rfl) (by decide +kernel) (by decide +kernel) (by decide +kernel) (.inl (by decide +kernel)) (by rw [isSubtype_type]; kernel_rfl)
section
variable {prog : Program} {w : World} {A : Around} {E : Value → Shared → Prop} {K : PySem.W.Frag} {x C f : Addr} {ox : Obj} {od : Option Obj}
theorem objne_body {b : Value} {hh : Heap} {g : Array GenState} {d : Drawn} {tt : Nat} {os : OsState} {Q : Fin → Shared → Prop} (hu : A.units < cLine)
    (h : wpAny (model prog w) A (callSpecialIfBound? (.ref x) "__eq__" [b]) (fun r s' => ∃ k, r = some (.bool k) ∧ Q (.done (.ret (.bool (!k)))) s') E ⟨hh, g, d, tt, os⟩) :
    wpAny (model prog w) A (Builtin.«object.__ne__» ⟨[.ref x, b], []⟩) Q E ⟨hh, g, d, tt, os⟩ := by
  unfold Builtin.«object.__ne__»
  repeat (first | with_reducible refine wpAny_cRoomFor hu ?_ | (with_reducible refine wpAny_mono h (fun r s' hr => ?_) fun _ _ e => e) | wp_step)
  obtain ⟨k, rfl, q⟩ := hr
  obtain ⟨hp, g, d, tk, os⟩ := s'
  repeat wp_step
  exact q
theorem rich_ne {b t : Value} {hh : Heap} {g : Array GenState} {d : Drawn} {tt : Nat} {os : OsState} {Q : Value → Shared → Prop} (hu : A.units + 1 < cLine) (X : K.In hh) (I : InstAt hh x ox C od) (hb : Looks (model prog w) hh (typeOf b) t)
    (hn : notFirst K C t = true) (B : NeC K C f) (h : wpAny (model prog w) A.in1 (call (.ref f) [.ref x, b]) (fun v s' => ∃ k, v = .bool k ∧ Q (.bool (!k)) s') E ⟨hh, g, d, tt, os⟩) :
    wpAny (model prog w) A (richCompare .NotEq (.ref x) b) Q E ⟨hh, g, d, tt, os⟩ := by
  have hu0 : A.units < cLine := Nat.lt_of_succ_lt hu
  have call2 : wpAny (model prog w) A (call (.builtin "object.__ne__") [.ref x, b]) (fun v s' => v ≠ .notImplemented ∧ Q v s') E ⟨hh, g, d, tt, os⟩ := by
    refine wpAny_call (codeAny_call_builtin slot_objne.plain PySem.F.cmpEntry_ne (@PySem.W.check_slot (model prog w) _ _ ⟨hh, g, d, tt, os⟩ "object.__ne__" "object" "__ne__" (.ref x) [b] [] _ PySem.F.cmpKind_ne PySem.F.cmpSplit_ne
      (I.type.andThen (PySem.W.looks_mroIn X B.ho)) (PySem.F.cmpArgs_ne _ _) ?_))
    refine objne_body (show A.in1.units < cLine from hu) (PySem.W.ifBound_K X I B.hs B.hf (wpAny_mono h (fun v s' z => ?_) fun _ _ e => e))
    obtain ⟨k, rfl, q⟩ := z
    exact ⟨k, rfl, (fun z => nomatch z), q⟩
  have one : wpAny (model prog w) A (tryCompare (.ref x) "__ne__" b) (fun r s' => ∃ v, r = some v ∧ Q v s') E ⟨hh, g, d, tt, os⟩ := by
    have lt : Looks (model prog w) hh (typeLookup (.ref C) "__ne__") (some (.builtin "object.__ne__")) := looks_findIn X B.hn
    have fin : wpAny (model prog w) A (call (.builtin "object.__ne__") ([.ref x] ++ [b]) >>= fun v => pure (some v)) (fun r s' => ∃ v, r = some v ∧ v ≠ .notImplemented ∧ Q v s') E ⟨hh, g, d, tt, os⟩ :=
      wpAny_bind (wpAny_mono call2 (fun v s' h' => wpAny_pure ⟨v, rfl, h'⟩) fun _ _ h' => h')
    have sp : wpAny (model prog w) A (callSpecialIfBound? (.ref x) "__ne__" [b]) (fun r s' => ∃ v, r = some v ∧ v ≠ .notImplemented ∧ Q v s') E ⟨hh, g, d, tt, os⟩ := by
      simp only [callSpecialIfBound?, bindSpecialIfBound?]
      refine wpAny_holding (wpAny_bind (wpAny_bind (wpAny_bind (I.type.here (lt.here ?_)))))
      simp only [slot_objne.bind]
      refine wpAny_bind (wpAny_askSetting (wpAny_ite ?_))
      split
      · exact wpAny_bind (wpAny_pure (wpAny_pure fin))
      · exact wpAny_tryCatch (wpAny_bind (wpAny_pure (wpAny_pure fin)))
    unfold tryCompare
    refine wpAny_bind (wpAny_mono sp (fun r s' z => ?_) fun _ _ e => e)
    obtain ⟨v, rfl, hv, q⟩ := z
    cases v <;> first | exact absurd rfl hv | exact wpAny_pure ⟨_, rfl, q⟩
  unfold richCompare
  simp only [oneThing_ref, cmpInfo_NotEq]
  refine wpAny_holding (wpAny_bind (wpAny_cRoomFor hu0 ?_))
  refine wpAny_bind (I.type.here (wpAny_bind (hb.here ?_)))
  split
  · rename_i q
    have e : subIn K t (.ref C) = some false := by
      rcases Bool.or_eq_true_iff.mp hn with e | e
      · rw [beq_iff_eq.mp e] at q; simp at q
      · exact beq_iff_eq.mp e
    refine wpAny_bind ((looks_subIn X e).here ?_)
    simp only [Bool.false_eq_true, if_false]
    refine wpAny_bind (wpAny_mono one (fun r s' z => ?_) fun _ _ e => e)
    obtain ⟨v, rfl, hq⟩ := z
    exact wpAny_pure hq
  · refine wpAny_bind (wpAny_pure ?_)
    simp only [Bool.false_eq_true, if_false]
    refine wpAny_bind (wpAny_mono one (fun r s' z => ?_) fun _ _ e => e)
    obtain ⟨v, rfl, hq⟩ := z
    exact wpAny_pure hq
end

section
variable {X : Cx} {pins : List (Addr × Obj)} {σ : L2.St} {H : Hp} {s : Shared} {k : Nat} {f C : Addr} {ps : List Str} {sp : Sp} {E : XK} {Q : VK}
def rRight (C : Addr) (sp : Sp) (E : XK) : R2 := fun x y H Q => ∃ i a dx fs, x = .int i ∧ y = .ref a ∧ H a = some (.ins C dx fs) ∧ sp [y, x] H Q E
theorem op_right_add (D : Dn X.prog X.w X.K X.mg X.base k f ps sp) (B : BinR X.K .Add C f) (hr : Room k X.A) (hx : Passes (L2.CX X.prog X.w) X E) : OpR X (binaryOp .Add) (rRight C sp E) := by
  intro pins s σ H x y v u Q I rx ry h
  obtain ⟨i, a, dx, fs, rfl, rfl, ha, q⟩ := h
  obtain ⟨t, rfl⟩ := rx
  cases ry
  obtain ⟨fd, F, b⟩ := D.ex
  obtain ⟨_, _, _, hy, _⟩ := (show ObjOk X.prog X.w H s.heap a (.ins C dx fs) from I.hok a _ ha)
  obtain ⟨mA, J, _⟩ := ins_get I.hok ha
  obtain ⟨od, J, _⟩ := J.look
  refine bin_right I.kIn J B PySem.F.slot_int_add PySem.F.fills_int_add PySem.F.entry_int_add (PySem.F.args_int_add_2 _ _) (add_declines _ _ _) ⟨_, _, hy⟩ ?_
  exact thn (run_fn (us := [.ref a, .int i t]) (vs := [.ref a, .int i]) F hr b .nil hx I (.cons rfl (.cons ⟨t, rfl⟩ .nil)) q) fun v s' z => cmpBack_of z
theorem op_right_sub (D : Dn X.prog X.w X.K X.mg X.base k f ps sp) (B : BinR X.K .Sub C f) (hr : Room k X.A) (hx : Passes (L2.CX X.prog X.w) X E) : OpR X (binaryOp .Sub) (rRight C sp E) := by
  intro pins s σ H x y v u Q I rx ry h
  obtain ⟨i, a, dx, fs, rfl, rfl, ha, q⟩ := h
  obtain ⟨t, rfl⟩ := rx
  cases ry
  obtain ⟨fd, F, b⟩ := D.ex
  obtain ⟨_, _, _, hy, _⟩ := (show ObjOk X.prog X.w H s.heap a (.ins C dx fs) from I.hok a _ ha)
  obtain ⟨mA, J, _⟩ := ins_get I.hok ha
  obtain ⟨od, J, _⟩ := J.look
  refine bin_right I.kIn J B PySem.F.slot_int_sub PySem.F.fills_int_sub PySem.F.entry_int_sub (PySem.F.args_int_sub_2 _ _) (sub_declines _ _ _) ⟨_, _, hy⟩ ?_
  exact thn (run_fn (us := [.ref a, .int i t]) (vs := [.ref a, .int i]) F hr b .nil hx I (.cons rfl (.cons ⟨t, rfl⟩ .nil)) q) fun v s' z => cmpBack_of z
theorem g_right {i : Int} {a dx : Addr} {fs : List (Str × V)} (ho : H a = some (.ins C dx fs)) (q : sp [.ref a, .int i] H Q E) : rRight C sp E (.int i) (.ref a) H Q := ⟨i, a, dx, fs, rfl, rfl, ho, q⟩
/-- != : the own == gives a truth, its opposite comes out -/
def rNeq (K : PySem.W.Frag) (C : Addr) (sp : Sp) (E : XK) : R2 := fun x y H Q => ∃ a dx fs t, x = .ref a ∧ H a = some (.ins C dx fs) ∧ Kd H y t ∧ notFirst K C t = true ∧ sp [x, y] H (fun v H' => ∃ b, v = .bl b ∧ Q (.bl (!b)) H') E
theorem cmp_neq (D : Dn X.prog X.w X.K X.mg X.base k f ps sp) (B : NeC X.K C f) (hr : Room (k + 1) X.A) (hx : Passes (L2.CX X.prog X.w) X E) : OpR X (compareOp .NotEq) (rNeq X.K C sp E) := by
  intro pins s σ H x y v u Q I rx ry h
  obtain ⟨a, dx, fs, t, rfl, ha, kd, bs, q⟩ := h
  cases rx
  obtain ⟨fd, F, b⟩ := D.ex
  obtain ⟨mA, J, _⟩ := ins_get I.hok ha
  obtain ⟨od, J, _⟩ := J.look
  have lb := kd.looks (M := model X.prog X.w) I ry
  show wpAny (model X.prog X.w) X.A (richCompare .NotEq (.ref a) u) (EP X pins σ Q) X.xe s
  have hl := F.len _ _ _ _ q
  have rv : Vals [V.ref a, y] [Value.ref a, u] := .cons rfl (.cons ry .nil)
  have run : wpAny (model X.prog X.w) X.A.in1 (call (.ref f) [.ref a, u]) (fun v s' => ∃ k, v = .bool k ∧ EP X pins σ Q (.bool (!k)) s') X.xe s := by
    refine wpAny_call (codeAny_mono (F.run X.A.in1 X.stack s H ⟨[.ref a, u], []⟩ [.ref a, u] [.ref a, y] _ E hr.in1 I.env0.in1 (by
      have := b s [.ref a, u] I.kIn (by simpa using hl)
      simpa using this) rv q) fun r s' hq => ?_)
    cases r with
    | error e => exact hx pins σ H s e s' I hq
    | ok fl =>
      cases fl with
      | ret w =>
        obtain ⟨z, H', I', rz, b', ez, q'⟩ := I.after hq
        subst ez
        cases rz
        exact ⟨b', rfl, .bl (!b'), H', I', rfl, q'⟩
      | next => exact False.elim hq
      | brk => exact False.elim hq
      | cont => exact False.elim hq
  obtain ⟨hh, g, d, tt, os⟩ := s
  exact rich_ne (hu_of hr) I.kIn J lb bs B run
theorem g_neq {a dx : Addr} {fs : List (Str × V)} {y : V} {t : Value} {K : PySem.W.Frag} (ho : H a = some (.ins C dx fs)) (kd : Kd H y t) (b : notFirst K C t = true) (q : sp [.ref a, y] H (kNot Q) E) : rNeq K C sp E (.ref a) y H Q :=
  ⟨a, dx, fs, t, rfl, ho, kd, b, q⟩
end
end AF
/-! further steps -/
namespace AF
open PySem PySem.Spec PyProof.Rows L2
def kChain (r' : R2) (tc : TE) (σ : L2.St) (y : V) (Q : VK) (z : V) (H : Hp) : Prop := ∃ k, z = .bl k ∧ (if k = true then tc σ H fun w' H4 => r' y w' H4 Q else Q (.bl false) H)
section
variable {σ : L2.St} {H : Hp} {Q : VK} {ta tb tc : TE} {r r' : R2} {x y c : V} {K : PySem.W.Frag} {t u : Value} {b k : Bool}
theorem g_chain (h : ta σ H fun x H1 => tb σ H1 fun y H2 => r x y H2 (kChain r' tc σ y Q)) : tChain r r' ta tb tc σ H Q := h
theorem g_kchain (q : if k = true then tc σ H fun w' H4 => r' y w' H4 Q else Q (.bl false) H) : kChain r' tc σ y Q (.bl k) H := ⟨k, rfl, q⟩
theorem g_isi (cv : ClsV c u) (ty : TyX K H x t) (e : PySem.W.kitOne K t u = some b) (q : Q (.bl b) H) : rIsi K [x, c] H Q := ⟨x, c, t, u, b, rfl, cv, ty, e, q⟩
theorem dp_int {i j : Int} (h : i = j) : Dp K H (.int i) (.int j) := by rw [h]; exact .int j
theorem dp_bl {i j : Bool} (h : i = j) : Dp K H (.bl i) (.bool j) := by rw [h]; exact .bl j
theorem dp_lst {a : Addr} {xs : List V} {ds : List PyData} (h : H a = some (.lst xs)) (q : DpAll K H xs ds) : Dp K H (.ref a) (.list ds) := .lst (SqL.of h) q
theorem dp_tup {a : Addr} {xs : List V} {ds : List PyData} (h : H a = some (.tup xs)) (q : DpAll K H xs ds) : Dp K H (.ref a) (.tuple ds) := .tup (.inl (.inl h)) q
theorem eqv_self {d : PyData} (s : SeqAt.shaped d = true) : PyData.eqv d d = true := SeqAt.eqv_refl_plain d (PySem.PyData.plain_of_canLay0 d (SeqAt.canLay_of_shaped s))
theorem g_neD {d : PyData} (hx : Dp K H x d) (hy : Dp K H y d) (s : SeqAt.shaped d = true) (q : Q (.bl false) H) : rNeD K x y H Q := ⟨d, d, hx, hy, s, s, by rw [eqv_self s]; exact q⟩
theorem g_eqD {d : PyData} (hx : Dp K H x d) (hy : Dp K H y d) (s : SeqAt.shaped d = true) (q : Q (.bl true) H) : rEqD K x y H Q := ⟨d, d, hx, hy, s, s, by rw [eqv_self s]; exact q⟩
end
/-- a new instance comes out, all else stays -/
def New (C : Addr) (fs : List (Str × V)) (H : Hp) (Q : VK) : Prop := ∀ x dx H', H x = none → Ch [] H H' → H' x = some (.ins C dx fs) → Q (.ref x) H'
theorem g_new {H0 : Hp} {M : Addr → Prop} {H : Hp} {l : List Ent} {C : Addr} {fs : List (Str × V)} {Q : VK} (S : Sh H0 M H l) (q : ∀ x dx H', Sh H0 M H' ((x, .ins C dx fs, true) :: l) → Q (.ref x) H') : New C fs H Q :=
  fun x dx H' hn c h => q x dx H' (S.add c hn h)
/-- an object is being made by its __init__ -/
theorem g_kmake {H0 : Hp} {M : Addr → Prop} {H : Hp} {l : List Ent} {C : Addr} {sp : Sp} {E : XK} {Q : VK} {vs : List V} {fs : List (Str × V)} (S : Sh H0 M H l)
    (h : ∀ (x dx : Addr) (H1 : Hp) (Q' : VK), H1 x = some (.ins C dx []) → (∀ H2, Ch [x] H1 H2 → H2 x = some (.ins C dx fs) → Q' .non H2) → sp (.ref x :: vs) H1 Q' E)
    (q : ∀ x dx H', Sh H0 M H' ((x, .ins C dx fs, true) :: l) → Q (.ref x) H') : kMake C sp E Q vs H := by
  intro x dx hx hd ne
  have S1 := (S.new (o := .own x) hd).new (p := x) (o := .ins C dx []) (by rw [upd_ne (Ne.symm ne)]; exact hx)
  refine h x dx _ _ (S1.has_ .here) fun H2 c h2 => ⟨rfl, q x dx H2 ?_⟩
  have S2 := S1.ch1 .here c h2
  refine ⟨S2.fr, fun e he => ?_, ?_, fun e he hm => ?_⟩
  · rcases List.mem_cons.mp he with z | z
    · exact S2.has e (z ▸ List.mem_cons_self)
    · exact S2.has e (List.mem_cons_of_mem _ (List.mem_cons_of_mem _ z))
  · have ap := S2.ap
    simp only [List.map_cons, List.pairwise_cons] at ap ⊢
    exact ⟨fun t ht => ap.1 t (List.mem_cons_of_mem _ ht), ap.2.2⟩
  · rcases List.mem_cons.mp he with z | z
    · exact S2.mu e (z ▸ List.mem_cons_self) hm
    · exact S2.mu e (List.mem_cons_of_mem _ (List.mem_cons_of_mem _ z)) hm
end AF
/-! loops over a range, items at an open place -/
namespace AF
open PySem PySem.Spec PyProof.Rows L2
def kR1 (P : Int → Hp → Prop) (vs : List V) (H : Hp) : Prop := ∃ j : Int, vs = [.int j] ∧ -(2 ^ 62) ≤ j ∧ j < 2 ^ 62 ∧ P j H
/-- a loop over a range of n turns -/
def Loop (n : Nat) (g : TG) (tb : TS) (D : Ends) (σ : L2.St) (H : Hp) : Prop := ∃ W : Nat → Nat → L2.St → Hp → Prop, (∃ m, W 0 m σ H) ∧ ∀ i m σ H, W i m σ H →
  ((Itr 0 n).stop i H ∧ D.nx σ H) ∨ ((Itr 0 n).go i H ∧ ∃ N : L2.St → Hp → Prop, (∀ σ' H', N σ' H' → ∃ m', m' < m ∧ W (i + 1) m' σ' H') ∧ ∀ x H', (Itr 0 n).yld i H x H' → g x σ H' fun σ2 H2 => tb { D with nx := N, ct := N, bk := D.nx } σ2 H2)
section
variable {σ σ' : L2.St} {H : Hp} {Q : VK} {i j : Int} {x y v : V} {K : PySem.W.Frag} {p : Addr} {xs : List V} {ta : TA} {tb : TS} {g : TG} {D : Ends}
theorem g_for1 (h : ta σ H (kR1 fun j H1 => Loop j.toNat g tb D σ H1)) : tFor (iRng1 ta) g tb D σ H := h
theorem g_kR1 {P : Int → Hp → Prop} (h1 : -(2 ^ 62) ≤ j) (h2 : j < 2 ^ 62) (q : P j H) : kR1 P [.int j] H := ⟨j, rfl, h1, h2, q⟩
theorem g_loop {n k : Nat} {nx : L2.St → Hp → Prop} {rt : VK} {bk ct : L2.St → Hp → Prop} (Pv : Nat → L2.St → Hp → Prop) (h0 : Pv 0 σ H)
    (hs : ∀ (i : Nat) σ H, i < n → Pv i σ H → tb ⟨Pv (i + 1), rt, nx, Pv (i + 1)⟩ (σ.set k (some (.int (i : Int)))) H) (hd : ∀ σ H, Pv n σ H → nx σ H) : Loop n (gName k) tb ⟨nx, rt, bk, ct⟩ σ H :=
  for_range (lo := 0) (n := n) (D := ⟨nx, rt, bk, ct⟩) Pv h0 (fun i σ H hi p => by
    have e : (0 : Int) + (i : Int) = (i : Int) := Int.zero_add _
    show tb ⟨Pv (i + 1), rt, nx, Pv (i + 1)⟩ (σ.set k (some (.int ((0 : Int) + (i : Int))))) H
    rw [e]
    exact hs i σ H hi p) hd
theorem g_absN (q : ∀ j : Int, 0 ≤ j → Q (.int j) H) : rAbs1 [.int i] H Q := ⟨i, rfl, q _ (by split <;> omega)⟩
theorem g_maxN (q : ∀ z : Int, i ≤ z → j ≤ z → (z = i ∨ z = j) → Q (.int z) H) : rMaxI [.int i, .int j] H Q := ⟨i, j, rfl, q _ (by split <;> omega) (by split <;> omega) (by split <;> simp)⟩
theorem g_minN (q : ∀ z : Int, z ≤ i → z ≤ j → (z = i ∨ z = j) → Q (.int z) H) : rMinI [.int i, .int j] H Q := ⟨i, j, rfl, q _ (by split <;> omega) (by split <;> omega) (by split <;> simp)⟩
theorem atI_some {α : Type} {xs : List α} (h0 : 0 ≤ i) (h1 : i < xs.length) : ∃ v, v ∈ xs ∧ atI xs i = some v := by
  obtain ⟨k, rfl⟩ : ∃ k : Nat, i = k := ⟨i.toNat, by omega⟩
  have hk : k < xs.length := by omega
  exact ⟨xs[k], List.getElem_mem hk, atI_nat (List.getElem?_eq_getElem hk)⟩
/-- an item of a list at an open place: what all items have -/
theorem g_ixP {P : V → Prop} (h : H p = some (.lst xs)) (h0 : 0 ≤ i) (h1 : i < xs.length) (hp : ∀ v, v ∈ xs → P v) (q : ∀ v, P v → Q v H) : rIxL K (.ref p) (.int i) H Q := by
  obtain ⟨v, hv, e⟩ := atI_some h0 h1
  exact ⟨p, xs, i, v, rfl, rfl, SqL.of h, e, q v (hp v hv)⟩
/-- .. of ints between two bounds -/
def IntIn (lo hi : Int) (v : V) : Prop := ∃ z, v = .int z ∧ lo ≤ z ∧ z ≤ hi
theorem g_ixI (lo hi : Int) (h : H p = some (.lst xs)) (h0 : 0 ≤ i) (h1 : i < xs.length) (hp : ∀ v, v ∈ xs → IntIn lo hi v) (q : ∀ z : Int, lo ≤ z → z ≤ hi → Q (.int z) H) : rIxL K (.ref p) (.int i) H Q :=
  g_ixP h h0 h1 hp fun v ⟨z, e, a, b⟩ => by rw [e]; exact q z a b
theorem intIn_nil {lo hi : Int} : ∀ v, v ∈ ([] : List V) → IntIn lo hi v := fun _ h => nomatch h
theorem intIn_cons {lo hi z : Int} {r : List V} (h1 : lo ≤ z) (h2 : z ≤ hi) (h : ∀ v, v ∈ r → IntIn lo hi v) : ∀ v, v ∈ V.int z :: r → IntIn lo hi v := fun v hv => by
  rcases List.mem_cons.mp hv with e | e
  · exact ⟨z, e, h1, h2⟩
  · exact h v e
end
/-! the law's own helpers: a source of drawn numbers -/
def Sd (n s : Int) : Prop := 0 ≤ n ∧ 0 ≤ s ∧ s < 2147483647
def spSource (K : PySem.W.Frag) : Sp := fun vs H Q _ => ∃ (a : Addr) (ns : List Int) (t : Nat), vs = [.ref a, .int (t : Int)] ∧ SqL K H a (ns.map V.int) ∧
  ∀ (q : Addr) (n s : Int) (H' : Hp), H q = none → Ch [] H H' → H' q = some (.lst [.int n, .int s]) → Sd n s → Q (.ref q) H'
def spDraw : Sp := fun vs H Q _ => ∃ (a : Addr) (n s m : Int), vs = [.ref a, .int m] ∧ H a = some (.lst [.int n, .int s]) ∧ Sd n s ∧ 1 ≤ m ∧ m ≤ 10 ^ 60 ∧
  ∀ (d n' s' : Int) (H' : Hp), Ch [a] H H' → H' a = some (.lst [.int n', .int s']) → 0 ≤ d → d < m → Sd n' s' → Q (.int d) H'
/-- a helper that draws and hands out what P says -/
def spGive (P : V → Prop) : Sp := fun vs H Q _ => ∃ (a : Addr) (n s : Int), vs = [.ref a] ∧ H a = some (.lst [.int n, .int s]) ∧ Sd n s ∧
  ∀ (v : V) (n' s' : Int) (H' : Hp), Ch [a] H H' → H' a = some (.lst [.int n', .int s']) → P v → Sd n' s' → Q v H'
section
variable {H0 : Hp} {M : Addr → Prop} {H : Hp} {l : List Ent} {l' : Int → Int → List Ent} {a : Addr} {n s m : Int} {Q : VK} {E : XK} {K : PySem.W.Frag}
theorem use_draw (S : Sh H0 M H l) (r : ∀ n' s', Rep l a (.lst [.int n, .int s]) (.lst [.int n', .int s']) (l' n' s')) (hs : Sd n s) (h1 : 1 ≤ m) (h2 : m ≤ 10 ^ 60)
    (q : ∀ d n' s' H', 0 ≤ d → d < m → Sd n' s' → Sh H0 M H' (l' n' s') → Q (.int d) H') : spDraw [.ref a, .int m] H Q E :=
  ⟨a, n, s, m, rfl, S.has _ (r n s).mem, hs, h1, h2, fun d n' s' H' c h p1 p2 p3 => q d n' s' H' p1 p2 p3 (S.ch1 (r n' s') c h)⟩
theorem use_give {P : V → Prop} (S : Sh H0 M H l) (r : ∀ n' s', Rep l a (.lst [.int n, .int s]) (.lst [.int n', .int s']) (l' n' s')) (hs : Sd n s)
    (q : ∀ v n' s' H', P v → Sd n' s' → Sh H0 M H' (l' n' s') → Q v H') : spGive P [.ref a] H Q E :=
  ⟨a, n, s, rfl, S.has _ (r n s).mem, hs, fun v n' s' H' c h p1 p3 => q v n' s' H' p1 p3 (S.ch1 (r n' s') c h)⟩
theorem use_giveI {lo hi : Int} (S : Sh H0 M H l) (r : ∀ n' s', Rep l a (.lst [.int n, .int s]) (.lst [.int n', .int s']) (l' n' s')) (hs : Sd n s)
    (q : ∀ z n' s' H', lo ≤ z → z ≤ hi → Sd n' s' → Sh H0 M H' (l' n' s') → Q (.int z) H') : spGive (IntIn lo hi) [.ref a] H Q E :=
  use_give S r hs fun v n' s' H' ⟨z, e, h1, h2⟩ hs S' => by rw [e]; exact q z n' s' H' h1 h2 hs S'
theorem use_source {ns : List Int} {t : Nat} (S : Sh H0 M H l) (h : SqL K H a (ns.map V.int)) (q : ∀ b n s H', Sd n s → Sh H0 M H' ((b, .lst [.int n, .int s], true) :: l) → Q (.ref b) H') : spSource K [.ref a, .int (t : Int)] H Q E :=
  ⟨a, ns, t, rfl, h, fun b n s H' hb c hh hs => q b n s H' hs (S.add c hb hh)⟩
end
end AF
/-! the plain steps, found by their heads -/
namespace AF
open PySem PySem.Spec PyProof.Rows L2
class Step (A : Prop) (B : outParam Prop) : Prop where
  go : B → A
class SlotI (σ : L2.St) (i : Nat) (v : outParam V) : Prop where
  at_ : σ[i]? = some (some v)
instance {v : V} {r : L2.St} : SlotI (some v :: r) 0 v := ⟨rfl⟩
instance {o : Option V} {r : L2.St} {i : Nat} {v : V} [h : SlotI r i v] : SlotI (o :: r) (i + 1) v := ⟨by rw [List.getElem?_cons_succ]; exact h.at_⟩
class SetI (σ : L2.St) (i : Nat) (v : V) (σ' : outParam L2.St) : Prop where
  eq : σ.set i (some v) = σ'
instance {o : Option V} {r : L2.St} {v : V} : SetI (o :: r) 0 v (some v :: r) := ⟨rfl⟩
instance {o : Option V} {r r' : L2.St} {i : Nat} {v : V} [h : SetI r i v r'] : SetI (o :: r) (i + 1) v (o :: r') := ⟨by rw [List.set_cons_succ, h.eq]⟩
class StartI (N : List Str) (vs : List V) (σ : outParam L2.St) : Prop where
  en : Ent0 N vs σ
instance : StartI [] [] [] := ⟨.nil⟩
instance {x : Str} {N : List Str} {v : V} {vs : List V} {σ : L2.St} [h : StartI N vs σ] : StartI (x :: N) (v :: vs) (some v :: σ) := ⟨.val h.en⟩
instance {x : Str} {N : List Str} {σ : L2.St} [h : StartI N [] σ] : StartI (x :: N) [] (none :: σ) := ⟨.non h.en⟩
section
variable {σ σ' : L2.St} {H : Hp} {Q : VK} {nx : L2.St → Hp → Prop} {rt : VK} {bk ct : L2.St → Hp → Prop} {ta tb tc te : TE} {t u : TS} {c d : TT} {i j : Int} {x y : V} {K : PySem.W.Frag} {a C dx : Addr} {f m : Str} {v : V} {k : Bool} {tr : TA} {sp : Sp} {E : XK} {QB : Bool → Hp → Prop} {QL : List V → Hp → Prop}
instance : Step (tSeq t u ⟨nx, rt, bk, ct⟩ σ H) (t ⟨fun σ H => u ⟨nx, rt, bk, ct⟩ σ H, rt, bk, ct⟩ σ H) := ⟨g_seq⟩
instance : Step (tNext ⟨nx, rt, bk, ct⟩ σ H) (nx σ H) := ⟨g_next⟩
instance {i : Nat} : Step (tAsg te (gName i) ⟨nx, rt, bk, ct⟩ σ H) (te σ H fun x H1 => nx (σ.set i (some x)) H1) := ⟨g_asg⟩
instance : Step (tRet te ⟨nx, rt, bk, ct⟩ σ H) (te σ H rt) := ⟨g_ret⟩
instance : Step (tRetN ⟨nx, rt, bk, ct⟩ σ H) (rt .non H) := ⟨g_retN⟩
instance : Step (tDrop te ⟨nx, rt, bk, ct⟩ σ H) (te σ H fun _ H1 => nx σ H1) := ⟨g_drop⟩
instance : Step (tIfS c t u ⟨nx, rt, bk, ct⟩ σ H) (c σ H fun b H1 => if b = true then t ⟨nx, rt, bk, ct⟩ σ H1 else u ⟨nx, rt, bk, ct⟩ σ H1) := ⟨g_if⟩
instance {i : Nat} [h : SlotI σ i v] : Step (tVar i σ H Q) (Q v H) := ⟨g_var h.at_⟩
instance : Step (tC v σ H Q) (Q v H) := ⟨g_c⟩
instance {r : R2} : Step (tOp r ta tb σ H Q) (ta σ H fun x H1 => tb σ H1 fun y H2 => r x y H2 Q) := ⟨g_op⟩
instance {r : V → Hp → VK → Prop} : Step (tUn r ta σ H Q) (ta σ H fun x H1 => r x H1 Q) := ⟨g_un⟩
instance {g : Int → Int → V} : Step (rI0 g (.int i) (.int j) H Q) (Q (g i j) H) := ⟨g_I0⟩
instance {g : Int → V} : Step (rU g (.int i) H Q) (Q (g i) H) := ⟨g_U⟩
instance : Step (rEq (.int i) (.int j) H Q) (Q (.bl (decide (i = j))) H) := ⟨g_eqI⟩
instance : Step (rNe (.int i) (.int j) H Q) (Q (.bl (!decide (i = j))) H) := ⟨g_neI⟩
instance : Step (tTest te σ H QB) (te σ H (kB QB)) := ⟨g_test⟩
instance : Step (tB te σ H QB) (te σ H (kB QB)) := ⟨g_tB⟩
instance : Step (kB QB (.bl k) H) (QB k H) := ⟨g_kb⟩
instance : Step (kAnd Q tb σ (.bl k) H) (if k = true then tb σ H Q else Q (.bl false) H) := ⟨g_kand⟩
instance : Step (kOr Q tb σ (.bl k) H) (if k = true then Q (.bl true) H else tb σ H Q) := ⟨g_kor⟩
instance : Step (kNot Q (.bl k) H) (Q (.bl (!k)) H) := ⟨g_knot⟩
instance {r' : R2} : Step (kChain r' tc σ y Q (.bl k) H) (if k = true then tc σ H fun w' H4 => r' y w' H4 Q else Q (.bl false) H) := ⟨g_kchain⟩
instance {r r' : R2} : Step (tChain r r' ta tb tc σ H Q) (ta σ H fun x H1 => tb σ H1 fun y H2 => r x y H2 (kChain r' tc σ y Q)) := ⟨g_chain⟩
instance : Step (tAndV ta tb σ H Q) (ta σ H (kAnd Q tb σ)) := ⟨g_andV⟩
instance : Step (tOrV ta tb σ H Q) (ta σ H (kOr Q tb σ)) := ⟨g_orV⟩
instance : Step (tNotV ta σ H Q) (ta σ H (kNot Q)) := ⟨g_notV⟩
instance : Step (tNot c σ H QB) (c σ H fun k H1 => QB (!k) H1) := ⟨g_tnot⟩
instance : Step (tAnd c d σ H QB) (c σ H fun k H1 => if k = true then d σ H1 QB else QB false H1) := ⟨g_tand⟩
instance : Step (tOr c d σ H QB) (c σ H fun k H1 => if k = true then QB true H1 else d σ H1 QB) := ⟨g_tor⟩
instance : Step (tIf c ta tb σ H Q) (c σ H fun k H1 => if k = true then ta σ H1 Q else tb σ H1 Q) := ⟨g_ifE⟩
instance : Step (tNil σ H QL) (QL [] H) := ⟨g_nil⟩
instance : Step (tCons ta tr σ H QL) (ta σ H fun x H1 => tr σ H1 fun xs H2 => QL (x :: xs) H2) := ⟨g_cons⟩
instance {r : List V → Hp → VK → Prop} : Step (tCB r tr σ H Q) (tr σ H fun vs H1 => r vs H1 Q) := ⟨g_cb⟩
instance : Step (tCall sp [] E tr σ H Q) (tr σ H fun vs H1 => sp vs H1 Q E) := ⟨g_call⟩
instance : Step (tProp C sp [] E ta σ H Q) (ta σ H (kProp C sp E Q)) := ⟨g_prop⟩
instance : Step (tMeth C m sp [] E ta tr σ H Q) (ta σ H (kMeth C m sp E tr σ Q)) := ⟨g_meth⟩
instance : Step (tMake C sp [] E tr σ H Q) (tr σ H (kMake C sp E Q)) := ⟨g_make⟩
instance : Step (rInt1 [.int i] H Q) (Q (.int i) H) := ⟨g_int⟩
instance : Step (rInt1 [.bl k] H Q) (Q (.int (if k then 1 else 0)) H) := ⟨g_intb⟩
instance : Step (tLst tr σ H Q) (tr σ H (kLst Q)) := ⟨g_lst⟩
instance : Step (tTup tr σ H Q) (tr σ H (kTup Q)) := ⟨g_tup⟩
instance {i j : Nat} : Step (tPar i j tr ⟨nx, rt, bk, ct⟩ σ H) (tr σ H (kPar nx σ i j)) := ⟨g_par⟩
instance {i j : Nat} {σ2 : L2.St} [h : SetI σ i x σ'] [h2 : SetI σ' j y σ2] : Step (kPar nx σ i j [x, y] H) (nx σ2 H) := ⟨fun q => ⟨x, y, rfl, by rw [h.eq, h2.eq]; exact q⟩⟩
instance {to ti : TE} {s : TSet} : Step (tAsg te (gSub to ti s) ⟨nx, rt, bk, ct⟩ σ H) (te σ H fun x H1 => to σ H1 fun o H2 => ti σ H2 fun i H3 => s o i x H3 fun H4 => nx σ H4) := ⟨g_sub⟩
instance : Step (tFld K ta f σ H Q) (ta σ H (kFld K f Q)) := ⟨g_fld⟩
instance {tv : TE} : Step (sFld K ta tv f ⟨nx, rt, bk, ct⟩ σ H) (tv σ H fun y H1 => ta σ H1 (kSFld K f (nx σ) y)) := ⟨g_sfld⟩
instance {ta : TA} {g : TG} {D : Ends} : Step (tFor (iRng1 ta) g t D σ H) (ta σ H (kR1 fun j H1 => Loop j.toNat g t D σ H1)) := ⟨g_for1⟩
end
theorem set_go {σ σ' : L2.St} {i : Nat} {v : V} {H : Hp} {A : L2.St → Hp → Prop} [h : SetI σ i v σ'] (q : A σ' H) : A (σ.set i (some v)) H := by rw [h.eq]; exact q
theorem start_go {N : List Str} {vs : List V} {σ : L2.St} {A : L2.St → Hp → Prop} {H : Hp} [h : StartI N vs σ] (q : A σ H) : A (L2.start N vs) H := g_start h.en q
end AF
/-! what the top leaves, looked at once -/
namespace AF
open PySem PySem.Spec PyProof.Rows L2 He
open PySem.W (Frag findIn isFn subIn selfFirst notFirst specialIn takesIn mroIn kitOne keepIn codeIn recIn)

/-- a def, by where it stands -/
structure DA where
  ad : Frag → Addr
  name : Str
  qual : Str
  st : Stmt
  dfl : List Dv := []
  kwd : List (Str × Dv) := []
def seeF (K : Frag) (a : Addr) : FnW := match K.lookup a with
  | some ⟨_, _, .func d, _⟩ => some (d.name, d.qualname, d.params, d.body, d.scope, d.globals, d.closure, d.builtins)
  | _ => none
def DA.want (d : DA) : FnW := some (d.name, d.qual, defArgs d.st, .stmts (defBody d.st), defScope d.st, mainGlobals, [], builtinsNs)
def DA.fine (K : Frag) (d : DA) : Bool := keepIn K (.ref (d.ad K)) && (match K.lookup (d.ad K) with
  | some ⟨_, _, .func fd, _⟩ => codeIn K fd.code d.qual && (dflB K fd.defaults (d.dfl.map (Dv.v K)) && kwdB K fd.kwdefaults (d.kwd.map fun q => (q.1, q.2.v K)))
  | _ => false)
theorem DA.get {K : Frag} {d : DA} (e : seeF K (d.ad K) = d.want) (c : d.fine K = true) :
    ∃ fd, FunD K d.name d.qual (defArgs d.st) (defBody d.st) (defScope d.st) (d.dfl.map (Dv.v K)) (d.kwd.map fun q => (q.1, q.2.v K)) (d.ad K) fd := by
  obtain ⟨kp, c2⟩ := ba c
  unfold seeF at e
  cases q : K.lookup (d.ad K) with
  | none => rw [q] at c2; cases c2
  | some o =>
    obtain ⟨oc, od, dt, osl⟩ := o
    rw [q] at c2 e
    cases dt with
    | func fd =>
      obtain ⟨n1, n2, n3, n4, n5, n6, n7, n8, n9, n10, n11, n12, n13, n14, n15⟩ := fd
      have e2 : (some (n1, n2, n3, n4, n5, n6, n7, n15) : FnW) = some (d.name, d.qual, defArgs d.st, .stmts (defBody d.st), defScope d.st, mainGlobals, [], builtinsNs) := e
      simp only [Option.some.injEq, Prod.mk.injEq] at e2
      obtain ⟨h1, h2, h3, h4, h5, h6, h7, h8⟩ := e2
      subst h1 h2 h3 h4 h5 h6 h7 h8
      obtain ⟨k1, k2⟩ := ba (show (codeIn K n13 d.qual && (dflB K n8 (d.dfl.map (Dv.v K)) && kwdB K n9 (d.kwd.map fun q => (q.1, q.2.v K)))) = true from c2)
      obtain ⟨k3, k4⟩ := ba k2
      exact ⟨_, ⟨oc, od, n8, n9, n10, n11, n12, n13, n14, osl, rfl, q, k1, dflB_ok k3, kwdB_ok k4⟩, kp⟩
    | _ => cases c2
abbrev Seen : Type := Bool × List FnW
def look (fs : Frag → List Bool) (ds : List DA) (K : Frag) : Seen := ((fs K).all id && ds.all fun d => d.fine K, ds.map fun d => seeF K (d.ad K))
def lookW (ds : List DA) : Seen := (true, ds.map DA.want)
def Tells (fs : Frag → List Bool) (ds : List DA) (K : Frag) : Prop := look fs ds K = lookW ds
def lookG (n : Nat) (fs : Frag → List Bool) (ds : List DA) (g : Addr → Option Obj) : Seen := look fs ds (frG g (asD g n))
def hook (n : Nat) (fs : Frag → List Bool) (ds : List DA) : PySem.W.Hook where
  α := Seen
  obs := fun s => lookG n fs ds s.heap.get?
  val := fun _ => lookW ds
  says := fun _ h => ∃ K : Frag, K.In h ∧ Tells fs ds K
  of := fun _ _ e => ⟨_, frG_in, e⟩
  keeps := fun _ _ _ ⟨K, hK, c⟩ k => ⟨K, Frag.In.keeps hK k, c⟩
theorem lookG_eq {n : Nat} {fs : Frag → List Bool} {ds : List DA} {g : Addr → Option Obj} {s : Shared} (h : ∀ a, g a = s.heap.get? a) : lookG n fs ds g = (hook n fs ds).obs s := by
  have e : g = s.heap.get? := funext h
  rw [e]
  rfl
section
variable {fs : Frag → List Bool} {ds : List DA} {K : Frag}
theorem Tells.fact (c : Tells fs ds K) (i : Nat) {b : Bool} (h : (fs K)[i]? = some b := by rfl) : b = true := by
  have c1 := (ba (show ((fs K).all id && ds.all fun d => d.fine K) = true from congrArg (fun z : Seen => z.1) c)).1
  exact List.all_eq_true.mp c1 b (List.mem_of_getElem? h)
theorem Tells.def_ (c : Tells fs ds K) (i : Nat) {d : DA} (h : ds[i]? = some d := by rfl) :
    ∃ fd, FunD K d.name d.qual (defArgs d.st) (defBody d.st) (defScope d.st) (d.dfl.map (Dv.v K)) (d.kwd.map fun q => (q.1, q.2.v K)) (d.ad K) fd := by
  have c2 := (ba (show ((fs K).all id && ds.all fun d => d.fine K) = true from congrArg (fun z : Seen => z.1) c)).2
  have e : ds.map (fun d => seeF K (d.ad K)) = ds.map DA.want := congrArg (fun z : Seen => z.2) c
  have e2 : (ds.map fun d => seeF K (d.ad K))[i]? = (ds.map DA.want)[i]? := by rw [e]
  rw [List.getElem?_map, List.getElem?_map, h] at e2
  exact DA.get (Option.some.inj e2) (List.all_eq_true.mp c2 d (List.mem_of_getElem? h))
end
/-! facts as truths -/
section
variable {K : Frag} {C f : Addr} {op : Operator} {T : String}
def refO : Option Value → Bool
  | some (.ref _) => true
  | none => true
  | _ => false
def refS : Option (Option Value) → Bool
  | some o => refO o
  | none => false
def fnS : Option (Option Value) → Bool
  | some (some (.ref _)) => true
  | _ => false
def binB (K : Frag) (op : Operator) (C f : Addr) : Bool := selfFirst K C && (eqO (findIn K (.ref C) (PySem.dunder op.info.2)) (some (some (.ref f))) && (isFn K (.ref f) && refS (findIn K (.ref C) (dunderR op.info.2))))
theorem binB_ok (h : binB K op C f = true) : Bin K op C f := by
  obtain ⟨h1, h⟩ := ba h
  obtain ⟨h2, h⟩ := ba h
  obtain ⟨h3, h4⟩ := ba h
  refine ⟨h1, eqO_ok h2, h3, ?_⟩
  cases e : findIn K (.ref C) (dunderR op.info.2) with
  | none => rw [e] at h4; cases h4
  | some o =>
    rw [e] at h4
    refine ⟨o, rfl, ?_⟩
    cases o with
    | none => exact .inl rfl
    | some v =>
      cases v with
      | ref a => exact .inr ⟨a, rfl⟩
      | _ => cases h4
def binTB (K : Frag) (op : Operator) (C : Addr) (T : String) : Bool := (findIn K (.type T) (PySem.dunder op.info.2)).isSome && ((findIn K (.type T) (dunderR op.info.2)).isSome && decide (subIn K (.type T) (.ref C) = some false))
theorem binTB_ok (h : binTB K op C T = true) : Beside K op C (.type T) := by
  obtain ⟨h1, h⟩ := ba h
  obtain ⟨h2, h3⟩ := ba h
  exact .inr ⟨T, rfl, Option.isSome_iff_exists.mp h1, Option.isSome_iff_exists.mp h2, of_decide_eq_true h3⟩
def binRB (K : Frag) (op : Operator) (C f : Addr) : Bool := selfFirst K C && (fnS (findIn K (.ref C) (PySem.dunder op.info.2)) && (eqO (findIn K (.ref C) (dunderR op.info.2)) (some (some (.ref f))) && (isFn K (.ref f) && decide (subIn K (.ref C) (.type "int") = some false))))
theorem binRB_ok (h : binRB K op C f = true) : BinR K op C f := by
  obtain ⟨h1, h⟩ := ba h
  obtain ⟨h2, h⟩ := ba h
  obtain ⟨h3, h⟩ := ba h
  obtain ⟨h4, h5⟩ := ba h
  refine ⟨h1, ?_, eqO_ok h3, h4, of_decide_eq_true h5⟩
  unfold fnS at h2
  split at h2
  · rename_i a e
    exact ⟨a, e⟩
  · cases h2
def cmpB (K : Frag) (op : CmpOp) (C f : Addr) : Bool := eqO (findIn K (.ref C) (cmpInfo op).2.1) (some (some (.ref f))) && isFn K (.ref f)
theorem cmpB_ok {op : CmpOp} (h : cmpB K op C f = true) : Cmp K op C f := by
  obtain ⟨h1, h2⟩ := ba h
  exact ⟨eqO_ok h1, h2⟩
def neB (K : Frag) (C f : Addr) : Bool := eqO (findIn K (.ref C) "__ne__") (some (some (.builtin "object.__ne__"))) && (eqO (findIn K (.ref C) "__eq__") (some (some (.ref f))) && (isFn K (.ref f) && decide (mroIn K C (.type "object") = some true)))
theorem neB_ok (h : neB K C f = true) : NeC K C f := by
  obtain ⟨h1, h⟩ := ba h
  obtain ⟨h2, h⟩ := ba h
  obtain ⟨h3, h4⟩ := ba h
  exact ⟨eqO_ok h1, eqO_ok h2, h3, of_decide_eq_true h4⟩
def insB (K : Frag) (C : Addr) : Bool := eqO (findIn K (.ref C) "__class__") (some (some (.builtin "object.__class__"))) && (eqO (specialIn K (.builtin "object.__class__") "__get__") (some (some (.builtin "getset_descriptor.__get__"))) &&
  (decide (takesIn K (.builtin "object.__class__") = some true) && (decide (mroIn K C (.type "object") = some true) && decide (kitOne K (.ref C) (.ref C) = some true))))
theorem insB_ok (c : Cls K C) (h : insB K C = true) : C8.InsC K C := by
  obtain ⟨h1, h⟩ := ba h
  obtain ⟨h2, h⟩ := ba h
  obtain ⟨h3, h⟩ := ba h
  obtain ⟨h4, h5⟩ := ba h
  exact ⟨c, eqO_ok h1, eqO_ok h2, of_decide_eq_true h3, of_decide_eq_true h4, of_decide_eq_true h5⟩
/-- a property's getter -/
def getA (C : Str) (m : Str) (K : Frag) : Addr := He5.wf K (ga K C) "property" m
def propB (K : Frag) (C : Addr) (m : Str) (g : Addr) : Bool := eqO (findIn K (.ref C) m) (some (some (.ref (ma K C m)))) && (eqO (specialIn K (.ref (ma K C m)) "__get__") (some (some (.builtin "property.__get__"))) &&
  (decide (takesIn K (.ref (ma K C m)) = some true) && (match recIn K (ma K C m) "property" with
    | some (.ref a :: _) => decide (a = g)
    | _ => false)))
theorem propB_ok {m : Str} {g : Addr} (h : propB K C m g = true) : PropOf K C m (ma K C m) g := by
  obtain ⟨h1, h⟩ := ba h
  obtain ⟨h2, h⟩ := ba h
  obtain ⟨h3, h4⟩ := ba h
  refine ⟨eqO_ok h1, eqO_ok h2, of_decide_eq_true h3, ?_⟩
  split at h4
  · rename_i a r e
    rw [of_decide_eq_true h4] at e
    exact ⟨r, e⟩
  · cases h4
end
end AF
/-! comprehensions over a short range, truths compared, counted -/
namespace AF
open PySem PySem.Spec PyProof.Rows L2
section
variable {H0 : Hp} {M : Addr → Prop} {H : Hp} {l l' : List Ent}
theorem Sh.perm (S : Sh H0 M H l) (p : l.Perm l') : Sh H0 M H l' :=
  ⟨S.fr, fun e he => S.has e (p.mem_iff.mpr he), (p.map tag).pairwise S.ap (fun {a b} h k => (h (k.symm)).symm), fun e he => S.mu e (p.mem_iff.mpr he)⟩
end
section
variable {σ σ' : L2.St} {H : Hp} {Q : VK} {K : PySem.W.Frag} {a b k : Bool} {nx : L2.St → Hp → Prop} {rt : VK} {bk ct : L2.St → Hp → Prop}
theorem g_eqB (q : Q (.bl (decide (a = b))) H) : rEq (.bl a) (.bl b) H Q := ⟨rfl, by
  have e : decide (V.bl a = V.bl b) = decide (a = b) := by rw [dec_bl]; cases a <;> cases b <;> rfl
  rw [e]; exact q⟩
theorem g_neB (q : Q (.bl (!decide (a = b))) H) : rNe (.bl a) (.bl b) H Q := ⟨rfl, by
  have e : decide (V.bl a = V.bl b) = decide (a = b) := by rw [dec_bl]; cases a <;> cases b <;> rfl
  rw [e]; exact q⟩
instance : Step (rEq (.bl a) (.bl b) H Q) (Q (.bl (decide (a = b))) H) := ⟨g_eqB⟩
instance : Step (rNe (.bl a) (.bl b) H Q) (Q (.bl (!decide (a = b))) H) := ⟨g_neB⟩
end
/-- a comprehension over a range of n turns, its variable in slot k -/
def LcR (n k : Nat) (te : TE) (σ : L2.St) (Q : VK) (H : Hp) : Prop := ∀ D, H D = none → ∃ W : Nat → Nat → Hp → Prop, (∃ m, W 0 m (upd H D (.lst []))) ∧ ∀ i m H, W i m H →
  ((Itr 0 n).stop i H ∧ Q (.ref D) H) ∨ ((Itr 0 n).go i H ∧ ∃ Nx : Hp → Prop, (∀ H', Nx H' → ∃ m', m' < m ∧ W (i + 1) m' H') ∧ ∀ x H', (Itr 0 n).yld i H x H' → gName k x (wipe σ [k]) H' fun σ2 H2 => wipe σ2 [k] = wipe σ [k] ∧ tYes σ2 H2 fun b H3 =>
    if b = true then te σ2 H3 fun y H4 => ∃ acc, H4 D = some (.lst acc) ∧ acc.length < sizeLine ∧ Nx (upd H4 D (.lst (acc ++ [y]))) else Nx H3)
/-- behind an element -/
def kEl (D : Addr) (P : Hp → Prop) (y : V) (H : Hp) : Prop := ∃ acc, H D = some (.lst acc) ∧ acc.length < sizeLine ∧ P (upd H D (.lst (acc ++ [y])))
section
variable {σ σ' : L2.St} {H : Hp} {Q : VK} {ta : TA} {te : TE} {k n : Nat}
theorem g_lcR (h : ta σ H (kR1 fun j H1 => LcR j.toNat k te σ Q H1)) : tLc (iRng1 ta) (gName k) tYes te [k] σ H Q := h
instance {x : Str} : Step (tLc (iRng1 ta) (gName k) tYes te (List.map (fun x => x.snd) [(x, k)]) σ H Q) (ta σ H (kR1 fun j H1 => LcR j.toNat k te σ Q H1)) := ⟨g_lcR⟩
theorem g_lcloop (hk : ∀ x : V, wipe ((wipe σ [k]).set k (some x)) [k] = wipe σ [k]) (Pv : Addr → Nat → Hp → Prop) (h0 : ∀ D, H D = none → Pv D 0 (upd H D (.lst [])))
    (hs : ∀ D (i : Nat) H', i < n → Pv D i H' → te ((wipe σ [k]).set k (some (.int (i : Int)))) H' (kEl D (Pv D (i + 1)))) (hd : ∀ D H', Pv D n H' → Q (.ref D) H') : LcR n k te σ Q H := fun D hD =>
  lc_range (lo := 0) (n := n) (Pv D) (h0 D hD) (fun i H' hi p => by
    have e : (0 : Int) + (i : Int) = (i : Int) := Int.zero_add _
    have q := hs D i H' hi p
    rw [← e] at q
    exact ⟨hk _, iteT (B := Pv D (i + 1) H') q⟩) (hd D)
theorem g_kel {H0 : Hp} {M : Addr → Prop} {l l' : List Ent} {D : Addr} {P : Hp → Prop} {acc : List V} {y : V} (S : Sh H0 M H l) (r : Rep l D (.lst acc) (.lst (acc ++ [y])) l') (hl : acc.length ≤ 1000) (q : ∀ H', Sh H0 M H' l' → P H') : kEl D P y H :=
  ⟨acc, S.has _ r.mem, small1000 hl, q _ (S.put r)⟩
end
theorem g_unl3 {σ σ1 σ2 σ3 : L2.St} {H : Hp} {K : PySem.W.Frag} {p : Addr} {x y z : V} {i j k : Nat} {P : L2.St → Hp → Prop} [h1 : SetI σ i x σ1] [h2 : SetI σ1 j y σ2] [h3 : SetI σ2 k z σ3] (h : H p = some (.lst [x, y, z])) (q : P σ3 H) :
    gUnl K 3 (gCons (gName i) (gCons (gName j) (gCons (gName k) gNil))) (.ref p) σ H P := by
  refine ⟨p, _, rfl, SqL.of h, rfl, x, _, rfl, y, _, rfl, z, _, rfl, rfl, ?_⟩
  rw [h1.eq, h2.eq, h3.eq]
  exact q
instance {te : TE} {K : PySem.W.Frag} {n : Nat} {t : TGs} {nx : L2.St → Hp → Prop} {rt : VK} {bk ct : L2.St → Hp → Prop} {σ : L2.St} {H : Hp} : Step (tAsg te (gUnl K n t) ⟨nx, rt, bk, ct⟩ σ H) (te σ H fun x H1 => gUnl K n t x σ H1 nx) := ⟨fun h => h⟩
/-- list.count of a truth in a list of truths -/
def eqb (k : Bool) (v : Value) : Bool := match v with
  | .bool b => b == k
  | _ => false
def rCntB (K : PySem.W.Frag) : V → List V → Hp → VK → Prop := fun x xs H Q => ∃ (p : Addr) (bs : List Bool) (k : Bool), x = .ref p ∧ xs = [.bl k] ∧ SqL K H p (bs.map V.bl) ∧ Q (.int (bs.count k : Nat)) H
theorem bools_of : ∀ {bs : List Bool} {us : List Value}, Vals (bs.map V.bl) us → us = bs.map Value.bool
  | [], _, .nil => rfl
  | b :: bs, _, .cons r t => by
    cases r
    rw [bools_of t]
    rfl
theorem countP_eqb {k : Bool} : ∀ bs : List Bool, (bs.map Value.bool).countP (eqb k) = bs.count k
  | [] => rfl
  | b :: bs => by
    rw [List.map_cons, List.countP_cons, List.count_cons, countP_eqb bs]
    rfl
theorem mt_bcount {X : Cx} : MtR X "list.count" (rCntB X.K) := by
  intro pins s σ H x xs v us Q I rx rxs h
  obtain ⟨p, bs, k, rfl, rfl, hs, q⟩ := h
  cases rx
  obtain ⟨u, rfl, ru⟩ := rxs.one
  cases ru
  obtain ⟨its, rv, ⟨⟨cls, dd, data, sl⟩, n, ho, hc, hdn, hd⟩, hlen⟩ := I.list hs
  simp only at hc hd
  subst hc hd
  have hi := bools_of rv
  subst hi
  refine call_meets PySem.F.slot_list_count ⟨_, ho, rfl⟩ PySem.F.entry_list_count (PySem.F.args_list_count_2 _ _)
    (SeqAt.list_countAt p (bs.map Value.bool).toArray n dd sl (.bool k) (eqb k)) ⟨ho, fun y hy => ?_, ?_⟩
  · have hy' : y ∈ bs.map Value.bool := List.mem_toArray.mp hy
    obtain ⟨b, _, rfl⟩ := List.mem_map.mp hy'
    exact SeqAt.EqAt.bool_bool b k
  · refine ⟨.int (bs.count k : Nat), H, I.tok _, ⟨s.toks, ?_⟩, q⟩
    show Value.int (((bs.map Value.bool).toArray.toList.countP (eqb k) : Nat) : Int) s.toks = Value.int ((bs.count k : Nat) : Int) s.toks
    rw [show ((bs.map Value.bool).toArray.toList) = bs.map Value.bool from rfl, countP_eqb]
def kBM (K : PySem.W.Frag) (T : String) (r : V → List V → Hp → VK → Prop) (t : TA) (σ : L2.St) (Q : VK) (x : V) (H : Hp) : Prop := tyV K T x H ∧ t σ H fun xs H2 => r x xs H2 Q
instance {K : PySem.W.Frag} {T : String} {r : V → List V → Hp → VK → Prop} {to : TE} {t : TA} {σ : L2.St} {H : Hp} {Q : VK} : Step (tBM K T r to t σ H Q) (to σ H (kBM K T r t σ Q)) := ⟨fun h => h⟩
/-- xs.count(k), xs just made -/
theorem g_cnt3 {H0 : Hp} {M : Addr → Prop} {l : List Ent} {σ : L2.St} {H : Hp} {Q : VK} {K : PySem.W.Frag} {p : Addr} {x y z : Bool} (S : Sh H0 M H l) (o : On l p (.lst [.bl x, .bl y, .bl z]))
    (q : Q (.int (([x, y, z] : List Bool).count true : Nat)) H) : kBM K "list" (rCntB K) (tCons (tC (.bl true)) tNil) σ Q (.ref p) H :=
  ⟨.inl ⟨rfl, _, SqL.of (S.has_ o)⟩, p, [x, y, z], true, rfl, rfl, SqL.of (S.has_ o), q⟩
end AF
/-! dicts: written ones with texts for keys, and new ones -/
namespace AF
open PySem PySem.Spec PyProof.Rows L2
/-- what stands at a key of a written dict, or the other value -/
def Here (r : Option Value) (v z : V) : Prop := match r with
  | some u => RelV v u
  | none => v = z
def tKGet (K : PySem.W.Frag) (d : Addr) (td ty tx : TE) : TE := fun σ H Q => td σ H fun x H1 => x = .ref d ∧ ty σ H1 fun y H2 => tx σ H2 fun z H3 => ∃ (k : Str) (r : Option Value) (v : V), y = .str k ∧ PySem.W.nsIn K d k = some r ∧ Here r v z ∧ Q v H3
theorem pe_kget {X : Cx} {d : Addr} {o e f : Expr} {apos cpos : Pos} {td ty tx : TE} (D : ∃ es n, KDict X.K X.w d es n) (ho : PE X o td) (he : PE X e ty) (hf : PE X f tx) (m : M2 X o "get" apos e f cpos) :
    PE X (.Call (.Attribute o "get" apos) [e, f] [] cpos) (tKGet X.K d td ty tx) := by
  obtain ⟨es, n, D⟩ := D
  refine ⟨fun pins s σ H Q I h => ?_⟩
  refine wpAny_Call_method m.base m.few m.line PySem.F.plainAttrs_dict PySem.F.slot_dict_get PySem.F.type_dict_get (thn (ho.run pins s σ H _ I h) fun u s1 ⟨x, H1, I1, rx, ex, q1⟩ => ?_)
  subst ex
  obtain rfl : u = Value.ref d := rx
  refine ⟨kd_type D I1, fun b q => ?_, ?_⟩
  · cases q
    exact ⟨_, I1.kIn _ _ D.at_, rfl⟩
  rw [m.trees]
  refine Calls.callWith_builtin rfl (Calls.evalArgs_plain (Calls.spliced_cons (thn (he.run pins s1 σ H1 _ I1 q1) fun iv s2 ⟨y, H2, I2, ry, q2⟩ =>
    Calls.spliced_cons (thn (hf.run pins s2 σ H2 _ I2 q2) fun fv s3 ⟨z, H3, I3, rz, k, r, v, ey, hk, hv, q3⟩ => Calls.spliced_nil ?_))))
  subst ey
  obtain ⟨t, rfl⟩ := ry
  refine call_meetsIn PySem.F.slot_dict_get (kd_type D I3) PySem.F.entry_dict_get (PySem.F.args_dict_get_3 _ _ _) (meets_dict_get_default (strKind X.prog X.w) d (PySem.strKind_is X.prog X.w k t) D.low fv) ⟨_, PySem.W.mapOf_K (prog := X.prog) I3.kIn D.at_ D.lit, ?_⟩
  rw [PySem.W.find_K D.at_ hk]
  cases r with
  | none =>
    have e : v = z := hv
    subst e
    exact ⟨v, H3, I3.tok _, rz, q3⟩
  | some u => exact ⟨v, H3, I3.tok _, hv, q3⟩
/-- a written tuple -/
def KT (K : PySem.W.Frag) (a : Addr) (xs : List V) : Prop := ∃ (o : Obj) (its : Array Value) (n : Nat), K.lookup a = some o ∧ o.cls = .type "tuple" ∧ o.data = .seq its n ∧ its.size ≤ sizeLine ∧ Vals xs its.toList
theorem KT.sq {K : PySem.W.Frag} {a : Addr} {xs : List V} {H : Hp} (h : KT K a xs) : SqT K H a xs := .inr h
/-- turn by turn -/
def Each (g : TG) (tb : TS) (D : Ends) : List V → L2.St → Hp → Prop
  | [] => D.nx
  | x :: r => fun σ H => g x σ H fun σ2 H2 => tb { D with nx := Each g tb D r, ct := Each g tb D r, bk := D.nx } σ2 H2
def kTurn (K : PySem.W.Frag) (g : TG) (tb : TS) (D : Ends) (σ : L2.St) : V → Hp → Prop := fun x H => ∃ a, x = .ref a ∧ (∃ xs, SqT K H a xs) ∧ ∃ W : Nat → Nat → L2.St → Hp → Prop, (∃ m, W 0 m σ H) ∧ ∀ i m σ H, W i m σ H →
  ((Itt K a).stop i H ∧ D.nx σ H) ∨ ((Itt K a).go i H ∧ ∃ N : L2.St → Hp → Prop, (∀ σ' H', N σ' H' → ∃ m', m' < m ∧ W (i + 1) m' σ' H') ∧ ∀ x H', (Itt K a).yld i H x H' → g x σ H' fun σ2 H2 => tb { D with nx := N, ct := N, bk := D.nx } σ2 H2)
instance {K : PySem.W.Frag} {ta : TE} {g : TG} {tb : TS} {D : Ends} {σ : L2.St} {H : Hp} : Step (tFor (iTup K ta) g tb D σ H) (ta σ H (kTurn K g tb D σ)) := ⟨fun h => h⟩
theorem g_turn {K : PySem.W.Frag} {a : Addr} {xs : List V} {g : TG} {tb : TS} {D : Ends} {σ : L2.St} {H : Hp} (h : KT K a xs) (q : Each g tb D xs σ H) : kTurn K g tb D σ (.ref a) H := by
  refine ⟨a, rfl, ⟨xs, h.sq⟩, for_tup (fun i σ H => Each g tb D (xs.drop i) σ H) q (fun _ _ _ _ _ => h.sq) (fun i x σ H hx p => ?_) fun σ H p => ?_⟩
  · obtain ⟨hi, e⟩ := List.getElem?_eq_some_iff.mp hx
    rw [List.drop_eq_getElem_cons hi, e] at p
    exact p
  · rw [List.drop_length] at p
    exact p
instance {i : Nat} {tb : TS} {nx bk ct : L2.St → Hp → Prop} {rt : VK} {x : V} {r : List V} {σ : L2.St} {H : Hp} : Step (Each (gName i) tb ⟨nx, rt, bk, ct⟩ (x :: r) σ H) (tb ⟨Each (gName i) tb ⟨nx, rt, bk, ct⟩ r, rt, nx, Each (gName i) tb ⟨nx, rt, bk, ct⟩ r⟩ (σ.set i (some x)) H) := ⟨fun h => h⟩
instance {g : TG} {tb : TS} {nx bk ct : L2.St → Hp → Prop} {rt : VK} {σ : L2.St} {H : Hp} : Step (Each g tb ⟨nx, rt, bk, ct⟩ [] σ H) (nx σ H) := ⟨fun h => h⟩
section
variable {K : PySem.W.Frag} {d a p : Addr} {H H0 : Hp} {M : Addr → Prop} {l l' : List Ent} {Q : VK} {z : Str} {xs : List V} {i : Int} {v : V} {σ : L2.St} {td ty tx : TE}
theorem g_ixT (h : H p = some (.tup xs)) (ha : atI xs i = some v) (q : Q v H) : rIxT K (.ref p) (.int i) H Q := ⟨p, xs, i, v, rfl, rfl, SqT.of h, ha, q⟩
theorem g_inT {x : V} {r : Bool} (h : H p = some (.tup xs)) (fx : flatV x = true) (fs : xs.all flatV = true) (e : inV x xs = r) (q : Q (.bl r) H) : rIn K false x (.ref p) H Q := ⟨p, xs, rfl, .inr (SqT.of h), fx, fs, by rw [e]; exact q⟩
theorem g_ninT {x : V} {r : Bool} (h : H p = some (.tup xs)) (fx : flatV x = true) (fs : xs.all flatV = true) (e : inV x xs = r) (q : Q (.bl (!r)) H) : rIn K true x (.ref p) H Q := ⟨p, xs, rfl, .inr (SqT.of h), fx, fs, by rw [e]; exact q⟩
theorem g_inKT {x : V} {r : Bool} (h : KT K p xs) (fx : flatV x = true) (fs : xs.all flatV = true) (e : inV x xs = r) (q : Q (.bl r) H) : rIn K false x (.ref p) H Q := ⟨p, xs, rfl, .inr h.sq, fx, fs, by rw [e]; exact q⟩
/-- x in d, d a written dict -/
def rInK (K : PySem.W.Frag) (d : Addr) (neg : Bool) : R2 := fun x y H Q => ∃ (z : Str) (r : Option Value), x = .str z ∧ y = .ref d ∧ PySem.W.nsIn K d z = some r ∧ Q (.bl (if neg then !r.isSome else r.isSome)) H
theorem op_inK {X : Cx} {d : Addr} (D : ∃ es n, KDict X.K X.w d es n) : OpR X (compareOp .In) (rInK X.K d false) := by
  obtain ⟨es, n, D⟩ := D
  exact op_in_kd D
theorem op_notInK {X : Cx} {d : Addr} (D : ∃ es n, KDict X.K X.w d es n) : OpR X (compareOp .NotIn) (rInK X.K d true) := by
  obtain ⟨es, n, D⟩ := D
  exact op_notIn_kd D
theorem g_inK {r : Option Value} (e : PySem.W.nsIn K d z = some r) (q : Q (.bl r.isSome) H) : rInK K d false (.str z) (.ref d) H Q := ⟨z, r, rfl, rfl, e, q⟩
theorem g_ninK {r : Option Value} (e : PySem.W.nsIn K d z = some r) (q : Q (.bl (!r.isSome)) H) : rInK K d true (.str z) (.ref d) H Q := ⟨z, r, rfl, rfl, e, q⟩
theorem g_ixK {w : World} {u : Value} (D : ∃ es n, KDict K w d es n) (e : PySem.W.nsIn K d z = some (some u)) (hv : RelV v u) (q : Q v H) : rIxD K w (.ref d) (.str z) H Q := by
  obtain ⟨es, n, D⟩ := D
  exact ⟨d, z, v, rfl, rfl, ⟨es, n, u, D.at_, D.lit, e, hv⟩, q⟩
theorem g_ixKr {w : World} {t : Addr} (D : ∃ es n, KDict K w d es n) (e : PySem.W.nsIn K d z = some (some (.ref t))) (q : Q (.ref t) H) : rIxD K w (.ref d) (.str z) H Q := g_ixK (v := .ref t) D e rfl q
/-- what .get asks behind its parts -/
def kKG3 (K : PySem.W.Frag) (d : Addr) (Q : VK) (y : V) : VK := fun z H3 => ∃ (k : Str) (r : Option Value) (v : V), y = .str k ∧ PySem.W.nsIn K d k = some r ∧ Here r v z ∧ Q v H3
def kKG1 (K : PySem.W.Frag) (d : Addr) (ty tx : TE) (σ : L2.St) (Q : VK) : VK := fun x H1 => x = .ref d ∧ ty σ H1 fun y H2 => tx σ H2 (kKG3 K d Q y)
instance : Step (tKGet K d td ty tx σ H Q) (td σ H (kKG1 K d ty tx σ Q)) := ⟨fun h => h⟩
instance : Step (kKG1 K d ty tx σ Q (.ref d) H) (ty σ H fun y H2 => tx σ H2 (kKG3 K d Q y)) := ⟨fun h => ⟨rfl, h⟩⟩
theorem g_kg {r : Option Value} {y : V} (e : PySem.W.nsIn K d z = some r) (hv : Here r v y) (q : Q v H) : kKG3 K d Q (.str z) y H := ⟨z, r, v, rfl, e, hv, q⟩
theorem g_kgR {t : Addr} {y : V} (e : PySem.W.nsIn K d z = some (some (.ref t))) (q : Q (.ref t) H) : kKG3 K d Q (.str z) y H := g_kg (v := .ref t) e (show L2.RelV (.ref t) (.ref t) from rfl) q
theorem g_kg0 {y : V} (e : PySem.W.nsIn K d z = some none) (q : Q y H) : kKG3 K d Q (.str z) y H := g_kg (v := y) e rfl q
theorem g_dnew (S : Sh H0 M H l) (q : ∀ p H', H p = none → Sh H0 M H' ((p, .dK [], true) :: l) → Q (.ref p) H') : tDNewK σ H Q := fun p hp => q p _ hp (S.new hp)
theorem g_setD {kvs kvs' : List (Key × V)} {P : Hp → Prop} (S : Sh H0 M H l) (r : Rep l p (.dK kvs) (.dK kvs') l') (hn : Nat.blt kvs.length 1000 = true) (e : putK kvs (.inr z) v = kvs') (q : ∀ H', Sh H0 M H' l' → P H') : rSetD (.ref p) (.str z) v H P := by
  subst e
  exact ⟨p, _, rfl, .inl ⟨kvs, .inr z, S.has _ r.mem, rfl, Nat.lt_trans (Nat.le_of_ble_eq_true hn) (small1000 (Nat.le_refl _)), rfl⟩, q _ (S.put r)⟩
end
/-- d[k] of a dict that stands in the heap -/
def kDG (Q : VK) (x : V) : VK := fun y H2 => ∃ a v, x = .ref a ∧ DGet H2 a y (some v) ∧ Q v H2
section
variable {K : PySem.W.Frag} {d a p : Addr} {H H0 : Hp} {M : Addr → Prop} {l l' : List Ent} {Q : VK} {z : Str} {xs : List V} {v : V} {σ : L2.St} {td ty tx : TE} {kvs : List (Key × V)}
instance : Step (tDGet td ty σ H Q) (td σ H fun x H1 => ty σ H1 (kDG Q x)) := ⟨fun h => h⟩
theorem g_dg (h : H a = some (.dK kvs)) (e : valV kvs (.inr z) = some v) (q : Q v H) : kDG Q (.ref a) (.str z) H := by
  refine ⟨a, v, rfl, ?_, q⟩
  rw [← e]
  exact DGet.k (k := .inr z) h
/-- dict(d) -/
def rDictD : List V → Hp → VK → Prop := fun xs H Q => ∃ (a : Addr) (kvs : List (Key × V)), xs = [.ref a] ∧ Rd H a (.dK kvs) ∧ ∀ p, H p = none → Q (.ref p) (upd H p (.dK kvs))
theorem cl_dictD {X : Cx} : CallR X (.type "dict") rDictD := call_dictD
theorem g_dictD (S : Sh H0 M H l) (h : H a = some (.dK kvs)) (q : ∀ p H', H p = none → Sh H0 M H' ((p, .dK kvs, true) :: l) → Q (.ref p) H') : rDictD [.ref a] H Q := ⟨a, kvs, rfl, .inl h, fun p hp => q p _ hp (S.new hp)⟩
end
end AF
/-! static methods called by their class -/
namespace AF
open PySem PySem.Spec PyProof.Rows L2
/-- C.m is a static method: its record at p, its def at g -/
structure SMet (K : PySem.W.Frag) (C : Addr) (m : Str) (p g : Addr) : Prop where
  rd : ClX.CRead K C (.type "type")
  at_ : PySem.W.findCls K (.ref C) (.type "type") m = some (.get (.builtin "staticmethod.__get__") (.ref p) .none (.ref C))
  rc : ∃ rest, PySem.W.recIn K p "staticmethod" = some (.ref g :: rest)
section
variable {X : Cx} {k : Nat} {C p g : Addr} {ps : List Str} {sp : Sp} {E : XK} {o e : Expr} {es : List Expr} {m x : Str} {pos apos p1 : Pos} {t : TA} {pl : Sem Bool}
theorem getsm_ok {A : Around} {E : Value → Shared → Prop} {pins : List (Addr × Obj)} {σ : L2.St} {H : Hp} {s : Shared} {Q : Value × List Value → Shared → Prop} (I : Inv X pins σ H s) (c : SMet X.K C m p g)
    (h : ∀ s', Inv X pins σ H s' → Q (.ref g, []) s') : wpAny (model X.prog X.w) A (getMethod (.ref C) m pl) Q E s := by
  obtain ⟨rest, hp⟩ := c.rc
  refine PySem.W.method_cls I.kIn c.rd.ga (PySem.W.cls_bind I.kIn c.rd.rd c.at_ ?_)
  exact wpAny_call (PySem.W.sm_get (s := { s with toks := s.toks + 1 }) I.kIn hp (PySem.W.handed_on rfl (h _ (I.tok _))))
theorem pe_sm (c : SMet X.K C m p g) (D : Dn X.prog X.w X.K X.mg X.base k g ps sp) (hr : Room k X.A) (hg : Gl X x) (hm : X.mg x = some (.ref C)) (hx : Passes (L2.CX X.prog X.w) X E) (ha : PA X (e :: es) t) (hdb : (x == ("__debug__" : Str)) = false := by decide)
    (hst : starEach (e :: es) X.env = (false, eval e X.env) :: starEach es X.env := by rfl) (hpl : (backTo pos (starEach es X.env)).any (·.1) = false := by rfl)
    (ht : eval (.Call (.Attribute (.Name x p1) m apos) (e :: es) [] pos) X.env = (do
      let ov ← eval (.Name x p1) X.env
      standAt apos.atName
      let (f, first) ← holding [ov] (getMethod ov m pl)
      callWith pos f first (backTo pos (starEach (e :: es) X.env)) (backToKw pos (keywordEach [] X.env))) := by rfl) :
    PE X (.Call (.Attribute (.Name x p1) m apos) (e :: es) [] pos) (tCall sp [] E t) := by
  obtain ⟨fd, F, b⟩ := D.ex
  refine ⟨fun pins s σ H Q I h => ?_⟩
  have hn : PE X (.Name x p1) (tC (.ref C)) := pe_glob (v := .ref C) hg hm rfl hdb
  refine PySem.W.methodCall_KW (pl := pl) (thn (hn.run pins s σ H (fun v H1 => v = .ref C ∧ tCall sp [] E t σ H1 Q) I ⟨rfl, h⟩) fun u s1 ⟨y, H1, I1, rx, ex, q⟩ => ?_) ht
  subst ex
  obtain rfl : u = Value.ref C := rx
  refine getsm_ok I1 c fun s2 I2 => ?_
  refine PySem.W.callWith_K (first := []) (h₀ := X.base) I.ok.mod.kin D.kp (thn (ha.run pos pins s2 σ H1 _ I2 q) fun us s3 ⟨vs, H2, I3, r, q2⟩ => ⟨I3.kIn, ?_⟩) hst hpl
  exact run_fn (us := us) (vs := vs) F hr b .nil hx I3 r q2
theorem pe_sm0 (c : SMet X.K C m p g) (D : Dn X.prog X.w X.K X.mg X.base k g [] sp) (hr : Room k X.A) (hg : Gl X x) (hm : X.mg x = some (.ref C)) (hx : Passes (L2.CX X.prog X.w) X E) (hdb : (x == ("__debug__" : Str)) = false := by decide)
    (ht : eval (.Call (.Attribute (.Name x p1) m apos) [] [] pos) X.env = (do
      let ov ← eval (.Name x p1) X.env
      standAt apos.atName
      let (f, first) ← holding [ov] (getMethod ov m pl)
      callWith pos f first (backTo pos (starEach [] X.env)) (backToKw pos (keywordEach [] X.env))) := by rfl) :
    PE X (.Call (.Attribute (.Name x p1) m apos) [] [] pos) (tCall sp [] E tNil) := by
  obtain ⟨fd, F, b⟩ := D.ex
  refine ⟨fun pins s σ H Q I h => ?_⟩
  have hn : PE X (.Name x p1) (tC (.ref C)) := pe_glob (v := .ref C) hg hm rfl hdb
  refine PySem.W.methodCall_KW (pl := pl) (thn (hn.run pins s σ H (fun v H1 => v = .ref C ∧ tCall sp [] E tNil σ H1 Q) I ⟨rfl, h⟩) fun u s1 ⟨y, H1, I1, rx, ex, q⟩ => ?_) ht
  subst ex
  obtain rfl : u = Value.ref C := rx
  refine getsm_ok I1 c fun s2 I2 => ?_
  exact PySem.W.callWith_K0 I2.kIn D.kp (run_fn (us := []) (vs := []) F hr b .nil hx I2 .nil q)
end
/-! the facts as truths -/
def smB (K : PySem.W.Frag) (C : Addr) (m : Str) (p g : Addr) : Bool := PySem.W.readsIn K C (.type "type") && (He.eqO (PySem.W.specialIn K (.ref C) "__getattribute__") (some (some (.builtin "type.__getattribute__"))) &&
  ((match PySem.W.findCls K (.ref C) (.type "type") m with
    | some (.get (.builtin b) (.ref q) .none (.ref D)) => decide (b = "staticmethod.__get__") && (decide (q = p) && decide (D = C))
    | _ => false) &&
  (match PySem.W.recIn K p "staticmethod" with
    | some (.ref a :: _) => decide (a = g)
    | _ => false)))
theorem smB_ok {K : PySem.W.Frag} {C p g : Addr} {m : Str} (h : smB K C m p g = true) : SMet K C m p g := by
  obtain ⟨h1, h⟩ := He.ba h
  obtain ⟨h2, h⟩ := He.ba h
  obtain ⟨h3, h4⟩ := He.ba h
  refine ⟨⟨h1, He.eqO_ok h2⟩, ?_, ?_⟩
  · split at h3
    · rename_i b q D e
      obtain ⟨a1, a⟩ := He.ba h3
      obtain ⟨a2, a3⟩ := He.ba a
      rw [e, of_decide_eq_true a1, of_decide_eq_true a2, of_decide_eq_true a3]
    · cases h3
  · split at h4
    · rename_i a r e
      rw [of_decide_eq_true h4] at e
      exact ⟨r, e⟩
    · cases h4
end AF
/-! own errors that keep one value -/
namespace AF
open PySem PySem.Spec PyProof.Rows L2
/-- __init__(self, f): self.f = f -/
def spErr (C : Addr) (f : Str) : Sp := fun vs H Q _ => ∃ (a : Addr) (v : V), vs = [.ref a, v] ∧ H a = some (exo a C none) ∧ ∀ d, H d = none → d ≠ a → Q .non (upd (upd H d (exd d [(f, v)])) a (exo a C (some d)))
theorem read_err {C : Addr} {K : PySem.W.Frag} {f : Str} {N : List Str} {vs : List V} {H : Hp} {Q : VK} {E : XK} {σ : L2.St} (T : OexC K C) (hno : PySem.W.findIn K (.ref C) f = some none) (h : spErr C f vs H Q E) (hσ : Ent0 N vs σ) (h0 : ∀ a v, vs = [V.ref a, v] → σ[0]? = some (some (.ref a)) ∧ σ[1]? = some (some v)) :
    tOst K f (tVar 0) (tVar 1) { nx := fun _ H' => Q .non H', rt := Q } (L2.start N vs) H := by
  obtain ⟨a, v, e, ha, k⟩ := h
  rw [hσ.eq]
  obtain ⟨h1, h2⟩ := h0 a v e
  exact ⟨v, h2, .ref a, h1, a, C, rfl, T, hno, .inl ⟨ha, fun d n1 n2 => k d n1 n2⟩⟩
structure Xn (P : Program) (w : World) (K : PySem.W.Frag) (mg : Str → Option Value) (base : Heap) (k : Nat) (C : Addr) (f : Str) : Prop where
  ex : ∃ fI fd ps, PySem.W.findIn K (.ref C) "__init__" = some (some (.ref fI)) ∧ PySem.W.typeIn K (.ref fI) = some (.type "function") ∧ FnOk P w K mg base (L2.CX P w) k fI fd ps (spErr C f) ∧ Binds K fd ps []
  ox : OexC K C
/-- raise X(e): what is asked behind e -/
def kErr (C : Addr) (f : Str) (W : WX) (σ : L2.St) (v : V) (H1 : Hp) : Prop := ([v] : List V).length ≤ 1000 ∧ ∀ a, H1 a = none → spErr C f (.ref a :: ([v] ++ [])) (upd H1 a (exo a C none))
  (fun u H2 => u = .non ∧ ∃ (d : Addr) (fs : List (Str × V)), H2 a = some (exo a C (some d)) ∧ H2 d = some (exd d fs) ∧ H1 d = none ∧ W (.ref C) (some d) σ (upd (del H2 a) d (.xd fs))) (fun _ _ _ => False)
def tErr (C : Addr) (f : Str) (te : TE) (W : WX) : TS := fun _ σ H => te σ H (kErr C f W σ)
theorem heap_back {H : Hp} {a d : Addr} {o1 o2 o3 o4 : HO} (ha : H a = none) : upd (del (upd (upd (upd H a o1) d o2) a o3) a) d o4 = upd H d o4 := by
  funext b
  by_cases hd : b = d
  · rw [hd, upd_same, upd_same]
  · rw [upd_ne hd, upd_ne hd]
    by_cases hb : b = a
    · rw [hb, del_same, ha]
    · rw [del_ne hb, upd_ne hb, upd_ne hd, upd_ne hb]
theorem g_kerr {C : Addr} {f : Str} {W : WX} {σ : L2.St} {v : V} {H1 : Hp} (q : ∀ d, H1 d = none → W (.ref C) (some d) σ (upd H1 d (.xd [(f, v)]))) : kErr C f W σ v H1 := by
  refine ⟨by simp, fun a ha => ⟨a, v, rfl, upd_same, fun d hd hda => ⟨rfl, d, [(f, v)], upd_same, ?_, ?_, ?_⟩⟩⟩
  · rw [upd_ne hda, upd_same]
  · rw [upd_ne hda] at hd; exact hd
  · rw [heap_back ha]
    rw [upd_ne hda] at hd
    exact q d hd
theorem ps_err {X : Cx} {k : Nat} {C : Addr} {f x : Str} {W : WX} {e : Expr} {te : TE} {p pos pos' : Pos} (D : Xn X.prog X.w X.K X.mg X.base k C f) (hr : Room (k + 1) X.A) (hc : X.calm = true) (tk : Takes X W) (hg : Gl X x) (hm : X.mg x = some (.ref C)) (hx : Passes (L2.CX X.prog X.w) X (fun _ _ _ => False))
    (he : PE X e te) (hst : starEach [e] X.env = (false, eval e X.env) :: starEach [] X.env := by rfl) (hpl : (backTo pos (starEach [] X.env)).any (·.1) = false := by rfl) (hdb : (x == ("__debug__" : Str)) = false := by decide) :
    PS X (.Raise (some (.Call (.Name x p) [e] [] pos)) none pos') (tErr C f te W) := by
  obtain ⟨fI, fd, ps, iC, tI, F, b⟩ := D.ex
  have mk := pmk_oex (pos := pos) (p := p) D.ox iC tI F hr b .nil hx hg hm (pa_cons he pa_nil hst) hdb hst hpl
  exact ps_raise (pos := pos') hc tk mk
/-- an error comes out: its dict is new, all else stays -/
def Err (C : Addr) (f : Str) (v : V) (H : Hp) (E : XK) : Prop := ∀ d H', H d = none → Ch [] H H' → H' d = some (.xd [(f, v)]) → E (.ref C) (some d) H'
theorem g_err {C : Addr} {f : Str} {W : WX} {σ : L2.St} {v : V} {H0 H : Hp} {l : List Ent} {M : Addr → Prop} (S : Sh H0 M H l) (q : ∀ d H', Sh H0 M H' ((d, .xd [(f, v)], true) :: l) → W (.ref C) (some d) σ H') : kErr C f W σ v H :=
  g_kerr fun d hd => q d _ (S.new hd)
instance {C : Addr} {f : Str} {te : TE} {W : WX} {D : Ends} {σ : L2.St} {H : Hp} : Step (tErr C f te W D σ H) (te σ H (kErr C f W σ)) := ⟨fun h => h⟩
theorem end_err {C d : Addr} {f : Str} {v : V} {H H' : Hp} {l : List Ent} {E : XK} (S : Sh H (fun _ => False) H' ((d, .xd [(f, v)], true) :: l)) (k : Err C f v H E) : E (.ref C) (some d) H' :=
  k d H' ((S.mu _ List.mem_cons_self rfl).elim False.elim id) (S.out fun _ h => h.elim) (S.has_ .here)
/-- facts of such a class -/
def tyB : Value → Bool
  | .type n => decide (n = "type")
  | _ => false
def veB : Option Value → Bool
  | some (.builtin n) => decide (n = "ValueError.__new__")
  | _ => false
def slB : List (Option Value) → Bool
  | [_, _, _, _, x, _] => veB x
  | _ => false
def mroB (C : Addr) : List Value → Bool
  | .ref a :: bm => decide (a = C) && PySem.HandSPX.refsVE bm
  | _ => false
def shapeB (C : Addr) : Option Obj → Bool
  | some ⟨cl, _, .cls cd, sl⟩ => tyB cl && (mroB C cd.mro && (cd.hasDict && (!cd.hasDel && slB sl.toList)))
  | _ => false
def oexB (K : PySem.W.Frag) (C : Addr) : Bool := shapeB C (K.lookup C) && (He.eqO (PySem.W.findIn K (.ref C) "__setattr__") (some (some (.builtin "object.__setattr__"))) && (decide (PySem.W.subIn K (.ref C) (.type "BaseException") = some true) &&
  (He.eqO (some (PySem.W.typeIn K (.ref C))) (some (some (.type "type"))) && PySem.W.keepIn K (.ref C))))
theorem shape_ok {C : Addr} {o : Option Obj} (h : shapeB C o = true) : ∃ nm q N bs bm sn sub ab col dd k0 k1 k2 k3 k5, o = some (excClassObj nm q C N bs bm true sn sub ab col dd k0 k1 k2 k3 k5 "ValueError.__new__") ∧ PySem.HandSPX.refsVE bm = true := by
  unfold shapeB at h
  split at h
  · rename_i cl dd cd sl
    obtain ⟨h1, h⟩ := He.ba h
    obtain ⟨h2, h⟩ := He.ba h
    obtain ⟨h3, h⟩ := He.ba h
    obtain ⟨h4, h5⟩ := He.ba h
    obtain ⟨nm, bs, mro, ns, qn, hd, sn, sb, ab, col, del⟩ := cd
    dsimp only at h2 h3 h4
    unfold tyB at h1
    split at h1
    · have e1 := of_decide_eq_true h1
      subst e1
      unfold mroB at h2
      split at h2
      · rename_i a bm
        obtain ⟨h6, h7⟩ := He.ba h2
        have e2 := of_decide_eq_true h6
        subst e2
        subst h3
        have e4 : del = false := by cases del <;> simp_all
        subst e4
        obtain ⟨sl⟩ := sl
        change slB sl = true at h5
        unfold slB at h5
        split at h5
        · rename_i k0 k1 k2 k3 x k5
          unfold veB at h5
          split at h5
          · have e5 := of_decide_eq_true h5
            subst e5
            exact ⟨_, _, _, _, _, _, _, _, _, _, _, _, _, _, _, rfl, h7⟩
          · cases h5
        · cases h5
      · cases h2
    · cases h1
  · cases h
theorem oexB_ok {K : PySem.W.Frag} {C : Addr} (h : oexB K C = true) : OexC K C := by
  obtain ⟨h1, h⟩ := He.ba h
  obtain ⟨h2, h⟩ := He.ba h
  obtain ⟨h3, h⟩ := He.ba h
  obtain ⟨h4, h5⟩ := He.ba h
  exact ⟨shape_ok h1, He.eqO_ok h2, of_decide_eq_true h3, Option.some.inj (He.eqO_ok h4), h5⟩
end AF
/-! o[k] by an own def, a call of an own instance, items of a new dict -/
namespace AF
open PySem PySem.Spec PyProof.Rows L2
open PySem.W (Looks InstAt)
/-- C's __getitem__ is the def at f -/
structure GI (K : PySem.W.Frag) (C f : Addr) : Prop where
  nq : PySem.W.noSeq K C = true
  hs : PySem.W.findIn K (.ref C) "__getitem__" = some (some (.ref f))
  hf : PySem.W.isFn K (.ref f) = true
  hn : PySem.W.fnIn K f = true
/-- C's __call__ is the def at f -/
structure CI (K : PySem.W.Frag) (C f : Addr) : Prop where
  hs : PySem.W.findIn K (.ref C) "__call__" = some (some (.ref f))
  hf : PySem.W.isFn K (.ref f) = true
  hn : PySem.W.fnIn K f = true
def rGI (C : Addr) (sp : Sp) (E : XK) : R2 := fun x y H Q => ∃ a dx fs, x = .ref a ∧ H a = some (.ins C dx fs) ∧ sp [x, y] H Q E
section
variable {X : Cx} {k : Nat} {f C : Addr} {ps : List Str} {sp : Sp} {E : XK} {pos : Pos} {ea eb : Expr} {ta tb : TE}
theorem pe_ixo (D : Dn X.prog X.w X.K X.mg X.base k f ps sp) (B : GI X.K C f) (hr : Room (k + 1) X.A) (hx : Passes (L2.CX X.prog X.w) X E) (ha : PE X ea ta) (hb : PE X eb tb)
    (hs : ∀ v u, subscripted eb true v u = runValue (.builtin "lifetime.subscript" ⟨[v, u], []⟩) := by intro _ _; with_unfolding_all rfl) : PE X (.Subscript ea eb pos) (tOp (rGI C sp E) ta tb) := by
  obtain ⟨fd, F, b⟩ := D.ex
  refine ⟨fun pins s σ H Q I h => ?_⟩
  refine Subscript_ (binT ha hb I h fun v u s2 x y H2 I2 rx ry q => ?_)
  obtain ⟨p, dx, fs, rfl, ho, q⟩ := q
  cases rx
  obtain ⟨mA, J, _⟩ := ins_get I2.hok ho
  obtain ⟨od, J, _⟩ := J.look
  obtain ⟨m, hF⟩ := I2.fr
  have hl := F.len _ _ _ _ q
  have rv : Vals [V.ref p, y] [Value.ref p, u] := .cons rfl (.cons ry .nil)
  refine PySem.W.sub_K hF I2.ok.mod.kin J B.hs B.hn B.hf ?_ (hs _ _)
  refine wpAny_call (codeAny_mono (F.run X.A.in1 X.stack s2 H2 ⟨[.ref p, u], []⟩ [.ref p, u] [.ref p, y] Q E hr.in1 I2.env0.in1 (by
      have := b s2 [.ref p, u] I2.kIn (by simpa using hl)
      simpa using this) rv q) fun r s' hq => ?_)
  cases r with
  | error e => exact hx pins σ H2 s2 e s' I2 hq
  | ok fl =>
    cases fl with
    | ret w => exact I2.after hq
    | next => exact False.elim hq
    | brk => exact False.elim hq
    | cont => exact False.elim hq
end
/-! calls of own instances -/
section
variable {M : Model} {A : Around} {E : Value → Shared → Prop} {s : Shared} {pos : Pos} {x : Addr} {Q : Value → Shared → Prop}
theorem inst_callWith {args : List (Bool × Sem Value)} (hplain : (args.any (·.1) || ([] : List (Option Str × Sem Value)).any (·.1.isNone)) = false)
    (h : wpAny M A (evalArgs (.ref x) true args []) (fun a s₁ => Looks M s₁.heap (keeperOf (.ref x)) .caller ∧ wpAny M A (call (.ref x) a.pos a.kw) Q E s₁) E s) : wpAny M A (callWith pos (.ref x) [] args []) Q E s := by
  unfold callWith
  refine wpAny_bind (wpAny_holding (wpAny_mono h (fun a s₁ h₁ => wpAny_bind (wpAny_standAt ?_)) fun _ _ y => y))
  have L := h₁.1
  simp only [hplain]
  refine wpAny_bind (L.here ?_)
  have tail : ∀ {t : Sem Value}, wpAny M A t Q E s₁ → wpAny M A (t >>= fun r => holding [r] point >>= fun _ => pure r) Q E s₁ :=
    fun ht => wpAny_bind (wpAny_mono ht (fun r s₂ hr => wpAny_bind (wpAny_holding (wpAny_point (wpAny_pure hr)))) fun _ _ y => y)
  exact tail (wpAny_operateT h₁.2)
end
section
variable {X : Cx} {k i : Nat} {f C : Addr} {ps : List Str} {sp : Sp} {E : XK} {pos apos p : Pos} {e o : Expr} {es : List Expr} {x m : Str} {ta : TE} {t : TA}
theorem run_inst {pins : List (Addr × Obj)} {σ : L2.St} {H : Hp} {s : Shared} {Q : VK} {us : List Value} {vs : List V} {a dx : Addr} {fs : List (Str × V)} (D : Dn X.prog X.w X.K X.mg X.base k f ps sp) (c : CI X.K C f) (hr : Room k X.A)
    (hx : Passes (L2.CX X.prog X.w) X E) (I : Inv X pins σ H s) (ho : H a = some (.ins C dx fs)) (r : Vals vs us) (h : sp (.ref a :: vs) H Q E) : wpAny (model X.prog X.w) X.A (call (.ref a) us []) (EP X pins σ Q) X.xe s := by
  obtain ⟨fd, F, b⟩ := D.ex
  obtain ⟨mA, J, _⟩ := ins_get I.hok ho
  obtain ⟨od, J, _⟩ := J.look
  have rr : Vals (V.ref a :: vs) (Value.ref a :: us) := .cons rfl r
  have hl : (Value.ref a :: us).length = ps.length := by rw [← rr.length]; exact F.len _ _ _ _ h
  refine wpAny_call (PySem.W.kco_code I.kIn J rfl c.hs c.hf c.hn (codeAny_mono (F.run X.A X.stack s H ⟨.ref a :: us, []⟩ (.ref a :: us) (.ref a :: vs) Q E hr I.env0 (by
      have := b s (.ref a :: us) I.kIn (by simpa using hl)
      simpa using this) rr h) fun r s' hq => ?_))
  cases r with
  | error e => exact hx pins σ H s e s' I hq
  | ok fl =>
    cases fl with
    | ret u => exact I.after hq
    | next => exact False.elim hq
    | brk => exact False.elim hq
    | cont => exact False.elim hq
theorem inst_keeper {pins : List (Addr × Obj)} {σ : L2.St} {H : Hp} {s : Shared} {M : Model} {a dx : Addr} {fs : List (Str × V)} (I : Inv X pins σ H s) (ho : H a = some (.ins C dx fs)) : Looks M s.heap (keeperOf (.ref a)) .caller := by
  obtain ⟨mA, J, _⟩ := ins_get I.hok ho
  obtain ⟨od, J, _⟩ := J.look
  exact PySem.W.kco_keeper J rfl
/-- an instance is called -/
def kCI (C : Addr) (sp : Sp) (E : XK) (t : TA) (σ : L2.St) (Q : VK) (x : V) (H : Hp) : Prop := ∃ a, x = .ref a ∧ t σ H fun vs H2 => (∃ dx fs, H2 a = some (.ins C dx fs)) ∧ sp (.ref a :: vs) H2 Q E
def tCI (C : Addr) (sp : Sp) (E : XK) (ta : TE) (t : TA) : TE := fun σ H Q => ta σ H (kCI C sp E t σ Q)
theorem inst_go {pins : List (Addr × Obj)} {σ : L2.St} {H : Hp} {s : Shared} {Q : VK} {a : Addr} (D : Dn X.prog X.w X.K X.mg X.base k f ps sp) (c : CI X.K C f) (hr : Room k X.A) (hx : Passes (L2.CX X.prog X.w) X E) (ha : PA X (e :: es) t) (I : Inv X pins σ H s)
    (hst : starEach (e :: es) X.env = (false, eval e X.env) :: starEach es X.env) (hpl : (backTo pos (starEach es X.env)).any (·.1) = false)
    (q : t σ H fun vs H2 => (∃ dx fs, H2 a = some (.ins C dx fs)) ∧ sp (.ref a :: vs) H2 Q E) :
    wpAny (model X.prog X.w) X.A (callWith pos (.ref a) [] (backTo pos (starEach (e :: es) X.env)) []) (EP X pins σ Q) X.xe s := by
  have hs : wpAny (model X.prog X.w) X.A (spliced (backTo pos (starEach (e :: es) X.env))) (fun us s1 => Looks (model X.prog X.w) s1.heap (keeperOf (.ref a)) .caller ∧ wpAny (model X.prog X.w) X.A (call (.ref a) us []) (EP X pins σ Q) X.xe s1) X.xe s :=
    thn (ha.run pos pins s σ H _ I q) fun us s1 ⟨vs, H2, I2, r, ⟨dx, fs, ho⟩, q2⟩ => ⟨inst_keeper I2 ho, run_inst D c hr hx I2 ho r q2⟩
  rw [hst] at hs ⊢
  exact inst_callWith (by show ((false || (backTo pos (starEach es X.env)).any (·.1)) || false) = false; rw [hpl]; rfl) (Calls.evalArgs_plain hs)
theorem pe_ci (D : Dn X.prog X.w X.K X.mg X.base k f ps sp) (c : CI X.K C f) (hr : Room k X.A) (hx : Passes (L2.CX X.prog X.w) X E) (he : PE X (.Name x p) ta) (ha : PA X (e :: es) t)
    (hst : starEach (e :: es) X.env = (false, eval e X.env) :: starEach es X.env := by rfl) (hpl : (backTo pos (starEach es X.env)).any (·.1) = false := by rfl) : PE X (.Call (.Name x p) (e :: es) [] pos) (tCI C sp E ta t) := by
  refine ⟨fun pins s σ H Q I h => ?_⟩
  refine wpAny_Call_Name_kw (thn (he.run pins s σ H _ I h) fun u s1 ⟨y, H1, I1, r1, a, ey, q1⟩ => ?_)
  subst ey
  cases r1
  exact inst_go D c hr hx ha I1 hst hpl q1
/-- .. that is a field -/
def kCF (m : Str) (C : Addr) (sp : Sp) (E : XK) (t : TA) (σ : L2.St) (Q : VK) (C1 : Addr) (x : V) (H : Hp) : Prop := ∃ b dx fs v, x = .ref b ∧ H b = some (.ins C1 dx fs) ∧ fs.lookup m = some v ∧ kCI C sp E t σ Q v H
def tCF (m : Str) (C1 C : Addr) (sp : Sp) (E : XK) (ta : TE) (t : TA) : TE := fun σ H Q => ta σ H (kCF m C sp E t σ Q C1)
theorem pe_cf {pl : Sem Bool} {C1 : Addr} (D : Dn X.prog X.w X.K X.mg X.base k f ps sp) (c : CI X.K C f) (hr : Room k X.A) (hx : Passes (L2.CX X.prog X.w) X E) (c1 : Cls X.K C1) (n1 : NoAttr X.K C1 m) (he : PE X o ta) (ha : PA X (e :: es) t)
    (hst : starEach (e :: es) X.env = (false, eval e X.env) :: starEach es X.env := by rfl) (hpl : (backTo pos (starEach es X.env)).any (·.1) = false := by rfl)
    (ht : eval (.Call (.Attribute o m apos) (e :: es) [] pos) X.env = (do
      let ov ← eval o X.env
      standAt apos.atName
      let (f, first) ← holding [ov] (getMethod ov m pl)
      callWith pos f first (backTo pos (starEach (e :: es) X.env)) (backToKw pos (keywordEach [] X.env))) := by rfl) : PE X (.Call (.Attribute o m apos) (e :: es) [] pos) (tCF m C1 C sp E ta t) := by
  refine ⟨fun pins s σ H Q I h => ?_⟩
  refine PySem.W.methodCall_KW (pl := pl) (thn (he.run pins s σ H _ I h) fun u s1 ⟨y, H1, I1, ry, b, dx, fs, v, ey, ho, hl, q⟩ => ?_) ht
  subst ey
  cases ry
  refine getmeth_fld I1 ho c1 n1 hl fun u s2 I2 rv => ?_
  obtain ⟨a, ev, q⟩ := q
  subst ev
  cases rv
  exact inst_go D c hr hx ha I2 hst hpl q
section
variable {σ : L2.St} {H : Hp} {Q : VK} {a b dx C1 : Addr} {fs : List (Str × V)} {v : V}
instance : Step (tCI C sp E ta t σ H Q) (ta σ H (kCI C sp E t σ Q)) := ⟨fun h => h⟩
instance : Step (tCF m C1 C sp E ta t σ H Q) (ta σ H (kCF m C sp E t σ Q C1)) := ⟨fun h => h⟩
theorem g_kci (q : t σ H fun vs H2 => (∃ dx fs, H2 a = some (.ins C dx fs)) ∧ sp (.ref a :: vs) H2 Q E) : kCI C sp E t σ Q (.ref a) H := ⟨a, rfl, q⟩
theorem g_kcf (ho : H b = some (.ins C1 dx fs)) (hl : fs.lookup m = some v) (q : kCI C sp E t σ Q v H) : kCF m C sp E t σ Q C1 (.ref b) H := ⟨b, dx, fs, v, rfl, ho, hl, q⟩
end
end
/-! the items of a dict that is looked at and not written any more -/
def kLk (Q : VK) (x : V) (H : Hp) : Prop := ∃ d kvs, x = .ref d ∧ H d = some (.dK kvs) ∧ ∀ od, Q (.ref d) (upd H d (.frz od (.dK kvs)))
def tLk (td : TE) : TE := fun σ H Q => td σ H (kLk Q)
section
variable {X : Cx} {e : Expr} {td : TE}
theorem pe_lk (h : PE X e td) : PE X e (tLk td) := by
  refine ⟨fun pins s σ H Q I hw => ?_⟩
  refine thn (h.run pins s σ H _ I hw) fun v s1 ⟨x, H1, I1, r, d, kvs, ex, hd, q⟩ => ?_
  subst ex
  obtain ⟨od, I2⟩ := I1.lock hd True.intro
  exact ⟨_, _, I2, r, q od⟩
theorem g_lk {H0 H : Hp} {M : Addr → Prop} {l : Obj → List Ent} {l0 : List Ent} {d : Addr} {kvs : List (Key × V)} {Q : VK} (S : Sh H0 M H l0) (r : ∀ od, Rep l0 d (.dK kvs) (.frz od (.dK kvs)) (l od)) (q : ∀ od H', Sh H0 M H' (l od) → Q (.ref d) H') : kLk Q (.ref d) H :=
  ⟨d, kvs, rfl, S.has _ (r ⟨.type "dict", none, .plain, #[]⟩).mem, fun od => q od _ (S.put (r od))⟩
instance {σ : L2.St} {H : Hp} {Q : VK} : Step (tLk td σ H Q) (td σ H (kLk Q)) := ⟨fun h => h⟩
/-- .. by the steps: d stays so, item by item -/
def EachI (g : TG) (tb : TS) (D : Ends) (d : Addr) (u : HO) : List (Key × V) → L2.St → Hp → Prop
  | [] => fun σ H => H d = some u ∧ D.nx σ H
  | (k, v) :: r => fun σ H => H d = some u ∧ ∀ T, H T = none → g (.ref T) σ (upd H T (.tup [kV k, v])) fun σ2 H2 => tb { D with nx := EachI g tb D d u r, ct := EachI g tb D d u r, bk := D.nx } σ2 H2
theorem eachI_frz {g : TG} {tb : TS} {D : Ends} {d : Addr} {u : HO} {σ : L2.St} {H : Hp} : ∀ {l : List (Key × V)}, EachI g tb D d u l σ H → H d = some u
  | [], h => h.1
  | _ :: _, h => h.1
def kIt (g : TG) (tb : TS) (D : Ends) (σ : L2.St) (x : V) (H1 : Hp) : Prop := ∃ d o kvs, x = .ref d ∧ H1 d = some (.frz o (.dK kvs)) ∧ ∃ W : Nat → Nat → L2.St → Hp → Prop, (∃ m, W 0 m σ H1) ∧ ∀ i m σ H, W i m σ H →
  ((Iti d o kvs).stop i H ∧ D.nx σ H) ∨ ((Iti d o kvs).go i H ∧ ∃ N : L2.St → Hp → Prop, (∀ σ' H', N σ' H' → ∃ m', m' < m ∧ W (i + 1) m' σ' H') ∧ ∀ x H', (Iti d o kvs).yld i H x H' → g x σ H' fun σ2 H2 => tb { D with nx := N, ct := N, bk := D.nx } σ2 H2)
instance {g : TG} {tb : TS} {D : Ends} {σ : L2.St} {H : Hp} : Step (tFor (iItems (tLk td)) g tb D σ H) (td σ H (kLk (kIt g tb D σ))) := ⟨fun h => h⟩
theorem g_it {g : TG} {tb : TS} {D : Ends} {σ : L2.St} {H : Hp} {d : Addr} {o : Obj} {kvs : List (Key × V)} (hd : H d = some (.frz o (.dK kvs))) (q : EachI g tb D d (.frz o (.dK kvs)) kvs σ H) : kIt g tb D σ (.ref d) H := by
  refine ⟨d, o, kvs, rfl, hd, fun i m σ H => m = kvs.length - i ∧ i ≤ kvs.length ∧ EachI g tb D d (.frz o (.dK kvs)) (kvs.drop i) σ H, ⟨kvs.length, by simp, Nat.zero_le _, q⟩, ?_⟩
  rintro i m σ H ⟨rfl, hi, p⟩
  have hf := eachI_frz p
  by_cases hlt : i < kvs.length
  · refine .inr ⟨⟨hf, hlt⟩, fun σ' H' => EachI g tb D d (.frz o (.dK kvs)) (kvs.drop (i + 1)) σ' H', fun σ' H' p' => ⟨kvs.length - (i + 1), by omega, rfl, hlt, p'⟩, fun x H' y => ?_⟩
    obtain ⟨T, k, v, e, rfl, hT, rfl⟩ := y
    obtain ⟨hi', e2⟩ := List.getElem?_eq_some_iff.mp e
    rw [List.drop_eq_getElem_cons hlt, e2] at p
    exact p.2 T hT
  · have e : i = kvs.length := by omega
    subst e
    rw [List.drop_length] at p
    exact .inl ⟨⟨hf, Nat.le_refl _⟩, p.2⟩
theorem g_each1 {g : TG} {tb : TS} {nx bk ct : L2.St → Hp → Prop} {rt : VK} {σ : L2.St} {H0 H : Hp} {M : Addr → Prop} {l : List Ent} {d : Addr} {u : HO} {k : Key} {v : V} {r : List (Key × V)} (S : Sh H0 M H l) (hd : H d = some u)
    (q : ∀ T H', Sh H0 M H' ((T, .tup [kV k, v], true) :: l) → g (.ref T) σ H' fun σ2 H2 => tb ⟨EachI g tb ⟨nx, rt, bk, ct⟩ d u r, rt, nx, EachI g tb ⟨nx, rt, bk, ct⟩ d u r⟩ σ2 H2) : EachI g tb ⟨nx, rt, bk, ct⟩ d u ((k, v) :: r) σ H :=
  ⟨hd, fun T hT => q T _ (S.new hT)⟩
theorem g_each0 {g : TG} {tb : TS} {nx bk ct : L2.St → Hp → Prop} {rt : VK} {σ : L2.St} {H : Hp} {d : Addr} {u : HO} (hd : H d = some u) (q : nx σ H) : EachI g tb ⟨nx, rt, bk, ct⟩ d u [] σ H := ⟨hd, q⟩
theorem g_tup2 {σ σ1 σ2 : L2.St} {H : Hp} {K : PySem.W.Frag} {p : Addr} {x y : V} {i j : Nat} {P : L2.St → Hp → Prop} [h1 : SetI σ i x σ1] [h2 : SetI σ1 j y σ2] (h : H p = some (.tup [x, y])) (q : P σ2 H) :
    gTup K 2 (gCons (gName i) (gCons (gName j) gNil)) (.ref p) σ H P := by
  refine ⟨p, _, rfl, SqT.of h, rfl, x, _, rfl, y, _, rfl, rfl, ?_⟩
  rw [h1.eq, h2.eq]
  exact q
/-! {k: v for a, b in d.items()} of a dict that is looked at alone -/
def EachC (g : TG) (tt : TT) (tk tv : TE) (vs : List Nat) (σ : L2.St) (Q : VK) (D d : Addr) (u : HO) : List (Key × V) → Hp → Prop
  | [] => fun H => H d = some u ∧ Q (.ref D) H
  | (k, v) :: r => fun H => H d = some u ∧ ∀ T, H T = none → g (.ref T) (wipe σ vs) (upd H T (.tup [kV k, v])) fun σ2 H2 => wipe σ2 vs = wipe σ vs ∧ tt σ2 H2 fun b H3 =>
      if b = true then tk σ2 H3 fun y H4 => tv σ2 H4 fun z H5 => ∃ kvs k, y = kV k ∧ H5 D = some (.dK kvs) ∧ kvs.length < sizeLine ∧ EachC g tt tk tv vs σ Q D d u r (upd H5 D (.dK (putK kvs k z))) else EachC g tt tk tv vs σ Q D d u r H3
theorem eachC_frz {g : TG} {tt : TT} {tk tv : TE} {vs : List Nat} {σ : L2.St} {Q : VK} {D d : Addr} {u : HO} {H : Hp} : ∀ {l : List (Key × V)}, EachC g tt tk tv vs σ Q D d u l H → H d = some u
  | [], h => h.1
  | _ :: _, h => h.1
def kDc (g : TG) (tt : TT) (tk tv : TE) (vs : List Nat) (σ : L2.St) (Q : VK) (x : V) (H1 : Hp) : Prop := ∃ d o kvs, x = .ref d ∧ H1 d = some (.frz o (.dK kvs)) ∧ ∀ D, H1 D = none → ∃ W : Nat → Nat → Hp → Prop, (∃ m, W 0 m (upd H1 D (.dK []))) ∧ ∀ i m H, W i m H →
  ((Iti d o kvs).stop i H ∧ Q (.ref D) H) ∨ ((Iti d o kvs).go i H ∧ ∃ Nx : Hp → Prop, (∀ H', Nx H' → ∃ m', m' < m ∧ W (i + 1) m' H') ∧ ∀ x H', (Iti d o kvs).yld i H x H' → g x (wipe σ vs) H' fun σ2 H2 => wipe σ2 vs = wipe σ vs ∧ tt σ2 H2 fun b H3 =>
    if b = true then tk σ2 H3 fun y H4 => tv σ2 H4 fun z H5 => ∃ kvs k, y = kV k ∧ H5 D = some (.dK kvs) ∧ kvs.length < sizeLine ∧ Nx (upd H5 D (.dK (putK kvs k z))) else Nx H3)
instance {g : TG} {tt : TT} {tk tv : TE} {vs : List Nat} {σ : L2.St} {H : Hp} {Q : VK} : Step (tDc (iItems (tLk td)) g tt tk tv vs σ H Q) (td σ H (kLk (kDc g tt tk tv vs σ Q))) := ⟨fun h => h⟩
theorem g_dc {g : TG} {tt : TT} {tk tv : TE} {vs : List Nat} {σ : L2.St} {H0 H : Hp} {M : Addr → Prop} {l : List Ent} {Q : VK} {d : Addr} {o : Obj} {kvs : List (Key × V)} (S : Sh H0 M H l) (hd : H d = some (.frz o (.dK kvs)))
    (q : ∀ D H', Sh H0 M H' ((D, .dK [], true) :: l) → EachC g tt tk tv vs σ Q D d (.frz o (.dK kvs)) kvs H') : kDc g tt tk tv vs σ Q (.ref d) H := by
  refine ⟨d, o, kvs, rfl, hd, fun D hD => ⟨fun i m H => m = kvs.length - i ∧ i ≤ kvs.length ∧ EachC g tt tk tv vs σ Q D d (.frz o (.dK kvs)) (kvs.drop i) H, ⟨kvs.length, by simp, Nat.zero_le _, q D _ (S.new hD)⟩, ?_⟩⟩
  rintro i m H ⟨rfl, hi, p⟩
  have hf := eachC_frz p
  by_cases hlt : i < kvs.length
  · refine .inr ⟨⟨hf, hlt⟩, fun H' => EachC g tt tk tv vs σ Q D d (.frz o (.dK kvs)) (kvs.drop (i + 1)) H', fun H' p' => ⟨kvs.length - (i + 1), by omega, rfl, hlt, p'⟩, fun x H' y => ?_⟩
    obtain ⟨T, k, v, e, rfl, hT, rfl⟩ := y
    obtain ⟨hi', e2⟩ := List.getElem?_eq_some_iff.mp e
    rw [List.drop_eq_getElem_cons hlt, e2] at p
    exact p.2 T hT
  · have e : i = kvs.length := by omega
    subst e
    rw [List.drop_length] at p
    exact .inl ⟨⟨hf, Nat.le_refl _⟩, p.2⟩
class ClrI (σ : L2.St) (i : Nat) (σ' : outParam L2.St) : Prop where
  eq : σ.set i none = σ'
instance {o : Option V} {r : L2.St} : ClrI (o :: r) 0 (none :: r) := ⟨rfl⟩
instance {o : Option V} {r r' : L2.St} {i : Nat} [h : ClrI r i r'] : ClrI (o :: r) (i + 1) (o :: r') := ⟨by rw [List.set_cons_succ, h.eq]⟩
/-- one turn, its two names in slots i and j -/
def kPut (D : Addr) (P : Hp → Prop) (y : V) (z : V) (H5 : Hp) : Prop := ∃ kvs k, y = kV k ∧ H5 D = some (.dK kvs) ∧ kvs.length < sizeLine ∧ P (upd H5 D (.dK (putK kvs k z)))
theorem g_eachC1 {K : PySem.W.Frag} {i j : Nat} {tk tv : TE} {σ σa σb σ1 σ2 : L2.St} {H0 H : Hp} {M : Addr → Prop} {l : List Ent} {Q : VK} {D d : Addr} {u : HO} {k : Key} {v : V} {r : List (Key × V)} [w1 : ClrI σ j σa] [w2 : ClrI σa i σb] [h1 : SetI σb i (kV k) σ1] [h2 : SetI σ1 j v σ2] (hw : wipe σ2 [i, j] = wipe σ [i, j])
    (S : Sh H0 M H l) (hd : H d = some u)
    (q : ∀ T H', Sh H0 M H' ((T, .tup [kV k, v], true) :: l) → tk σ2 H' fun y H4 => tv σ2 H4 (kPut D (EachC (gTup K 2 (gCons (gName i) (gCons (gName j) gNil))) tYes tk tv [i, j] σ Q D d u r) y)) :
    EachC (gTup K 2 (gCons (gName i) (gCons (gName j) gNil))) tYes tk tv [i, j] σ Q D d u ((k, v) :: r) H := by
  have e : wipe σ [i, j] = σb := by
    show (σ.set j none).set i none = σb
    rw [w1.eq, w2.eq]
  refine ⟨hd, fun T hT => ?_⟩
  rw [e] at hw ⊢
  refine g_tup2 (x := kV k) (y := v) upd_same ⟨hw, ?_⟩
  exact iteT (B := EachC (gTup K 2 (gCons (gName i) (gCons (gName j) gNil))) tYes tk tv [i, j] σ Q D d u r (upd H T (.tup [kV k, v]))) (q T _ (S.new hT))
theorem g_eachC0 {g : TG} {tt : TT} {tk tv : TE} {vs : List Nat} {σ : L2.St} {Q : VK} {D d : Addr} {u : HO} {H : Hp} (hd : H d = some u) (q : Q (.ref D) H) : EachC g tt tk tv vs σ Q D d u [] H := ⟨hd, q⟩
theorem g_kput {H0 H : Hp} {M : Addr → Prop} {l l' : List Ent} {D : Addr} {P : Hp → Prop} {kvs kvs' : List (Key × V)} {s : Str} {z : V} (S : Sh H0 M H l) (r : Rep l D (.dK kvs) (.dK kvs') l') (hn : Nat.blt kvs.length 1000 = true) (e : putK kvs (.inr s) z = kvs') (q : ∀ H', Sh H0 M H' l' → P H') : kPut D P (.str s) z H := by
  subst e
  exact ⟨_, .inr s, rfl, S.has _ r.mem, Nat.lt_trans (Nat.le_of_ble_eq_true hn) (small1000 (Nat.le_refl _)), q _ (S.put r)⟩
end
/-- list(d) -/
def rListK : List V → Hp → VK → Prop := fun xs H Q => ∃ (a : Addr) (kvs : List (Key × V)), xs = [.ref a] ∧ Rd H a (.dK kvs) ∧ ∀ p, H p = none → Q (.ref p) (upd H p (.lst (kvs.map fun kv => kV kv.1)))
theorem cl_listK {X : Cx} (hc : X.calm = true) : CallR X (.type "list") rListK := call_listD hc
theorem g_listKf {H0 H : Hp} {M : Addr → Prop} {l : List Ent} {Q : VK} {a : Addr} {o : Obj} {kvs : List (Key × V)} (S : Sh H0 M H l) (h : H a = some (.frz o (.dK kvs))) (q : ∀ p H', H p = none → Sh H0 M H' ((p, .lst (kvs.map fun kv => kV kv.1), true) :: l) → Q (.ref p) H') : rListK [.ref a] H Q :=
  ⟨a, kvs, rfl, .inr ⟨o, h⟩, fun p hp => q p _ hp (S.new hp)⟩
/-- == of two dicts that are equal -/
theorem op_eqDA {X : Cx} (hu : X.A.units < cLine) : OpR X (compareOp .Eq) rEqDA := op_eq_dictA hu
theorem g_eqDA {H : Hp} {Q : VK} {a b : Addr} {ks : List (Key × V)} (ha : H a = some (.dK ks)) (hb : H b = some (.dK ks)) (hp : ∀ p ∈ ks, valV ks p.1 = some p.2 ∧ flatB p.2 = true) (q : Q (.bl true) H) : rEqDA (.ref a) (.ref b) H Q := ⟨a, b, ks, ks, rfl, rfl, ha, hb, rfl, hp, q⟩
theorem g_eqN {H : Hp} {Q : VK} (q : Q (.bl true) H) : rEq .non .non H Q := ⟨rfl, by simpa using q⟩
instance {C : Addr} {sp : Sp} {E : XK} {H : Hp} {Q : VK} {y : V} {a : Addr} : Step (rGI C sp E (.ref a) y H Q) (∃ dx fs, H a = some (.ins C dx fs) ∧ sp [.ref a, y] H Q E) := ⟨fun ⟨dx, fs, h, q⟩ => ⟨a, dx, fs, rfl, h, q⟩⟩
/-! the facts as truths -/
def giB (K : PySem.W.Frag) (C f : Addr) : Bool := PySem.W.noSeq K C && (He.eqO (PySem.W.findIn K (.ref C) "__getitem__") (some (some (.ref f))) && (PySem.W.isFn K (.ref f) && PySem.W.fnIn K f))
theorem giB_ok {K : PySem.W.Frag} {C f : Addr} (h : giB K C f = true) : GI K C f := by
  obtain ⟨h1, h⟩ := He.ba h
  obtain ⟨h2, h⟩ := He.ba h
  obtain ⟨h3, h4⟩ := He.ba h
  exact ⟨h1, He.eqO_ok h2, h3, h4⟩
def ciB (K : PySem.W.Frag) (C f : Addr) : Bool := He.eqO (PySem.W.findIn K (.ref C) "__call__") (some (some (.ref f))) && (PySem.W.isFn K (.ref f) && PySem.W.fnIn K f)
theorem ciB_ok {K : PySem.W.Frag} {C f : Addr} (h : ciB K C f = true) : CI K C f := by
  obtain ⟨h2, h⟩ := He.ba h
  obtain ⟨h3, h4⟩ := He.ba h
  exact ⟨He.eqO_ok h2, h3, h4⟩
end AF
/-! loops over a short list, small dict displays, a, b, c = x, y, z; objects made with a part of their own -/
namespace AF
open PySem PySem.Spec PyProof.Rows L2
section
variable {K : PySem.W.Frag} {H0 H H' : Hp} {M : Addr → Prop} {l l' : List Ent} {p q : Addr} {o o' o2 : HO}
/-- p is changed, q is new -/
theorem Sh.ch1n (S : Sh H0 M H l) (r : Rep l p o o' l') (c : Ch [p] H H') (h : H' p = some o') (hn : H q = none) (hq : H' q = some o2) : Sh H0 M H' ((q, o2, true) :: l') := by
  have S' := S.ch1 r c h
  refine ⟨S'.fr, fun e he => ?_, ?_, fun e he hm => ?_⟩
  · rcases List.mem_cons.mp he with h1 | h1
    · rw [h1]; exact hq
    · exact S'.has e h1
  · rw [List.map_cons, List.pairwise_cons]
    refine ⟨fun t ht _ z => ?_, S'.ap⟩
    rw [r.tags] at ht
    obtain ⟨e, he, rfl⟩ := List.mem_map.mp ht
    have z' : q = e.1 := z
    have := S.has e he
    rw [← z', hn] at this; cases this
  · rcases List.mem_cons.mp he with h1 | h1
    · rw [h1]
      by_cases k : M q
      · exact .inl k
      · refine .inr ?_
        cases e0 : H0 q with
        | none => rfl
        | some u => rw [S.fr q u e0 k] at hn; cases hn
    · exact S'.mu e h1 hm
/-- two are changed -/
theorem Sh.ch2 {l2 : List Ent} {q' : Addr} {u u' : HO} (S : Sh H0 M H l) (r : Rep l p o o' l') (r2 : Rep l' q' u u' l2) (c : Ch [p, q'] H H') (h : H' p = some o') (h2 : H' q' = some u') : Sh H0 M H' l2 :=
  (S.put r).ch1 r2 (fun b w hb hn => by
    by_cases e : b = p
    · subst e
      rw [upd_same] at hb
      rw [h, ← hb]
    · rw [upd_ne e] at hb
      exact c b w hb (by simp only [List.mem_cons, List.not_mem_nil, or_false] at hn ⊢; intro z; rcases z with z | z; exact e z; exact hn z)) h2
/-- .. and one more is new -/
theorem Sh.ch2n {l2 : List Ent} {q' n : Addr} {u u' on : HO} (S : Sh H0 M H l) (r : Rep l p o o' l') (r2 : Rep l' q' u u' l2) (c : Ch [p, q'] H H') (h : H' p = some o') (h2 : H' q' = some u') (hn : H n = none) (hq : H' n = some on) : Sh H0 M H' ((n, on, true) :: l2) := by
  have S1 := S.put r
  have ep : H p = some o := S.has _ r.mem
  have eq : upd H p o' q' = some u := S1.has _ r2.mem
  have np : n ≠ p := fun z => by rw [z, ep] at hn; cases hn
  have n1 : upd H p o' n = none := by rw [upd_ne np]; exact hn
  have nq : n ≠ q' := fun z => by rw [z, eq] at n1; cases n1
  refine (S1.put r2).add (fun b w hb _ => ?_) (by rw [upd_ne nq]; exact n1) hq
  by_cases e : b = q'
  · subst e
    rw [upd_same] at hb
    rw [h2, ← hb]
  · rw [upd_ne e] at hb
    by_cases e1 : b = p
    · subst e1
      rw [upd_same] at hb
      rw [h, ← hb]
    · rw [upd_ne e1] at hb
      exact c b w hb (by simp only [List.mem_cons, List.not_mem_nil, or_false]; intro z; rcases z with z | z; exact e1 z; exact e z)
end
/-- an object made with a part of its own -/
theorem g_kmake2 {H0 : Hp} {M : Addr → Prop} {H : Hp} {l : List Ent} {C : Addr} {sp : Sp} {E : XK} {Q : VK} {vs : List V} {fs : Addr → List (Str × V)} {o : HO} (S : Sh H0 M H l)
    (h : ∀ (x dx : Addr) (H1 : Hp) (Q' : VK), H1 x = some (.ins C dx []) → Sh H0 M H1 ((x, .ins C dx [], true) :: (dx, .own x, true) :: l) → (∀ nd H2, H1 nd = none → Ch [x] H1 H2 → H2 x = some (.ins C dx (fs nd)) → H2 nd = some o → Q' .non H2) → sp (.ref x :: vs) H1 Q' E)
    (q : ∀ x dx nd H', Sh H0 M H' ((nd, o, true) :: (x, .ins C dx (fs nd), true) :: l) → Q (.ref x) H') : kMake C sp E Q vs H := by
  intro x dx hx hd ne
  have S1 := (S.new (o := .own x) hd).new (p := x) (o := .ins C dx []) (by rw [upd_ne (Ne.symm ne)]; exact hx)
  refine h x dx _ _ (S1.has_ .here) S1 fun nd H2 hn c h2 h3 => ⟨rfl, q x dx nd H2 ?_⟩
  have S2 := S1.ch1n (q := nd) .here c h2 hn h3
  refine ⟨S2.fr, fun e he => ?_, ?_, fun e he hm => ?_⟩
  · rcases List.mem_cons.mp he with z | z
    · exact S2.has e (z ▸ List.mem_cons_self)
    · rcases List.mem_cons.mp z with z | z
      · exact S2.has e (z ▸ List.mem_cons_of_mem _ List.mem_cons_self)
      · exact S2.has e (List.mem_cons_of_mem _ (List.mem_cons_of_mem _ (List.mem_cons_of_mem _ z)))
  · have ap := S2.ap
    simp only [List.map_cons, List.pairwise_cons] at ap ⊢
    refine ⟨fun t ht => ap.1 t ?_, fun t ht => ap.2.1 t (List.mem_cons_of_mem _ ht), ap.2.2.2⟩
    rcases List.mem_cons.mp ht with z | z
    · rw [z]; exact List.mem_cons_self
    · exact List.mem_cons_of_mem _ (List.mem_cons_of_mem _ z)
  · rcases List.mem_cons.mp he with z | z
    · exact S2.mu e (z ▸ List.mem_cons_self) hm
    · rcases List.mem_cons.mp z with z | z
      · exact S2.mu e (z ▸ List.mem_cons_of_mem _ List.mem_cons_self) hm
      · exact S2.mu e (List.mem_cons_of_mem _ (List.mem_cons_of_mem _ (List.mem_cons_of_mem _ z))) hm
/-! a short list, item by item -/
def EachL (g : TG) (tb : TS) (D : Ends) (a : Addr) (u : HO) : List V → L2.St → Hp → Prop
  | [] => fun σ H => H a = some u ∧ D.nx σ H
  | x :: r => fun σ H => H a = some u ∧ g x σ H fun σ2 H2 => tb { D with nx := EachL g tb D a u r, ct := EachL g tb D a u r, bk := D.nx } σ2 H2
theorem eachL_at {g : TG} {tb : TS} {D : Ends} {d : Addr} {u : HO} {σ : L2.St} {H : Hp} : ∀ {l : List V}, EachL g tb D d u l σ H → H d = some u
  | [], h => h.1
  | _ :: _, h => h.1
def kLs (K : PySem.W.Frag) (g : TG) (tb : TS) (D : Ends) (σ : L2.St) (x : V) (H1 : Hp) : Prop := ∃ a, x = .ref a ∧ (∃ xs, SqL K H1 a xs) ∧ ∃ W : Nat → Nat → L2.St → Hp → Prop, (∃ m, W 0 m σ H1) ∧ ∀ i m σ H, W i m σ H →
  ((Itl K a).stop i H ∧ D.nx σ H) ∨ ((Itl K a).go i H ∧ ∃ N : L2.St → Hp → Prop, (∀ σ' H', N σ' H' → ∃ m', m' < m ∧ W (i + 1) m' σ' H') ∧ ∀ x H', (Itl K a).yld i H x H' → g x σ H' fun σ2 H2 => tb { D with nx := N, ct := N, bk := D.nx } σ2 H2)
section
variable {K : PySem.W.Frag} {td : TE}
instance {g : TG} {tb : TS} {D : Ends} {σ : L2.St} {H : Hp} : Step (tFor (iList K td) g tb D σ H) (td σ H (kLs K g tb D σ)) := ⟨fun h => h⟩
theorem g_ls {g : TG} {tb : TS} {D : Ends} {σ : L2.St} {H : Hp} {a : Addr} {xs : List V} (hd : H a = some (.lst xs)) (q : EachL g tb D a (.lst xs) xs σ H) : kLs K g tb D σ (.ref a) H := by
  refine ⟨a, rfl, ⟨xs, SqL.of hd⟩, for_list (K := K) (xs := xs) (fun i σ H => EachL g tb D a (.lst xs) (xs.drop i) σ H) q (fun _ _ _ _ p => SqL.of (eachL_at p)) (fun i x σ H hx p => ?_) fun σ H p => ?_⟩
  · obtain ⟨hi, e⟩ := List.getElem?_eq_some_iff.mp hx
    rw [List.drop_eq_getElem_cons hi, e] at p
    exact p.2
  · rw [List.drop_length] at p
    exact p.2
theorem g_eachl1 {g : TG} {tb : TS} {nx bk ct : L2.St → Hp → Prop} {rt : VK} {σ : L2.St} {H : Hp} {d : Addr} {u : HO} {x : V} {r : List V} (hd : H d = some u)
    (q : g x σ H fun σ2 H2 => tb ⟨EachL g tb ⟨nx, rt, bk, ct⟩ d u r, rt, nx, EachL g tb ⟨nx, rt, bk, ct⟩ d u r⟩ σ2 H2) : EachL g tb ⟨nx, rt, bk, ct⟩ d u (x :: r) σ H := ⟨hd, q⟩
theorem g_eachl0 {g : TG} {tb : TS} {nx bk ct : L2.St → Hp → Prop} {rt : VK} {σ : L2.St} {H : Hp} {d : Addr} {u : HO} (hd : H d = some u) (q : nx σ H) : EachL g tb ⟨nx, rt, bk, ct⟩ d u [] σ H := ⟨hd, q⟩
end
/-! {k: v} -/
theorem g_disp1 {H0 H : Hp} {M : Addr → Prop} {l : List Ent} {σ : L2.St} {Q : VK} {s : Str} {v : V} (S : Sh H0 M H l) (q : ∀ p H', H p = none → Sh H0 M H' ((p, .dK [(.inr s, v)], true) :: l) → Q (.ref p) H') : tDisp [(tC (.str s), tC v)] σ H Q := by
  intro p hp
  refine ⟨upd_same, [(.inr s, v)], rfl, Nat.le_of_ble_eq_true rfl, ?_⟩
  refine q p _ hp ?_
  have S1 := S.new (p := p) (o := .dK []) hp
  exact S1.put .here
/-! a, b, c = x, y, z -/
def kPar3 (nx : L2.St → Hp → Prop) (σ : L2.St) (i j k : Nat) (vs : List V) (H : Hp) : Prop := ∃ u v w, vs = [u, v, w] ∧ nx (((σ.set i (some u)).set j (some v)).set k (some w)) H
section
variable {σ σ1 σ2 σ3 : L2.St} {H : Hp} {nx : L2.St → Hp → Prop} {rt : VK} {bk ct : L2.St → Hp → Prop} {i j k : Nat} {tr : TA} {x y z : V}
instance : Step (tPar3 i j k tr ⟨nx, rt, bk, ct⟩ σ H) (tr σ H (kPar3 nx σ i j k)) := ⟨fun h => h⟩
instance [h : SetI σ i x σ1] [h2 : SetI σ1 j y σ2] [h3 : SetI σ2 k z σ3] : Step (kPar3 nx σ i j k [x, y, z] H) (nx σ3 H) := ⟨fun q => ⟨x, y, z, rfl, by rw [h.eq, h2.eq, h3.eq]; exact q⟩⟩
end
/-! deep == and != of unlike things -/
section
variable {H : Hp} {Q : VK} {x y : V} {K : PySem.W.Frag} {d e : PyData} {r : Bool}
theorem g_eqD2 (hx : Dp K H x d) (hy : Dp K H y e) (sd : SeqAt.shaped d = true) (se : SeqAt.shaped e = true) (hr : PyData.eqv d e = r) (q : Q (.bl r) H) : rEqD K x y H Q := ⟨d, e, hx, hy, sd, se, by rw [hr]; exact q⟩
theorem g_neD2 (hx : Dp K H x d) (hy : Dp K H y e) (sd : SeqAt.shaped d = true) (se : SeqAt.shaped e = true) (hr : PyData.eqv d e = r) (q : Q (.bl (!r)) H) : rNeD K x y H Q := ⟨d, e, hx, hy, sd, se, by rw [hr]; exact q⟩
theorem dp_str {x : Str} : Dp K H (.str x) (.str x) := .str x
end
/-! a place of a list -/
theorem g_ixW {H : Hp} {Q : VK} {K : PySem.W.Frag} {p : Addr} {xs : List V} {i : Int} (h : H p = some (.lst xs)) (h0 : 0 ≤ i) (h1 : i < xs.length) (q : ∀ v, v ∈ xs → Q v H) : rIxL K (.ref p) (.int i) H Q := by
  obtain ⟨v, hv, e⟩ := atI_some h0 h1
  exact ⟨p, xs, i, v, rfl, rfl, SqL.of h, e, q v hv⟩
/-- a helper that draws one item of a list -/
def spPick : Sp := fun vs H Q _ => ∃ (a p : Addr) (n s : Int) (xs : List V), vs = [.ref a, .ref p] ∧ H a = some (.lst [.int n, .int s]) ∧ Sd n s ∧ H p = some (.lst xs) ∧ 1 ≤ xs.length ∧ xs.length ≤ 1000 ∧ p ≠ a ∧
  ∀ (v : V) (n' s' : Int) (H' : Hp), Ch [a] H H' → H' a = some (.lst [.int n', .int s']) → v ∈ xs → Sd n' s' → Q v H'
theorem use_pick {H0 : Hp} {M : Addr → Prop} {H : Hp} {l : List Ent} {l' : Int → Int → List Ent} {a p : Addr} {n s : Int} {xs : List V} {Q : VK} {E : XK} (S : Sh H0 M H l) (r : ∀ n' s', Rep l a (.lst [.int n, .int s]) (.lst [.int n', .int s']) (l' n' s')) (hs : Sd n s)
    (o : On l p (.lst xs)) (h1 : 1 ≤ xs.length) (h2 : xs.length ≤ 1000) (hne : p ≠ a) (q : ∀ v n' s' H', v ∈ xs → Sd n' s' → Sh H0 M H' (l' n' s') → Q v H') : spPick [.ref a, .ref p] H Q E :=
  ⟨a, p, n, s, xs, rfl, S.has _ (r n s).mem, hs, S.has_ o, h1, h2, hne, fun v n' s' H' c h p1 p3 => q v n' s' H' p1 p3 (S.ch1 (r n' s') c h)⟩
end AF
/-! comprehensions and loops over lists, tuples, keys, item by item; dicts of numbers compared; displays *-/
namespace AF
open PySem PySem.Spec PyProof.Rows L2
/-! a comprehension over a list or tuple that stays, item by item -/
def EachQ (g : TG) (tt : TT) (te : TE) (vs : List Nat) (σ : L2.St) (Q : VK) (D : Addr) (In : Hp → Prop) : List V → Hp → Prop
  | [] => fun H => In H ∧ Q (.ref D) H
  | x :: r => fun H => In H ∧ g x (wipe σ vs) H fun σ2 H2 => wipe σ2 vs = wipe σ vs ∧ tt σ2 H2 fun b H3 => if b = true then te σ2 H3 (kEl D (EachQ g tt te vs σ Q D In r)) else EachQ g tt te vs σ Q D In r H3
section
variable {K : PySem.W.Frag} {td : TE} {g : TG} {tt : TT} {te : TE} {vs : List Nat} {σ σ' : L2.St} {Q : VK} {H0 H : Hp} {M : Addr → Prop} {l l' : List Ent} {D a : Addr} {In : Hp → Prop} {xs r : List V} {x : V}
theorem eachQ_in : ∀ {l : List V} {H : Hp}, EachQ g tt te vs σ Q D In l H → In H
  | [], _, h => h.1
  | _ :: _, _, h => h.1
def kLcL (K : PySem.W.Frag) (g : TG) (tt : TT) (te : TE) (vs : List Nat) (σ : L2.St) (Q : VK) (x : V) (H1 : Hp) : Prop := ∃ a, x = .ref a ∧ (∃ xs, SqL K H1 a xs) ∧ ∀ D, H1 D = none → ∃ W : Nat → Nat → Hp → Prop, (∃ m, W 0 m (upd H1 D (.lst []))) ∧ ∀ i m H, W i m H →
  ((Itl K a).stop i H ∧ Q (.ref D) H) ∨ ((Itl K a).go i H ∧ ∃ Nx : Hp → Prop, (∀ H', Nx H' → ∃ m', m' < m ∧ W (i + 1) m' H') ∧ ∀ x H', (Itl K a).yld i H x H' → g x (wipe σ vs) H' fun σ2 H2 => wipe σ2 vs = wipe σ vs ∧ tt σ2 H2 fun b H3 =>
    if b = true then te σ2 H3 fun y H4 => ∃ acc, H4 D = some (.lst acc) ∧ acc.length < sizeLine ∧ Nx (upd H4 D (.lst (acc ++ [y]))) else Nx H3)
def kLcT (K : PySem.W.Frag) (g : TG) (tt : TT) (te : TE) (vs : List Nat) (σ : L2.St) (Q : VK) (x : V) (H1 : Hp) : Prop := ∃ a, x = .ref a ∧ (∃ xs, SqT K H1 a xs) ∧ ∀ D, H1 D = none → ∃ W : Nat → Nat → Hp → Prop, (∃ m, W 0 m (upd H1 D (.lst []))) ∧ ∀ i m H, W i m H →
  ((Itt K a).stop i H ∧ Q (.ref D) H) ∨ ((Itt K a).go i H ∧ ∃ Nx : Hp → Prop, (∀ H', Nx H' → ∃ m', m' < m ∧ W (i + 1) m' H') ∧ ∀ x H', (Itt K a).yld i H x H' → g x (wipe σ vs) H' fun σ2 H2 => wipe σ2 vs = wipe σ vs ∧ tt σ2 H2 fun b H3 =>
    if b = true then te σ2 H3 fun y H4 => ∃ acc, H4 D = some (.lst acc) ∧ acc.length < sizeLine ∧ Nx (upd H4 D (.lst (acc ++ [y]))) else Nx H3)
instance : Step (tLc (iList K td) g tt te vs σ H Q) (td σ H (kLcL K g tt te vs σ Q)) := ⟨fun h => h⟩
instance : Step (tLc (iTup K td) g tt te vs σ H Q) (td σ H (kLcT K g tt te vs σ Q)) := ⟨fun h => h⟩
theorem g_lcL (In : Hp → Prop) (hi : ∀ H, In H → SqL K H a xs) (h0 : SqL K H a xs) (S : Sh H0 M H l) (q : ∀ D H', H D = none → Sh H0 M H' ((D, .lst [], true) :: l) → EachQ g tt te vs σ Q D In xs H') : kLcL K g tt te vs σ Q (.ref a) H :=
  ⟨a, rfl, ⟨xs, h0⟩, fun D hD => lc_list (K := K) (xs := xs) (fun i H => EachQ g tt te vs σ Q D In (xs.drop i) H) (q D _ hD (S.new hD)) (fun _ _ _ p => hi _ (eachQ_in p)) (fun i x H hx p => by
    obtain ⟨hlt, e⟩ := List.getElem?_eq_some_iff.mp hx
    rw [List.drop_eq_getElem_cons hlt, e] at p
    exact p.2) fun H p => by
      rw [List.drop_length] at p
      exact p.2⟩
theorem g_lcT (In : Hp → Prop) (hi : ∀ H, In H → SqT K H a xs) (h0 : SqT K H a xs) (S : Sh H0 M H l) (q : ∀ D H', H D = none → Sh H0 M H' ((D, .lst [], true) :: l) → EachQ g tt te vs σ Q D In xs H') : kLcT K g tt te vs σ Q (.ref a) H :=
  ⟨a, rfl, ⟨xs, h0⟩, fun D hD => lc_tup (K := K) (xs := xs) (fun i H => EachQ g tt te vs σ Q D In (xs.drop i) H) (q D _ hD (S.new hD)) (fun _ _ _ p => hi _ (eachQ_in p)) (fun i x H hx p => by
    obtain ⟨hlt, e⟩ := List.getElem?_eq_some_iff.mp hx
    rw [List.drop_eq_getElem_cons hlt, e] at p
    exact p.2) fun H p => by
      rw [List.drop_length] at p
      exact p.2⟩
/-- one item, its name in slot k, all taken -/
theorem g_eachQ1 {k : Nat} {σa σ1 : L2.St} [w1 : ClrI σ k σa] [h1 : SetI σa k x σ1] (hw : wipe σ1 [k] = wipe σ [k]) (hin : In H) (q : te σ1 H (kEl D (EachQ (gName k) tYes te [k] σ Q D In r))) : EachQ (gName k) tYes te [k] σ Q D In (x :: r) H := by
  have e : wipe σ [k] = σa := by
    show σ.set k none = σa
    exact w1.eq
  refine ⟨hin, ?_⟩
  rw [e] at hw ⊢
  show wipe (σa.set k (some x)) [k] = σa ∧ _
  rw [h1.eq]
  exact ⟨hw, iteT (B := EachQ (gName k) tYes te [k] σ Q D In r H) q⟩
/-- one item, by a test -/
theorem g_eachQt {k : Nat} {σa σ1 : L2.St} [w1 : ClrI σ k σa] [h1 : SetI σa k x σ1] (hw : wipe σ1 [k] = wipe σ [k]) (hin : In H) (q : tt σ1 H fun b H3 => if b = true then te σ1 H3 (kEl D (EachQ (gName k) tt te [k] σ Q D In r)) else EachQ (gName k) tt te [k] σ Q D In r H3) : EachQ (gName k) tt te [k] σ Q D In (x :: r) H := by
  have e : wipe σ [k] = σa := by
    show σ.set k none = σa
    exact w1.eq
  refine ⟨hin, ?_⟩
  rw [e] at hw ⊢
  show wipe (σa.set k (some x)) [k] = σa ∧ _
  rw [h1.eq]
  exact ⟨hw, q⟩
theorem g_eachQ0 (hin : In H) (q : Q (.ref D) H) : EachQ g tt te vs σ Q D In [] H := ⟨hin, q⟩
end
/-! a loop over a tuple that stays -/
def EachG (g : TG) (tb : TS) (D : Ends) (In : Hp → Prop) : List V → L2.St → Hp → Prop
  | [] => fun σ H => In H ∧ D.nx σ H
  | x :: r => fun σ H => In H ∧ g x σ H fun σ2 H2 => tb { D with nx := EachG g tb D In r, ct := EachG g tb D In r, bk := D.nx } σ2 H2
section
variable {K : PySem.W.Frag} {g : TG} {tb : TS} {D : Ends} {In : Hp → Prop} {σ σ' : L2.St} {H : Hp} {a : Addr} {xs r : List V} {x : V} {nx bk ct : L2.St → Hp → Prop} {rt : VK}
theorem eachG_in : ∀ {l : List V} {σ : L2.St} {H : Hp}, EachG g tb D In l σ H → In H
  | [], _, _, h => h.1
  | _ :: _, _, _, h => h.1
theorem g_turnG (In : Hp → Prop) (hi : ∀ H, In H → SqT K H a xs) (h0 : SqT K H a xs) (q : EachG g tb D In xs σ H) : kTurn K g tb D σ (.ref a) H := by
  refine ⟨a, rfl, ⟨xs, h0⟩, for_tup (fun i σ H => EachG g tb D In (xs.drop i) σ H) q (fun _ _ _ _ p => hi _ (eachG_in p)) (fun i x σ H hx p => ?_) fun σ H p => ?_⟩
  · obtain ⟨hlt, e⟩ := List.getElem?_eq_some_iff.mp hx
    rw [List.drop_eq_getElem_cons hlt, e] at p
    exact p.2
  · rw [List.drop_length] at p
    exact p.2
theorem g_eachG1 {i : Nat} [s : SetI σ i x σ'] (hin : In H) (q : tb ⟨EachG (gName i) tb ⟨nx, rt, bk, ct⟩ In r, rt, nx, EachG (gName i) tb ⟨nx, rt, bk, ct⟩ In r⟩ σ' H) : EachG (gName i) tb ⟨nx, rt, bk, ct⟩ In (x :: r) σ H := ⟨hin, by
  show tb _ (σ.set i (some x)) H
  rw [s.eq]
  exact q⟩
theorem g_eachG0 (hin : In H) (q : nx σ H) : EachG g tb ⟨nx, rt, bk, ct⟩ In [] σ H := ⟨hin, q⟩
end
/-! the keys of a dict that is looked at alone -/
def EachK (g : TG) (tb : TS) (D : Ends) (d : Addr) (u : HO) : List (Key × V) → L2.St → Hp → Prop
  | [] => fun σ H => H d = some u ∧ D.nx σ H
  | (k, _) :: r => fun σ H => H d = some u ∧ g (kV k) σ H fun σ2 H2 => tb { D with nx := EachK g tb D d u r, ct := EachK g tb D d u r, bk := D.nx } σ2 H2
section
variable {td : TE} {g : TG} {tb : TS} {D : Ends} {σ σ' : L2.St} {H : Hp} {d : Addr} {u : HO} {o : Obj} {kvs r : List (Key × V)} {k : Key} {v : V} {nx bk ct : L2.St → Hp → Prop} {rt : VK}
theorem eachK_frz : ∀ {l : List (Key × V)} {σ : L2.St} {H : Hp}, EachK g tb D d u l σ H → H d = some u
  | [], _, _, h => h.1
  | _ :: _, _, _, h => h.1
def ForOk (I : It) (g : TG) (tb : TS) (D : Ends) (σ : L2.St) (H1 : Hp) : Prop := ∃ W : Nat → Nat → L2.St → Hp → Prop, (∃ m, W 0 m σ H1) ∧ ∀ i m σ H, W i m σ H →
  (I.stop i H ∧ D.nx σ H) ∨ (I.go i H ∧ ∃ N : L2.St → Hp → Prop, (∀ σ' H', N σ' H' → ∃ m', m' < m ∧ W (i + 1) m' σ' H') ∧ ∀ x H', I.yld i H x H' → g x σ H' fun σ2 H2 => tb { D with nx := N, ct := N, bk := D.nx } σ2 H2)
def kKs (g : TG) (tb : TS) (D : Ends) (σ : L2.St) (x : V) (H1 : Hp) : Prop := ∃ d o, x = .ref d ∧ ((∃ kvs, H1 d = some (.frz o (.dK kvs)) ∧ ForOk (Itk d o kvs) g tb D σ H1) ∨ ∃ kvs, H1 d = some (.frz o (.dT kvs)) ∧ ForOk (Itkt d o kvs) g tb D σ H1)
instance : Step (tFor (iKeys (tLk td)) g tb D σ H) (td σ H (kLk (kKs g tb D σ))) := ⟨fun h => h⟩
theorem g_keys (hd : H d = some (.frz o (.dK kvs))) (q : EachK g tb D d (.frz o (.dK kvs)) kvs σ H) : kKs g tb D σ (.ref d) H := by
  refine ⟨d, o, rfl, .inl ⟨kvs, hd, fun i m σ H => m = kvs.length - i ∧ i ≤ kvs.length ∧ EachK g tb D d (.frz o (.dK kvs)) (kvs.drop i) σ H, ⟨kvs.length, by simp, Nat.zero_le _, q⟩, ?_⟩⟩
  rintro i m σ H ⟨rfl, hi, p⟩
  have hf := eachK_frz p
  by_cases hlt : i < kvs.length
  · refine .inr ⟨⟨hf, hlt⟩, fun σ' H' => EachK g tb D d (.frz o (.dK kvs)) (kvs.drop (i + 1)) σ' H', fun σ' H' p' => ⟨kvs.length - (i + 1), by omega, rfl, hlt, p'⟩, fun x H' y => ?_⟩
    obtain ⟨rfl, k, v, e, rfl⟩ := y
    obtain ⟨hi', e2⟩ := List.getElem?_eq_some_iff.mp e
    rw [List.drop_eq_getElem_cons hlt, e2] at p
    exact p.2
  · have e : i = kvs.length := by omega
    subst e
    rw [List.drop_length] at p
    exact .inl ⟨⟨hf, Nat.le_refl _⟩, p.2⟩
theorem g_eachK1 {i : Nat} [s : SetI σ i (kV k) σ'] (hin : H d = some u) (q : tb ⟨EachK (gName i) tb ⟨nx, rt, bk, ct⟩ d u r, rt, nx, EachK (gName i) tb ⟨nx, rt, bk, ct⟩ d u r⟩ σ' H) : EachK (gName i) tb ⟨nx, rt, bk, ct⟩ d u ((k, v) :: r) σ H := ⟨hin, by
  show tb _ (σ.set i (some (kV k))) H
  rw [s.eq]
  exact q⟩
theorem g_eachKs {i : Nat} {z : Str} [s : SetI σ i (.str z) σ'] (hin : H d = some u) (q : tb ⟨EachK (gName i) tb ⟨nx, rt, bk, ct⟩ d u r, rt, nx, EachK (gName i) tb ⟨nx, rt, bk, ct⟩ d u r⟩ σ' H) : EachK (gName i) tb ⟨nx, rt, bk, ct⟩ d u ((.inr z, v) :: r) σ H := ⟨hin, by
  show tb _ (σ.set i (some (.str z))) H
  rw [s.eq]
  exact q⟩
theorem g_dgF {a : Addr} {z : Str} {Q : VK} (h : H a = some (.frz o (.dK kvs))) (e : valV kvs (.inr z) = some v) (q : Q v H) : kDG Q (.ref a) (.str z) H :=
  ⟨a, v, rfl, .inl ⟨kvs, .inr z, .inr ⟨o, h⟩, rfl, e.symm⟩, q⟩
theorem g_eachK0 (hin : H d = some u) (q : nx σ H) : EachK g tb ⟨nx, rt, bk, ct⟩ d u [] σ H := ⟨hin, q⟩
end
/-! a loop over range(1, n) -/
def Loop2 (lo : Int) (n : Nat) (g : TG) (tb : TS) (D : Ends) (σ : L2.St) (H : Hp) : Prop := ForOk (Itr lo n) g tb D σ H
def kR2 (P : Int → Int → Hp → Prop) (vs : List V) (H : Hp) : Prop := ∃ i j : Int, vs = [.int i, .int j] ∧ (-(2 ^ 62) ≤ i ∧ i < 2 ^ 62 ∧ -(2 ^ 62) ≤ j ∧ j < 2 ^ 62) ∧ P i j H
section
variable {σ : L2.St} {H : Hp} {ta : TA} {g : TG} {tb : TS} {D : Ends} {i j : Int}
instance : Step (tFor (iRng2 ta) g tb D σ H) (ta σ H (kR2 fun i j H1 => Loop2 i (j - i).toNat g tb D σ H1)) := ⟨fun h => h⟩
theorem g_kR2 {P : Int → Int → Hp → Prop} (h1 : -(2 ^ 62) ≤ i) (h2 : i < 2 ^ 62) (h3 : -(2 ^ 62) ≤ j) (h4 : j < 2 ^ 62) (q : P i j H) : kR2 P [.int i, .int j] H := ⟨i, j, rfl, ⟨h1, h2, h3, h4⟩, q⟩
theorem g_loop2 {lo : Int} {n k : Nat} {nx : L2.St → Hp → Prop} {rt : VK} {bk ct : L2.St → Hp → Prop} (Pv : Nat → L2.St → Hp → Prop) (h0 : Pv 0 σ H)
    (hs : ∀ (i : Nat) σ H, i < n → Pv i σ H → tb ⟨Pv (i + 1), rt, nx, Pv (i + 1)⟩ (σ.set k (some (.int (lo + (i : Int))))) H) (hd : ∀ σ H, Pv n σ H → nx σ H) : Loop2 lo n (gName k) tb ⟨nx, rt, bk, ct⟩ σ H :=
  for_range (lo := lo) (n := n) (D := ⟨nx, rt, bk, ct⟩) Pv h0 (fun i σ H hi p => hs i σ H hi p) hd
end
/-! dicts of three numbers, compared -/
section
variable {X : Cx}
def d3 (x y z : V) : List (Key × V) := [(.inr "read", x), (.inr "written", y), (.inr "changed", z)]
def rEq3 : R2 := fun p q H Q => ∃ (a b : Addr) (x y z x' y' z' : Int), p = .ref a ∧ q = .ref b ∧ H a = some (.dK (d3 (.int x) (.int y) (.int z))) ∧ H b = some (.dK (d3 (.int x') (.int y') (.int z'))) ∧ Q (.bl (decide (x = x') && (decide (y = y') && (decide (z = z') && true)))) H
def rNe3 : R2 := fun p q H Q => ∃ (a b : Addr) (x y z x' y' z' : Int), p = .ref a ∧ q = .ref b ∧ H a = some (.dK (d3 (.int x) (.int y) (.int z))) ∧ H b = some (.dK (d3 (.int x') (.int y') (.int z'))) ∧ Q (.bl (!(decide (x = x') && (decide (y = y') && (decide (z = z') && true))))) H
theorem hits_one {A : Around} {s : Shared} {kvs : List (Key × V)} {vb : List (Key × Value)} {k : Key} {i j : Int} {u : Value} {qs : List (Key × Value)} {b : Bool} (rb : KV kvs vb) (e : valV kvs k = some (.int j)) (ru : RelV (.int i) u) (h : PySem.W.KeqHits A s vb qs b) : PySem.W.KeqHits A s vb ((k, u) :: qs) (decide (i = j) && b) := by
  have rr : RelO (some (.int j)) (valueAt vb k) := by rw [← e]; exact rb.val k
  obtain ⟨y, hy, ry⟩ := rr.some_of
  obtain ⟨t, rfl⟩ := (show ∃ t, u = Value.int i t from ru)
  obtain ⟨t', rfl⟩ := (show ∃ t, y = Value.int j t from ry)
  have q := SeqAt.EqAt.int_int (A := A) (s := s) i t j t'
  have e2 : (i == j) = decide (i = j) := rfl
  rw [e2] at q
  exact .hit hy q h
theorem hits3 {A : Around} {s : Shared} {va vb : List (Key × Value)} {x y z x' y' z' : Int} (ra : KV (d3 (.int x) (.int y) (.int z)) va) (rb : KV (d3 (.int x') (.int y') (.int z')) vb) : PySem.W.KeqHits A s vb va (decide (x = x') && (decide (y = y') && (decide (z = z') && true))) := by
  unfold KV d3 at ra
  cases ra with
  | @cons p q ps qs h t =>
    cases t with
    | @cons p2 q2 ps2 qs2 h2 t2 =>
      cases t2 with
      | @cons p3 q3 ps3 qs3 h3 t3 =>
        cases t3
        obtain ⟨k1, u1⟩ := q
        obtain ⟨k2, u2⟩ := q2
        obtain ⟨k3, u3⟩ := q3
        obtain ⟨e1, r1⟩ := h
        obtain ⟨e2, r2⟩ := h2
        obtain ⟨e3, r3⟩ := h3
        cases (show (Sum.inr "read" : Key) = k1 from e1)
        cases (show (Sum.inr "written" : Key) = k2 from e2)
        cases (show (Sum.inr "changed" : Key) = k3 from e3)
        exact hits_one rb rfl r1 (hits_one rb rfl r2 (hits_one rb rfl r3 .nil))
theorem op_eq3 (hu : X.A.units < cLine) : OpR X (compareOp .Eq) rEq3 := by
  intro pins s σ H x y v u Q I rx ry h
  obtain ⟨a, b, x, y, z, x', y', z', rfl, rfl, ea, eb, q⟩ := h
  obtain rfl : v = Value.ref a := rx
  obtain rfl : u = Value.ref b := ry
  obtain ⟨_, ya, va, ra, da⟩ := (show ObjOk X.prog X.w H s.heap a (.dK _) from I.hok a _ ea)
  obtain ⟨_, yb, vb, rb, db⟩ := (show ObjOk X.prog X.w H s.heap b (.dK _) from I.hok b _ eb)
  have hl : va.length = vb.length := by rw [← ra.length, ← rb.length]; rfl
  exact PySem.W.keq_eq (knd := mixKind X.prog X.w) (r := decide (x = x') && (decide (y = y') && (decide (z = z') && true))) ya yb da db hu (fun _ => hits3 ra rb) (fin_bl I q (by simp [hl]))
theorem op_ne3 (hu : X.A.units < cLine) : OpR X (compareOp .NotEq) rNe3 := by
  intro pins s σ H x y v u Q I rx ry h
  obtain ⟨a, b, x, y, z, x', y', z', rfl, rfl, ea, eb, q⟩ := h
  obtain rfl : v = Value.ref a := rx
  obtain rfl : u = Value.ref b := ry
  obtain ⟨_, ya, va, ra, da⟩ := (show ObjOk X.prog X.w H s.heap a (.dK _) from I.hok a _ ea)
  obtain ⟨_, yb, vb, rb, db⟩ := (show ObjOk X.prog X.w H s.heap b (.dK _) from I.hok b _ eb)
  have hl : va.length = vb.length := by rw [← ra.length, ← rb.length]; rfl
  exact PySem.W.keq_ne (knd := mixKind X.prog X.w) (r := decide (x = x') && (decide (y = y') && (decide (z = z') && true))) ya yb da db hu (fun _ => hits3 ra rb) (fin_bl I q (by simp [hl]))
end
section
variable {H : Hp} {Q : VK} {a b : Addr} {x y z x' y' z' : Int}
theorem g_eq3 (ha : H a = some (.dK (d3 (.int x) (.int y) (.int z)))) (hb : H b = some (.dK (d3 (.int x') (.int y') (.int z')))) {r : Bool} (e : (decide (x = x') && (decide (y = y') && (decide (z = z') && true))) = r) (q : Q (.bl r) H) : rEq3 (.ref a) (.ref b) H Q := ⟨a, b, x, y, z, x', y', z', rfl, rfl, ha, hb, by rw [e]; exact q⟩
theorem g_ne3 (ha : H a = some (.dK (d3 (.int x) (.int y) (.int z)))) (hb : H b = some (.dK (d3 (.int x') (.int y') (.int z')))) {r : Bool} (e : (decide (x = x') && (decide (y = y') && (decide (z = z') && true))) = r) (q : Q (.bl (!r)) H) : rNe3 (.ref a) (.ref b) H Q := ⟨a, b, x, y, z, x', y', z', rfl, rfl, ha, hb, by rw [e]; exact q⟩
theorem same3 (h1 : x = x') (h2 : y = y') (h3 : z = z') : (decide (x = x') && (decide (y = y') && (decide (z = z') && true))) = true := by subst h1 h2 h3; simp
end
/-! {k: v, ..} of values that are made -/
def kDisp (p : Addr) (Q : VK) (ps : List (V × V)) (H2 : Hp) : Prop := H2 p = some (.dK []) ∧ ∃ kvs : List (Key × V), ps = kvs.map (fun kv => (kV kv.1, kv.2)) ∧ kvs.length ≤ 15 ∧ Q (.ref p) (upd H2 p (.dK (mergeK [] kvs)))
section
variable {σ : L2.St} {H0 H : Hp} {M : Addr → Prop} {l l' : List Ent} {Q : VK} {trs r : List (TE × TE)} {tk tv : TE} {QP : List (V × V) → Hp → Prop}
theorem g_disp (S : Sh H0 M H l) (q : ∀ p H', Sh H0 M H' ((p, .dK [], true) :: l) → tPairs trs σ H' (kDisp p Q)) : tDisp trs σ H Q := fun p hp => q p _ (S.new hp)
instance : Step (tPairs [] σ H QP) (QP [] H) := ⟨fun h => h⟩
instance : Step (tPairs ((tk, tv) :: r) σ H QP) (tk σ H fun x H1 => tv σ H1 fun y H2 => tPairs r σ H2 fun ps H3 => QP ((x, y) :: ps) H3) := ⟨fun h => h⟩
theorem g_kdisp {p : Addr} {kvs : List (Key × V)} {ps : List (V × V)} (S : Sh H0 M H l) (r : Rep l p (.dK []) (.dK kvs) l') (e : ps = kvs.map (fun kv => (kV kv.1, kv.2))) (hl : Nat.ble kvs.length 15 = true) (em : mergeK [] kvs = kvs) (q : ∀ H', Sh H0 M H' l' → Q (.ref p) H') : kDisp p Q ps H :=
  ⟨S.has _ r.mem, kvs, e, Nat.le_of_ble_eq_true hl, by rw [em]; exact q _ (S.put r)⟩
end
/-! list(d), list(t); is, is not between truths; all, max of a list -/
def rListT (K : PySem.W.Frag) : List V → Hp → VK → Prop := fun xs H Q => ∃ p ys, xs = [.ref p] ∧ (SqL K H p ys ∨ SqT K H p ys) ∧ ∀ l, H l = none → Q (.ref l) (upd H l (.lst ys))
def rIsB (neg : Bool) : R2 := fun x y H Q => ∃ a b, x = .bl a ∧ y = .bl b ∧ Q (.bl (if neg then !decide (a = b) else decide (a = b))) H
section
variable {X : Cx} {H0 H : Hp} {M : Addr → Prop} {l : List Ent} {Q : VK} {K : PySem.W.Frag} {a : Addr} {kvs : List (Key × V)} {ys : List V} {x y : Bool}
theorem cl_listT : CallR X (.type "list") (rListT X.K) := call_list_of
theorem g_listT (S : Sh H0 M H l) (h : SqL K H a ys ∨ SqT K H a ys) (q : ∀ p H', H p = none → Sh H0 M H' ((p, .lst ys, true) :: l) → Q (.ref p) H') : rListT K [.ref a] H Q := ⟨a, ys, rfl, h, fun p hp => q p _ hp (S.new hp)⟩
theorem g_listK (S : Sh H0 M H l) (h : H a = some (.dK kvs)) (q : ∀ p H', H p = none → Sh H0 M H' ((p, .lst (kvs.map fun kv => kV kv.1), true) :: l) → Q (.ref p) H') : rListK [.ref a] H Q :=
  ⟨a, kvs, rfl, .inl h, fun p hp => q p _ hp (S.new hp)⟩
theorem op_isB : OpR X (compareOp .Is) (rIsB false) := op_is_bl
theorem op_isnotB : OpR X (compareOp .IsNot) (rIsB true) := op_isnot_bl
instance : Step (rIsB false (.bl x) (.bl y) H Q) (Q (.bl (decide (x = y))) H) := ⟨fun q => ⟨x, y, rfl, rfl, q⟩⟩
instance : Step (rIsB true (.bl x) (.bl y) H Q) (Q (.bl (!decide (x = y))) H) := ⟨fun q => ⟨x, y, rfl, rfl, q⟩⟩
theorem cl_all (hc : X.calm = true) : CallR X (.builtin "all") (rAll X.K) := cr_all hc
theorem cl_maxL (hc : X.calm = true) : CallR X (.builtin "max") (rMax X.K) := cr_max hc
theorem g_all {bs : List Bool} (h : SqL K H a (bs.map V.bl)) (q : Q (.bl (bs.all id)) H) : rAll K [.ref a] H Q := ⟨a, bs, rfl, h, q⟩
theorem g_maxL {ns : List Int} (h : SqL K H a (ns.map V.int)) (h0 : 0 < ns.length) (q : ∀ m, m ∈ ns → (∀ y, y ∈ ns → y ≤ m) → Q (.int m) H) : rMax K [.ref a] H Q := ⟨a, ns, rfl, h, h0, q⟩
end
/-! rules within a comprehension: the facts' K by name -/
section
variable {X : Cx} {K : PySem.W.Frag} {e : Expr} {ta : TE} {f : Str} {pos : Pos}
theorem pe_fldK (he : PE X e ta) (hb : attributeBase e f X.env (eval e X.env) = eval e X.env) (hK : X.K = K := by rfl) : PE X (.Attribute e f pos) (tFld K ta f) := hK ▸ pe_fld he hb
theorem call_isiK (hK : X.K = K := by rfl) : CallR X (.builtin "isinstance") (rIsi K) := hK ▸ call_isi
theorem op_in_seqK (hK : X.K = K := by rfl) : OpR X (compareOp .In) (rIn K false) := hK ▸ op_in_seq
theorem ix_tupK (hK : X.K = K := by rfl) : IxR X (rIxT K) := hK ▸ ix_tup
theorem ix_listK (hK : X.K = K := by rfl) : IxR X (rIxL K) := hK ▸ ix_list
end
theorem cmp_eqK {X : Cx} {P : Program} {w : World} {K : PySem.W.Frag} {mg : Str → Option Value} {base : Heap} {k : Nat} {f C : Addr} {ps : List Str} {sp : Sp} (D : Dn P w K mg base k f ps sp) (B : Cmp K .Eq C f) (hr : Room k X.A) (h1 : X.prog = P := by rfl) (h2 : X.w = w := by rfl) (h3 : X.K = K := by rfl) (h4 : X.mg = mg := by rfl) (h5 : X.base = base := by rfl) :
    OpR X (compareOp .Eq) (rCmp K C sp E0) := by
  subst h1 h2 h3 h4 h5
  exact cmp_eq D B hr passL
theorem g_listKy {H0 H : Hp} {M : Addr → Prop} {l : List Ent} {Q : VK} {a : Addr} {kvs : List (Key × V)} (ys : List V) (S : Sh H0 M H l) (h : H a = some (.dK kvs)) (e : (kvs.map fun kv => kV kv.1) = ys) (q : ∀ p H', H p = none → Sh H0 M H' ((p, .lst ys, true) :: l) → Q (.ref p) H') : rListK [.ref a] H Q := by
  subst e
  exact g_listK S h q
end AF
/-! what the top leaves, with its written dicts, looked at once; written tuples of texts as truths -/
namespace AF
open PySem PySem.Spec PyProof.Rows L2 He
open PySem.W (Frag findIn isFn subIn selfFirst notFirst specialIn takesIn mroIn kitOne keepIn codeIn recIn nsIn)
abbrev SeenT : Type := Seen × List (Option (List (Option (Str × Int))))
def lookT (fs : Frag → List Bool) (ds : List DA) (ts : List Tab) (K : Frag) : SeenT := (look fs ds K, ts.map fun t => dicW K (t.1 K))
def lookTW (ds : List DA) (ts : List Tab) (w : World) : SeenT := (lookW ds, ts.map fun t => some (keysIn w.params t.2))
def TellsT (fs : Frag → List Bool) (ds : List DA) (ts : List Tab) (w : World) (K : Frag) : Prop := lookT fs ds ts K = lookTW ds ts w
def lookTG (n : Nat) (fs : Frag → List Bool) (ds : List DA) (ts : List Tab) (g : Addr → Option Obj) : SeenT := lookT fs ds ts (frG g (PySem.cStatics :: asD g n))
def hookT2 (n : Nat) (fs : Frag → List Bool) (ds : List DA) (ts : List Tab) : PySem.W.Hook where
  α := SeenT
  obs := fun s => lookTG n fs ds ts s.heap.get?
  val := fun w => lookTW ds ts w
  says := fun w h => ∃ K : Frag, K.In h ∧ TellsT fs ds ts w K
  of := fun _ _ e => ⟨_, frG_in, e⟩
  keeps := fun _ _ _ ⟨K, hK, c⟩ k => ⟨K, Frag.In.keeps hK k, c⟩
theorem lookTG_eq {n : Nat} {fs : Frag → List Bool} {ds : List DA} {ts : List Tab} {g : Addr → Option Obj} {s : Shared} (h : ∀ a, g a = s.heap.get? a) : lookTG n fs ds ts g = (hookT2 n fs ds ts).obs s := by
  have e : g = s.heap.get? := funext h
  rw [e]
  rfl
section
variable {fs : Frag → List Bool} {ds : List DA} {ts : List Tab} {w : World} {K : Frag}
theorem TellsT.d (c : TellsT fs ds ts w K) : Tells fs ds K := congrArg (fun z : SeenT => z.1) c
theorem TellsT.tab (c : TellsT fs ds ts w K) (i : Nat) {t : Tab} (h : ts[i]? = some t := by rfl) : ∃ es n, KDict K w (t.1 K) es n := by
  have e : ts.map (fun t => dicW K (t.1 K)) = ts.map fun t => some (keysIn w.params t.2) := congrArg (fun z : SeenT => z.2) c
  have e2 : (ts.map fun t => dicW K (t.1 K))[i]? = (ts.map fun t => some (keysIn w.params t.2))[i]? := by rw [e]
  rw [List.getElem?_map, List.getElem?_map, h] at e2
  exact dicW_ok (Option.some.inj e2)
end
/-! a written tuple of texts -/
def strsB : List Str → List Value → Bool
  | [], [] => true
  | x :: r, .str y _ :: q => decide (y = x) && strsB r q
  | _, _ => false
theorem strsB_ok : ∀ {ms : List Str} {us : List Value}, strsB ms us = true → Vals (ms.map V.str) us
  | [], [], _ => .nil
  | x :: r, .str y t :: q, h => by
    obtain ⟨h1, h2⟩ := ba (show (decide (y = x) && strsB r q) = true from h)
    obtain rfl : y = x := of_decide_eq_true h1
    exact .cons ⟨t, rfl⟩ (strsB_ok h2)
  | [], _ :: _, h => by simp [strsB] at h
  | _ :: _, [], h => by simp [strsB] at h
  | x :: r, u :: q, h => by
    cases u with
    | str y t =>
      obtain ⟨h1, h2⟩ := ba (show (decide (y = x) && strsB r q) = true from h)
      obtain rfl : y = x := of_decide_eq_true h1
      exact .cons ⟨t, rfl⟩ (strsB_ok h2)
    | _ => simp [strsB] at h
def ktB (K : Frag) (a : Addr) (ms : List Str) : Bool := match K.lookup a with
  | some ⟨.type c, _, .seq its _, _⟩ => decide (c = "tuple") && (strsB ms its.toList && Nat.ble its.size 1000)
  | _ => false
theorem ktB_ok {K : Frag} {a : Addr} {ms : List Str} (h : ktB K a ms = true) : AF.KT K a (ms.map V.str) := by
  unfold ktB at h
  cases q : K.lookup a with
  | none => rw [q] at h; cases h
  | some o =>
    obtain ⟨oc, od, dt, osl⟩ := o
    rw [q] at h
    cases oc with
    | type c =>
      cases dt with
      | seq its n =>
        obtain ⟨h1, h2⟩ := ba (show (decide (c = "tuple") && (strsB ms its.toList && Nat.ble its.size 1000)) = true from h)
        obtain ⟨h3, h4⟩ := ba h2
        obtain rfl : c = "tuple" := of_decide_eq_true h1
        exact ⟨_, its, n, q, rfl, rfl, line_of h4, strsB_ok h3⟩
      | _ => cases h
    | _ => cases dt <;> cases h
/-- what stands at a key is a written tuple of texts -/
def nowB (K : Frag) (d : Addr) (x : Str) (ms : List Str) : Bool := match nsIn K d x with
  | some (some (.ref t)) => ktB K t ms
  | _ => false
theorem nowB_ok {K : Frag} {d : Addr} {x : Str} {ms : List Str} (h : nowB K d x ms = true) : ∃ t : Addr, nsIn K d x = some (some (.ref t)) ∧ AF.KT K t (ms.map V.str) := by
  unfold nowB at h
  split at h
  · rename_i t e
    exact ⟨t, e, ktB_ok h⟩
  · cases h
theorem now_some {K : Frag} {d : Addr} {x : Str} {ms : List V} (h : ∃ t : Addr, nsIn K d x = some (some (.ref t)) ∧ AF.KT K t ms) : ∃ v, nsIn K d x = some (some v) := by
  obtain ⟨t, e, _⟩ := h
  exact ⟨_, e⟩
end AF
/-! what the top leaves, looked at in two parts -/
namespace AF
open PySem PySem.Spec PyProof.Rows L2 He
open PySem.W (Frag OpenRow)
open HandSHeadRun
def lookP (n : Nat) (f1 : Frag → List Bool) (d1 : List DA) (f2 : Frag → List Bool) (d2 : List DA) (g : Addr → Option Obj) : SeenT × SeenT := (lookTG n f1 d1 [] g, lookTG n f2 d2 [] g)
def hookP (n : Nat) (f1 : Frag → List Bool) (d1 : List DA) (f2 : Frag → List Bool) (d2 : List DA) : PySem.W.Hook where
  α := SeenT × SeenT
  obs := fun s => lookP n f1 d1 f2 d2 s.heap.get?
  val := fun w => (lookTW d1 [] w, lookTW d2 [] w)
  says := fun w h => ∃ K : Frag, K.In h ∧ (TellsT f1 d1 [] w K ∧ TellsT f2 d2 [] w K)
  of := fun _ _ e => ⟨_, frG_in, (Prod.mk.inj e).1, (Prod.mk.inj e).2⟩
  keeps := fun _ _ _ ⟨K, hK, c⟩ k => ⟨K, Frag.In.keeps hK k, c⟩
theorem lookP_eq {n : Nat} {f1 f2 : Frag → List Bool} {d1 d2 : List DA} {g : Addr → Option Obj} {s : Shared} (h : ∀ a, g a = s.heap.get? a) : lookP n f1 d1 f2 d2 g = (hookP n f1 d1 f2 d2).obs s := by
  have e : g = s.heap.get? := funext h
  rw [e]
  rfl
theorem map_two {α β γ δ : Type} {o : Option α} {f : α → β} {g : α → γ} {b : β} {c : γ} (k : α → δ) (e : β → γ → δ) (hk : ∀ a, k a = e (f a) (g a)) (h1 : o.map f = some b) (h2 : o.map g = some c) : o.map k = some (e b c) := by
  cases o with
  | none => cases h1
  | some a =>
    cases h1
    cases h2
    show some (k a) = _
    rw [hk]
theorem run_split {r : OpenRow} {q : Program} {n M : Nat} {f1 f2 : Frag → List Bool} {d1 d2 : List DA} {loose : List PySem.Str} {w : World}
    (h1 : RunEq r q (hookT2 n f1 d1 []) (fun s => lookTG n f1 d1 [] (getT s)) M loose w)
    (h2 : ∀ os : OsState, (endF (stepQ (denQ tabQ) r.prog w) M r.prog w os).map (fun s => lookTG n f2 d2 [] (getT s)) = some (lookTW d2 [] w)) :
    RunEq r q (hookP n f1 d1 f2 d2) (fun s => lookP n f1 d1 f2 d2 (getT s)) M loose w := fun os =>
  map_two _ (fun (x : Bool × _ × SeenT) (y : SeenT) => (x.1, x.2.1, (x.2.2, y))) (fun _ => rfl) (h1 os) (h2 os)
end AF
/-! what the top leaves: code objects stand, but are not looked into *-/
namespace AF
open PySem PySem.Spec PyProof.Rows L2 He
open PySem.W (Frag OpenRow)
open HandSHeadRun
def leafO (o : Obj) : Bool := match o.cls with
  | .type c => decide (c = "code")
  | _ => false
def refsP (o : Obj) : List Addr := match leafO o with
  | true => []
  | false => refsD o
def dd1 (seen : List Addr) : List Addr → List Addr
  | [] => []
  | a :: r => match seen.elem a with
    | true => dd1 seen r
    | false => a :: dd1 (a :: seen) r
def refsA (g : Addr → Option Obj) (a : Addr) : List Addr := match g a with
  | some o => refsP o
  | none => []
def asP (g : Addr → Option Obj) : Nat → List Addr → List Addr → List Addr
  | 0, seen, _ => seen
  | n + 1, seen, front => asP g n (seen ++ dd1 seen (front.flatMap (refsA g))) (dd1 seen (front.flatMap (refsA g)))
def lookTP (n : Nat) (fs : Frag → List Bool) (ds : List DA) (g : Addr → Option Obj) : SeenT := lookT fs ds [] (frG g (PySem.cStatics :: asP g n [mainGlobals] [mainGlobals]))
def lookQ (n : Nat) (f1 : Frag → List Bool) (d1 : List DA) (f2 : Frag → List Bool) (d2 : List DA) (g : Addr → Option Obj) : SeenT × SeenT := (lookTP n f1 d1 g, lookTP n f2 d2 g)
def hookQ1 (n : Nat) (fs : Frag → List Bool) (ds : List DA) : PySem.W.Hook where
  α := SeenT
  obs := fun s => lookTP n fs ds s.heap.get?
  val := fun w => lookTW ds [] w
  says := fun w h => ∃ K : Frag, K.In h ∧ TellsT fs ds [] w K
  of := fun _ _ e => ⟨_, frG_in, e⟩
  keeps := fun _ _ _ ⟨K, hK, c⟩ k => ⟨K, Frag.In.keeps hK k, c⟩
def hookQ (n : Nat) (f1 : Frag → List Bool) (d1 : List DA) (f2 : Frag → List Bool) (d2 : List DA) : PySem.W.Hook where
  α := SeenT × SeenT
  obs := fun s => lookQ n f1 d1 f2 d2 s.heap.get?
  val := fun w => (lookTW d1 [] w, lookTW d2 [] w)
  says := fun w h => ∃ K : Frag, K.In h ∧ (TellsT f1 d1 [] w K ∧ TellsT f2 d2 [] w K)
  of := fun _ _ e => ⟨_, frG_in, (Prod.mk.inj e).1, (Prod.mk.inj e).2⟩
  keeps := fun _ _ _ ⟨K, hK, c⟩ k => ⟨K, Frag.In.keeps hK k, c⟩
theorem lookQ_eq {n : Nat} {f1 f2 : Frag → List Bool} {d1 d2 : List DA} {g : Addr → Option Obj} {s : Shared} (h : ∀ a, g a = s.heap.get? a) : lookQ n f1 d1 f2 d2 g = (hookQ n f1 d1 f2 d2).obs s := by
  have e : g = s.heap.get? := funext h
  rw [e]
  rfl
theorem run_splitQ {r : OpenRow} {q : Program} {n M : Nat} {f1 f2 : Frag → List Bool} {d1 d2 : List DA} {loose : List PySem.Str} {w : World}
    (h1 : RunEq r q (hookQ1 n f1 d1) (fun s => lookTP n f1 d1 (getT s)) M loose w)
    (h2 : ∀ os : OsState, (endF (stepQ (denQ tabQ) r.prog w) M r.prog w os).map (fun s => lookTP n f2 d2 (getT s)) = some (lookTW d2 [] w)) :
    RunEq r q (hookQ n f1 d1 f2 d2) (fun s => lookQ n f1 d1 f2 d2 (getT s)) M loose w := fun os =>
  map_two _ (fun (x : Bool × _ × SeenT) (y : SeenT) => (x.1, x.2.1, (x.2.2, y))) (fun _ => rfl) (h1 os) (h2 os)
end AF
/-! defs that may show containers: what they promise where no repr is under way; the law's end for such a law -/
namespace AF
open PySem PySem.Spec PyProof.Rows L2 LamX
/-- a promise for places at which no repr runs -/
structure FnG (P : Program) (w : World) (K : PySem.W.Frag) (mg : Str → Option Value) (base : Heap) (CX : CXT) (k : Nat) (f : Addr) (fd : FuncData) (ps : List Str) (sp : Sp) : Prop where
  len : ∀ vs H Q E, sp vs H Q E → vs.length = ps.length
  go : ∀ (A : Around) (outer : List Env) (s : Shared) (H : Hp) (args : Args) (us : List Value) (vs : List V) (Q : VK) (E : XK), A.guards = some [] → Room k A → Env0 P w K mg base A outer s H →
    BindsTo s fd args (ps.zip us) → Vals vs us → sp vs H Q E → codeAny (model P w) A (.call (.ref f) args) (CR CX outer P w H s Q E) s
theorem FunD.okG {P : Program} {w : World} {K : PySem.W.Frag} {mg : Str → Option Value} {base : Heap} {x qual : Str} {params : Arguments} {body : List Stmt} {scope : Scope} {dvs : List V} {kws : List (Str × V)} {f : Addr} {fd : FuncData}
    {CX : CXT} {N ps : List Str} {k : Nat} {sp : Sp} (F : FunD K x qual params body scope dvs kws f fd) (S : FnScope N ps scope) (len : ∀ vs H Q E, sp vs H Q E → vs.length = ps.length)
    (hb : ∀ (cdv : Value) (A : Around) (outer : List Env) (s : Shared) (H : Hp) (vs : List V) (Q : VK) (E : XK), A.guards = some [] → Room k (A.deeper (envOfC qual scope s.heap.objs.size f cdv)) → sp vs H Q E →
      ∃ t, PSs (cxOf CX P w K mg base N qual scope f cdv A outer s H E) body t ∧ t { nx := fun _ H' => Q .non H', rt := Q } (L2.start N vs) H) : FnG P w K mg base CX (k + 1) f fd ps sp := by
  obtain ⟨oc, od, dV, kV, doc, pm, an, cdv, ct, osl, efd, lk, hcd, _, _⟩ := F.ex
  subst efd
  exact ⟨len, fun A outer s H args us vs Q E hg hr e0 hbd r hsp => run_ofS lk hcd S hr e0 hbd r (len _ _ _ _ hsp) fun hr' => hb cdv A outer s H vs Q E hg hr' hsp⟩
/-- a def's code -/
def cdOf (K : PySem.W.Frag) (f : Addr) : Value := match K.lookup f with
  | some ⟨_, _, .func fd, _⟩ => fd.code
  | _ => .none
/-- .. whose code is told -/
theorem FunD.okC {P : Program} {w : World} {K : PySem.W.Frag} {mg : Str → Option Value} {base : Heap} {x qual : Str} {params : Arguments} {body : List Stmt} {scope : Scope} {dvs : List V} {kws : List (Str × V)} {f : Addr} {fd : FuncData}
    {CX : CXT} {N ps : List Str} {k : Nat} {sp : Sp} (F : FunD K x qual params body scope dvs kws f fd) (S : FnScope N ps scope) (len : ∀ vs H Q E, sp vs H Q E → vs.length = ps.length)
    (hb : ∀ (cdv : Value) (A : Around) (outer : List Env) (s : Shared) (H : Hp) (vs : List V) (Q : VK) (E : XK), cdOf K f = cdv → A.guards = some [] → Room k (A.deeper (envOfC qual scope s.heap.objs.size f cdv)) → sp vs H Q E →
      ∃ t, PSs (cxOf CX P w K mg base N qual scope f cdv A outer s H E) body t ∧ t { nx := fun _ H' => Q .non H', rt := Q } (L2.start N vs) H) : FnG P w K mg base CX (k + 1) f fd ps sp := by
  obtain ⟨oc, od, dV, kV, doc, pm, an, cdv, ct, osl, efd, lk, hcd, _, _⟩ := F.ex
  subst efd
  have ec : cdOf K f = cdv := by unfold cdOf; rw [lk]
  exact ⟨len, fun A outer s H args us vs Q E hg hr e0 hbd r hsp => run_ofS lk hcd S hr e0 hbd r (len _ _ _ _ hsp) fun hr' => hb cdv A outer s H vs Q E ec hg hr' hsp⟩
/-- .. by name, all parameters given -/
structure DnG (P : Program) (w : World) (K : PySem.W.Frag) (mg : Str → Option Value) (base : Heap) (k : Nat) (a : Addr) (ps : List Str) (sp : Sp) : Prop where
  ex : ∃ fd, FnG P w K mg base (L2.CX P w) k a fd ps sp ∧ Binds K fd ps []
  kp : PySem.W.keepIn K (.ref a) = true
section
variable {X : Cx} {k : Nat} {f : Addr} {ps : List Str} {sp : Sp} {E : XK} {x : Str} {p pos : Pos} {e : Expr} {es : List Expr} {t : TA}
theorem pe_dng (D : DnG X.prog X.w X.K X.mg X.base k f ps sp) (hG : X.A.guards = some []) (hr : Room k X.A) (hg : Gl X x) (hm : X.mg x = some (.ref f)) (hx : Passes (L2.CX X.prog X.w) X E) (ha : PA X (e :: es) t) (hdb : (x == ("__debug__" : Str)) = false := by decide)
    (he : starEach (e :: es) X.env = (false, eval e X.env) :: starEach es X.env := by rfl) (hpl : (backTo pos (starEach es X.env)).any (·.1) = false := by rfl) : PE X (.Call (.Name x p) (e :: es) [] pos) (tCall sp [] E t) := by
  obtain ⟨fd, F, b⟩ := D.ex
  constructor
  intro pins s σ H Q I h
  refine wpAny_Call_Name_kw (ld_glob I hg hm ?_ hdb)
  refine PySem.W.callWith_K (h₀ := X.base) I.ok.mod.kin D.kp (thn (ha.run pos pins s σ H _ I h) ?_) he hpl
  rintro us s1 ⟨vs, H1, I1, r, q⟩
  refine ⟨I1.kIn, ?_⟩
  rw [List.append_nil] at q
  have hl : us.length = ps.length := r.length ▸ F.len _ _ _ _ q
  have bd := b s1 us I1.kIn (by rw [List.append_nil]; exact hl)
  rw [List.append_nil] at bd
  refine wpAny_call (codeAny_mono (F.go X.A X.stack s1 H1 ⟨us, []⟩ us vs Q E hG hr I1.env0 bd r q) ?_)
  rintro (er | fl) s' z
  · exact hx pins σ H1 s1 er s' I1 z
  · cases fl <;> first | exact I1.after z | exact False.elim z
end
/-! the law's end -/
/-- ahead of the law: the script, if it is not written, and the tables -/
def hpA (K : PySem.W.Frag) (a : Addr) (sc : HO) (ts : List Addr) : Hp := fun b => if b = a ∧ K.lookup a = none then some sc else if b ∈ ts then some (.tbl #[]) else none
theorem hpA_cases {K : PySem.W.Frag} {a b : Addr} {sc u : HO} {ts : List Addr} (h : hpA K a sc ts b = some u) : (b = a ∧ K.lookup a = none ∧ u = sc) ∨ (b ∈ ts ∧ u = .tbl #[]) := by
  unfold hpA at h
  split at h
  · rename_i z
    exact .inl ⟨z.1, z.2, (Option.some.inj h).symm⟩
  · split at h
    · rename_i z
      exact .inr ⟨z, (Option.some.inj h).symm⟩
    · cases h
theorem hpA_tab {K : PySem.W.Frag} {a b : Addr} {sc : HO} {ts : List Addr} (hb : b ∈ ts) (ha : a ∉ ts) : hpA K a sc ts b = some (.tbl #[]) := by
  unfold hpA
  rw [if_neg (show ¬ (b = a ∧ K.lookup a = none) from fun z => ha (z.1 ▸ hb)), if_pos hb]
theorem hpA_none {K : PySem.W.Frag} {a b : Addr} {sc : HO} {ts : List Addr} (h : ∀ u, hpA K a sc ts b ≠ some u) : hpA K a sc ts b = none := by
  cases e : hpA K a sc ts b with
  | none => rfl
  | some u => exact absurd e (h u)
abbrev oScr (vs : List Value) : Obj := { cls := .type "list", data := .seq vs.toArray }
abbrev oTab : Obj := { cls := .none, data := .fields #[] }
/-- the script as it stands ahead of the law: nothing may change it -/
def SqF (K : PySem.W.Frag) (H : Hp) (a : Addr) (xs : List V) : Prop := (∃ o, H a = some (.frz o (.lst xs))) ∨
  ∃ (o : Obj) (its : Array Value) (n : Nat), K.lookup a = some o ∧ o.cls = .type "list" ∧ o.dict = none ∧ o.data = .seq its n ∧ its.size ≤ sizeLine ∧ Vals xs its.toList
theorem SqF.sq {K : PySem.W.Frag} {H : Hp} {a : Addr} {xs : List V} (h : SqF K H a xs) : SqL K H a xs := h.elim (fun z => .inl (.inr z)) .inr
theorem law_callG {P : Program} {w : World} {K : PySem.W.Frag} {mg mb : Str → Option Value} {CX : CXT} {k : Nat} {fa a : Addr} {cs : List (Addr × Addr)} {fd : FuncData} {x : Str} {sp : Sp} {s₁ : Shared} {vs : List Value} {ns : List Int}
    (KX : K.In s₁.heap) (hns : s₁.heap.Ns mainGlobals mg) (hb : s₁.heap.Ns builtinsNs mb) (hbb : ∀ y : Str, y ≠ "__name__" → mb y = bootBuiltins y) (hlim : s₁.heap.NoLimit) (hg : s₁.gens = #[])
    (hT : ∀ p ∈ cs, s₁.heap.get? p.2 = some oTab) (nT : ∀ p ∈ cs, K.lookup p.2 = none) (C : ∀ p ∈ cs, PySem.W.CodeHd s₁.heap p.1 p.2)
    (hbm : ∃ (bm : Addr) (ob : Obj), mg "__builtins__" = some (.ref bm) ∧ bm ≠ builtinsNs ∧ s₁.heap.get? bm = some ob ∧ ob.cls = .type "module" ∧ ob.dict = some builtinsNs ∧ ob.data = .plain)
    (ha : s₁.heap.get? a = some (oScr vs)) (hi : IntsAre vs ns) (hl : ns.length ≤ sizeLine) (hr : Room k callerA)
    (F : ∀ base : Heap, K.In base → base.Ns mainGlobals mg → (∀ p ∈ cs, TabB base mg p.1 p.2) → FnG P w K mg base CX k fa fd [x] sp) (hbind : ∀ (s : Shared) (u : Value), BindsTo s fd ⟨[u], []⟩ [(x, u)])
    (hsp : ∀ H : Hp, (∀ p ∈ cs, H p.2 = some (.tbl #[])) → SqF K H a (ns.map V.int) → sp [.ref a] H (fun v _ => v = .bl true) fun _ _ _ => False)
    (hCX : ∀ H e s', CX [] H s₁ (fun _ _ _ => False) e s' → False) :
    codeAny (model P w) callerA (.call (.ref fa) ⟨[.ref a], []⟩) (fun r s' => r = .ok (.ret (.bool true)) ∧ OldK s₁.heap s'.heap ∧ s'.os = s₁.os ∧ AllBare s'.gens) s₁ := by
  have rv := vals_ints hi
  have elen : vs.length = ns.length := hi.length
  generalize ets : cs.map (·.2) = ts
  have tb : ∀ b, b ∈ ts → ∃ p ∈ cs, p.2 = b := fun b z => by rw [← ets] at z; exact List.mem_map.mp z
  have bt : ∀ p, p ∈ cs → p.2 ∈ ts := fun p z => by rw [← ets]; exact List.mem_map.mpr ⟨p, z, rfl⟩
  have at' : ∀ b, b ∈ ts → s₁.heap.get? b = some oTab := fun b z => by
    obtain ⟨p, hp, rfl⟩ := tb b z
    exact hT p hp
  have na : a ∉ ts := fun z => by
    have y := (at' a z).symm.trans ha
    have y2 : Data.fields #[] = Data.seq vs.toArray _ := congrArg Obj.data (Option.some.inj y)
    cases y2
  let sc : HO := .frz (oScr vs) (.lst (ns.map V.int))
  let H := hpA K a sc ts
  -- what is neither the script nor a table is not told
  have free : ∀ {b : Addr} {o : Obj}, s₁.heap.get? b = some o → o ≠ oScr vs → o ≠ oTab → H b = none := fun {b o} e n1 n2 => hpA_none fun u z => by
    rcases hpA_cases z with ⟨rfl, _, _⟩ | ⟨m, _⟩
    · exact n1 (Option.some.inj (e.symm.trans ha))
    · exact n2 (Option.some.inj (e.symm.trans (at' b m)))
  have noscr : ∀ {o : Obj}, (∀ l n, o.data ≠ .seq l n) → o ≠ oScr vs := fun n z => n _ _ (congrArg Obj.data z)
  have notab : ∀ {o : Obj}, o.data ≠ .fields #[] → o ≠ oTab := fun n z => n (congrArg Obj.data z)
  have hid : ∀ {b : Addr} {o : Obj}, s₁.heap.get? b = some o → o ≠ oScr vs → o ≠ oTab → (hidT s₁.heap H).get? b = some o := fun e n1 n2 => hidT_get e (free e n1 n2)
  have keepNs : ∀ {b : Addr} {m : Str → Option Value}, s₁.heap.Ns b m → (hidT s₁.heap H).Ns b m := fun {b m} z => by
    obtain ⟨o, es, ep, e, d, r⟩ := z
    refine ⟨o, es, ep, hid e (noscr fun l n y => ?_) (notab fun y => ?_), d, r⟩ <;> (rw [d] at y; cases y)
  have bIn : K.In (hidT s₁.heap H) := fun b o e => hidT_get (KX b o e) (hpA_none fun u z => by
    rcases hpA_cases z with ⟨rfl, n, _⟩ | ⟨m, _⟩
    · rw [n] at e; cases e
    · obtain ⟨p, hp, rfl⟩ := tb b m
      rw [nT p hp] at e; cases e)
  obtain ⟨mc, lim1, lim2⟩ := hlim
  have bMod : L2.Mod K mg (hidT s₁.heap H) := ⟨bIn, keepNs hns, ⟨mb, keepNs hb, hbb⟩, ⟨mc, keepNs lim1, lim2⟩⟩
  have hok : HOk P w H s₁.heap := fun b u z => by
    rcases hpA_cases z with ⟨rfl, _, rfl⟩ | ⟨m, rfl⟩
    · exact ⟨ha, by rw [List.length_map]; exact hl, vs, _, rv, ha⟩
    · exact at' b m
  have sq : SqF K H a (ns.map V.int) := by
    cases lk : K.lookup a with
    | none => exact .inl (⟨oScr vs, by show hpA K a sc ts a = _; unfold hpA; rw [if_pos ⟨rfl, lk⟩]⟩)
    | some o =>
      have eo : o = oScr vs := Option.some.inj ((KX a o lk).symm.trans ha)
      subst eo
      exact .inr ⟨_, vs.toArray, _, lk, rfl, rfl, rfl, by rw [List.size_toArray, elen]; exact hl, by simpa using rv⟩
  have tabs : ∀ p ∈ cs, TabB (hidT s₁.heap H) mg p.1 p.2 := fun p hp => by
    have tp := hT p hp
    constructor
    · obtain ⟨o, us, file, tf, flags, tg, inF, text, tt, e1, r1, r2, r3, rest⟩ := C p hp
      refine ⟨o, us, file, tf, flags, tg, inF, text, tt, hid e1 (noscr fun l n y => ?_) (notab fun y => ?_), r1, r2, r3, rest⟩
      · rw [r2] at y; cases y
      · rw [r2] at y; cases y
        simp at r3
    · obtain ⟨bm, ob, b1, b2, b3, b4, b5, b6⟩ := hbm
      refine ⟨bm, ob, b1, b2, fun y => ?_, fun y => ?_, hid b3 (noscr fun l n y => ?_) (notab fun y => ?_), b4, b5, b6⟩
      · obtain ⟨o, es, ep, e, d, _⟩ := hns
        subst y
        rw [e] at b3; cases b3
        rw [d] at b6; cases b6
      · subst y
        rw [tp] at b3; cases b3; cases b6
      all_goals (rw [b6] at y; cases y)
    · intro y
      obtain ⟨o, es, ep, e, d, _⟩ := hns
      rw [y, tp] at e; cases e; cases d
  have env : Env0 P w K mg (hidT s₁.heap H) callerA [] s₁ H := ⟨rfl, bMod, fun _ _ => of_hidT, Nat.le_of_eq (hidT_size _ _), trivial, fun _ z => (nomatch (show _ ∈ ([] : List Addr) from z)), hok, .of_eq hg⟩
  refine codeAny_mono ((F _ bIn (keepNs hns) tabs).go callerA [] s₁ H ⟨[.ref a], []⟩ [.ref a] [.ref a] _ _ rfl hr env (hbind s₁ (.ref a)) (.cons rfl .nil) (hsp H (fun p hp => hpA_tab (bt p hp) na) sq)) ?_
  rintro (er | fl) s' z
  · exact (hCX H er s' z).elim
  cases fl with
  | ret u =>
    obtain ⟨v, H', eos, bare, un, ok', ru, ev⟩ := z
    have ev : v = .bl true := ev
    subst ev
    have eu : u = Value.bool true := ru
    subst eu
    have kept : ∀ b o, b ∉ ts → s₁.heap.get? b = some o → s'.heap.get? b = some o := fun b o nb e => by
      cases hb : H b with
      | none => exact un.keep b o e hb (fun y => nomatch (show b ∈ ([] : List Addr) from y)) (fun y => nomatch y)
      | some c =>
        rcases hpA_cases hb with ⟨_, _, rfl⟩ | ⟨m, _⟩
        · have k1 := (ok' b _ (un.frzs b _ _ hb)).1
          have k0 := (hok b _ hb).1
          have eo := Option.some.inj (k0.symm.trans e)
          rw [← eo]
          exact k1
        · exact absurd m nb
    have more : ∀ b, b ∈ ts → ∃ m : Array Value, s'.heap.get? b = some { cls := .none, data := .fields m } := fun b m => by
      obtain ⟨q, y⟩ := un.tbls b #[] (hpA_tab m na)
      exact ⟨_, ok' b _ y⟩
    refine ⟨rfl, ⟨fun b o e => ?_, fun b o e => ?_⟩, eos, bare⟩
    · by_cases m : b ∈ ts
      · obtain ⟨q, y⟩ := more b m
        have eo := Option.some.inj (e.symm.trans (at' b m))
        subst eo
        obtain ⟨p, hp, rfl⟩ := tb b m
        exact .inr (.inl ⟨((C p hp).tab (hT p hp)).isCodeTable, rfl, #[], q, rfl, by rw [Array.empty_append]; exact y⟩)
      · exact .inl (kept b o m e)
    · by_cases m : b ∈ ts
      · obtain ⟨q, y⟩ := more b m
        exact ⟨_, y⟩
      · exact ⟨o, kept b o m e⟩
  | next => exact False.elim z
  | brk => exact False.elim z
  | cont => exact False.elim z
/-- what the head's heap h tells of the law -/
def LawAtG (l : PySem.W.OpenLaw) (w : World) (K : PySem.W.Frag) (CX : CXT) (k n : Nat) (x : Str) (mg : Str → Option Value) (fa : Addr) (h : Heap) : Prop :=
  ∃ (fd : FuncData) (cs : List (Addr × Addr)) (sp : Sp), (∀ p ∈ cs, h.get? p.2 = some oTab) ∧ (∀ p ∈ cs, K.lookup p.2 = none) ∧ (∀ p ∈ cs, PySem.W.CodeHd h p.1 p.2) ∧ (∀ (s : Shared) (u : Value), BindsTo s fd ⟨[u], []⟩ [(x, u)]) ∧
    (∀ (H : Hp) (a : Addr) (ns : List Int), ns.length ≤ n → (∀ z ∈ ns, Builtin.Int.intBits z ≤ 1048576) → (∀ p ∈ cs, H p.2 = some (.tbl #[])) → SqF K H a (ns.map V.int) → sp [.ref a] H (fun v _ => v = .bl true) fun _ _ _ => False) ∧
    ∀ base : Heap, K.In base → base.Ns mainGlobals mg → (∀ p ∈ cs, TabB base mg p.1 p.2) → FnG l.prog w K mg base CX k fa fd [x] sp
theorem walk_ofG {l : PySem.W.OpenLaw} {n k : Nat} {q : Program} {loose : List Str} {XP : (Str → Option Value) → Heap → Prop} {YP : World → Heap → Prop} {d : DefRec} {CX : World → CXT} {x : Str}
    (hn : l.most = some n) (hn2 : n ≤ sizeLine) (hdf : d.params.defaults = []) (hr : Room k callerA)
    (F : ∀ (w : World) (mg : Str → Option Value) (fa : Addr) (h : Heap), YP w h → h.Ns mainGlobals mg → mg d.name = some (.ref fa) → ∃ K : PySem.W.Frag, K.In h ∧ LawAtG l w K (CX w) k n x mg fa h)
    (hCX : ∀ (w : World) (H : Hp) (s : Shared) (e : Value) (s' : Shared), CX w [] H s (fun _ _ _ => False) e s' → False) :
    PySem.W.WalkO q loose XP YP l.row.toRowW d [] (fun f vs => PySem.call f vs) := by
  refine Att.attach_callB hn hdf ?_
  intro w s₀ s₁ mg mb fa o pm cd doc a vs ns G Y _ _ _ hmg hobj hints hlen hbits hg
  obtain ⟨K, KX, fd, cs, sp, hT, nT, C, hb, hsp, hF⟩ := F w mg fa _ Y G.T.g hmg
  exact law_callG KX G.T.g G.T.b G.T.builtins G.T.nolimit hg hT nT C G.T.bmain hobj hints (Nat.le_trans hlen hn2) hr hF hb (fun H t z => hsp H a ns hlen hbits t z) fun H e s' z => hCX w H s₁ e s' z
end AF
/-! values that are data, shown by repr; a caught error's fields and classes; several clauses that name the error -/
namespace AF
open PySem PySem.Spec PyProof.Rows L2
/-- a number or a text, as a dict's value -/
inductive Fl where
  | int (i : Int)
  | str (x : Str)
def Fl.v : Fl → V
  | .int i => .int i
  | .str x => .str x
def Fl.d : Fl → PyData
  | .int i => .int i
  | .str x => .str x
def flK (l : List (Str × Fl)) : List (Key × V) := l.map fun p => (.inr p.1, p.2.v)
def flD (l : List (Str × Fl)) : List (PyData × PyData) := l.map fun p => (.str p.1, p.2.d)
mutual
/-- a value by its data -/
inductive Pv (H : Hp) : V → PyData → Prop
  | non : Pv H .non .none
  | bl (b : Bool) : Pv H (.bl b) (.bool b)
  | int (i : Int) : Pv H (.int i) (.int i)
  | str (x : Str) : Pv H (.str x) (.str x)
  | lst {a : Addr} {xs : List V} {ds : List PyData} (e : H a = some (.lst xs)) (r : PvAll H xs ds) : Pv H (.ref a) (.list ds)
  | tup {a : Addr} {xs : List V} {ds : List PyData} (e : H a = some (.tup xs)) (r : PvAll H xs ds) : Pv H (.ref a) (.tuple ds)
  | d0 {a : Addr} (e : H a = some (.dK [])) : Pv H (.ref a) (.dict [])
  | d1 {a : Addr} {i j : Int} (e : H a = some (.dK [(.inl i, .int j)])) : Pv H (.ref a) (.dict [(.int i, .int j)])
  | d2 {a : Addr} {l : List (Str × Fl)} {ps : List (PyData × PyData)} (e : H a = some (.dK (flK l))) (q : flD l = ps) : Pv H (.ref a) (.dict ps)
inductive PvAll (H : Hp) : List V → List PyData → Prop
  | nil : PvAll H [] []
  | cons {v : V} {vs : List V} {d : PyData} {ds : List PyData} (h : Pv H v d) (r : PvAll H vs ds) : PvAll H (v :: vs) (d :: ds)
end
mutual
theorem Pv.ch {H H' : Hp} (c : Ch [] H H') : ∀ (d : PyData) (v : V), Pv H v d → Pv H' v d
  | .none, _, h => by cases h; exact .non
  | .bool b, _, h => by cases h; exact .bl b
  | .int i, _, h => by cases h; exact .int i
  | .str x, _, h => by cases h; exact .str x
  | .list ds, _, h => by cases h with | lst e r => exact .lst (c _ _ e List.not_mem_nil) (PvAll.ch c ds _ r)
  | .tuple ds, _, h => by cases h with | tup e r => exact .tup (c _ _ e List.not_mem_nil) (PvAll.ch c ds _ r)
  | .dict ps, _, h => by cases h with
    | d0 e => exact .d0 (c _ _ e List.not_mem_nil)
    | d1 e => exact .d1 (c _ _ e List.not_mem_nil)
    | d2 e q => exact .d2 (c _ _ e List.not_mem_nil) q
theorem PvAll.ch {H H' : Hp} (c : Ch [] H H') : ∀ (ds : List PyData) (vs : List V), PvAll H vs ds → PvAll H' vs ds
  | [], _, h => by cases h; exact .nil
  | d :: ds, _, h => by cases h with | cons k r => exact .cons (Pv.ch c d _ k) (PvAll.ch c ds _ r)
end
mutual
/-- without dicts -/
def noDicB : PyData → Bool
  | .list ds => noDicsB ds
  | .tuple ds => noDicsB ds
  | .dict _ => false
  | _ => true
def noDicsB : List PyData → Bool
  | [] => true
  | d :: ds => noDicB d && noDicsB ds
end
mutual
theorem Pv.dp {K : PySem.W.Frag} {H : Hp} : ∀ (d : PyData) (v : V), Pv H v d → noDicB d = true → Dp K H v d
  | .none, _, h, _ => by cases h; exact .non
  | .bool b, _, h, _ => by cases h; exact .bl b
  | .int i, _, h, _ => by cases h; exact .int i
  | .str x, _, h, _ => by cases h; exact .str x
  | .list ds, _, h, n => by cases h with | lst e r => exact .lst (SqL.of e) (PvAll.dp ds _ r n)
  | .tuple ds, _, h, n => by cases h with | tup e r => exact .tup (SqT.of e) (PvAll.dp ds _ r n)
  | .dict ps, _, _, n => by cases n
theorem PvAll.dp {K : PySem.W.Frag} {H : Hp} : ∀ (ds : List PyData) (vs : List V), PvAll H vs ds → noDicsB ds = true → DpAll K H vs ds
  | [], _, h, _ => by cases h; exact .nil
  | d :: ds, _, h, n => by
    cases h with
    | cons k r =>
      obtain ⟨n1, n2⟩ := Bool.and_eq_true_iff.mp n
      exact .cons (Pv.dp d _ k n1) (PvAll.dp ds _ r n2)
end
mutual
theorem noDic_has : ∀ d : PyData, noDicB d = true → d.hasDict = false
  | .none, _ => rfl
  | .bool _, _ => rfl
  | .int _, _ => rfl
  | .str _, _ => rfl
  | .list ds, h => noDics_has ds h
  | .tuple ds, h => noDics_has ds h
  | .dict _, h => by cases h
theorem noDics_has : ∀ ds : List PyData, noDicsB ds = true → PyData.hasDictAll ds = false
  | [], _ => rfl
  | d :: ds, h => by
    obtain ⟨h1, h2⟩ := Bool.and_eq_true_iff.mp h
    simp only [PyData.hasDictAll, noDic_has d h1, noDics_has ds h2, Bool.or_false]
end
theorem vals1' {v : V} {us : List Value} (r : Vals [v] us) : ∃ u, us = [u] ∧ RelV v u := by
  cases r with
  | cons h t => cases t; exact ⟨_, rfl, h⟩
/-- the type's name -/
def tyN : PyData → String
  | .none => "NoneType"
  | .bool _ => "bool"
  | .int _ => "int"
  | .str _ => "str"
  | .list _ => "list"
  | .tuple _ => "tuple"
  | .dict _ => "dict"
theorem Pv.ty {K : PySem.W.Frag} {H : Hp} {v : V} {d : PyData} (h : Pv H v d) : TyX K H v (.type (tyN d)) := by
  cases h with
  | non => exact .base .non
  | bl b => exact .base (.bl b)
  | int i => exact .base (.int i)
  | str x => exact .base (.str x)
  | lst e r => exact .base (.lst e)
  | tup e r => exact .base (.tup e)
  | d0 e => exact .base (.dK e)
  | d1 e => exact .base (.dK e)
  | d2 e _ => exact .base (.dK e)
/-- isinstance(x, T), T a built-in type -/
theorem g_isP {K : PySem.W.Frag} {H : Hp} {Q : VK} {v : V} {d : PyData} {T : String} {b : Bool} (h : Pv H v d) (e : kitB (tyN d) T = some b) (q : Q (.bl b) H) : rIsi K [v, .ty T] H Q := g_isi (.ty T) h.ty (kit_ty e) q
def topD : PyData → Bool
  | .dict _ => true
  | _ => false
section
variable {X : Cx} {pins : List (Addr × Obj)} {σ : L2.St} {H : Hp} {s : Shared}
def encK : Key → PyData
  | .inl i => .int i
  | .inr x => .str x
theorem Pv.reads (I : Inv X pins σ H s) {v : V} {u : Value} {d : PyData} (h : Pv H v d) (r : RelV v u) (n : noDicB d = true ∨ topD d = true) : ∃ as, Reads s.heap u d as ∧ (topD d = true → sysModules ∉ as) := by
  rcases n with n | n
  · obtain ⟨as, z⟩ := Dp.reads I d v u (h.dp (K := X.K) d v n) r
    exact ⟨as, z, fun y => by cases d <;> first | (cases y; done) | (cases n; done)⟩
  · have key : ∀ (k : Key) (kv : Value), (mixKind X.prog X.w).is k kv = true → Reads s.heap kv (encK k) [] := fun k kv e => by
      rcases keyIs_shape (show keyIs k kv = true from e) with ⟨i, t, rfl, rfl⟩ | ⟨x, t, rfl, rfl⟩
      · exact .int i t
      · exact .str x t
    have fin : ∀ {a : Addr}, (a == sysModules) = false → sysModules ∉ [a] := fun sm z => by
      rw [List.mem_singleton] at z
      rw [← z] at sm
      simp at sm
    cases h with
    | d0 e =>
      rename_i a
      cases (show u = Value.ref a from r)
      obtain ⟨_, sm, vs, kv, dd⟩ := (show ObjOk X.prog X.w H s.heap a (.dK []) from I.hok a _ e)
      cases (show Paired _ [] vs from kv)
      exact ⟨_, PyProof.V.reads_dictOf (enc := encK) key dd .nil, fun _ => fin sm⟩
    | d1 e =>
      rename_i a i j
      cases (show u = Value.ref a from r)
      obtain ⟨_, sm, vs, kv, dd⟩ := (show ObjOk X.prog X.w H s.heap a (.dK _) from I.hok a _ e)
      cases (show Paired _ _ vs from kv) with
      | @cons p q ps qs h1 h2 =>
        cases h2
        obtain ⟨k, y⟩ := q
        obtain ⟨e1, e2⟩ := h1
        cases (show (Sum.inl i : Key) = k from e1)
        obtain ⟨t, rfl⟩ := (show ∃ t, y = Value.int j t from e2)
        exact ⟨_, PyProof.V.reads_dictOf (enc := encK) (D := [(.int i, .int j)]) key dd (PyProof.V.PairsRead.cons (.int j t) .nil), fun _ => fin sm⟩
    | @d2 a l _ e q =>
      cases (show u = Value.ref a from r)
      obtain ⟨_, sm, vs, kv, dd⟩ := (show ObjOk X.prog X.w H s.heap a (.dK (flK l)) from I.hok a _ e)
      have pr : ∀ (l : List (Str × Fl)) (vs : List (Key × Value)), Paired (fun p q => p.1 = q.1 ∧ RelV p.2 q.2) (flK l) vs → PyProof.V.PairsRead s.heap encK vs (flD l) [] := fun l => by
        induction l with
        | nil => intro vs kv; cases kv; exact .nil
        | cons p t ih =>
          intro vs kv
          cases kv with
          | @cons p' q' ps qs h1 h2 =>
            have z := ih _ h2
            obtain ⟨k, y⟩ := q'
            obtain ⟨e1, e2⟩ := h1
            obtain ⟨z1, z2⟩ := p
            cases (show (Sum.inr z1 : Key) = k from e1)
            cases z2 with
            | int i =>
              obtain ⟨t, rfl⟩ := (show ∃ t, y = Value.int i t from e2)
              exact .cons (.int i t) z
            | str x =>
              obtain ⟨t, rfl⟩ := (show ∃ t, y = Value.str x t from e2)
              exact .cons (.str x t) z
      rw [← q]
      exact ⟨_, PyProof.V.reads_dictOf (enc := encK) key dd (pr l vs kv), fun _ => fin sm⟩
    | _ => cases n
end
/-- what repr may show at once -/
def showB (d : PyData) : Bool := d.showable && (Nat.ble d.depth 60 && (Nat.ble d.shown.length 1000 && (noDicB d || topD d)))
/-- repr of a value -/
inductive RepO (H : Hp) : V → Str → Prop
  | non : RepO H .non "None"
  | bl (b : Bool) : RepO H (.bl b) (if b then "True" else "False")
  | int {i : Int} (h : i.natAbs.log2 < 1920) : RepO H (.int i) (toString i)
  | str {x : Str} (h : Nat.ble (reprText x).length 1000 = true) : RepO H (.str x) (reprText x)
  | box {a : Addr} {d : PyData} (h : Pv H (.ref a) d) (s : showB d = true) : RepO H (.ref a) d.shown
theorem RepO.ch {H H' : Hp} {v : V} {z : Str} (h : RepO H v z) (c : Ch [] H H') : RepO H' v z := by
  cases h with
  | non => exact .non
  | bl b => exact .bl b
  | int h => exact .int h
  | str h => exact .str h
  | box h s => exact .box (h.ch c) s
theorem RepO.of {H : Hp} {v : V} {d : PyData} (h : Pv H v d) (s : showB d = true) : RepO H v d.shown := by
  obtain ⟨s1, s2⟩ := Bool.and_eq_true_iff.mp s
  obtain ⟨s2, s3⟩ := Bool.and_eq_true_iff.mp s2
  obtain ⟨s3, s4⟩ := Bool.and_eq_true_iff.mp s3
  cases h with
  | non => simp only [PyData.shown]; exact .non
  | bl b => simp only [PyData.shown]; exact .bl b
  | int i => simp only [PyData.shown]; exact .int (of_decide_eq_true s1)
  | str x => simp only [PyData.shown] at s3 ⊢; exact .str s3
  | lst e r => exact .box (.lst e r) s
  | tup e r => exact .box (.tup e r) s
  | d0 e => exact .box (.d0 e) s
  | d1 e => exact .box (.d1 e) s
  | d2 e q => exact .box (.d2 e q) s
def rRep : List V → Hp → VK → Prop := fun xs H Q => ∃ v z, xs = [v] ∧ RepO H v z ∧ Q (.str z) H
theorem cl_rep {X : Cx} (hG : X.A.guards = some []) (hu : X.A.units + 100 < cLine) : CallR X (.builtin "repr") rRep := by
  intro pins s σ H xs us Q I r h
  obtain ⟨v, z, rfl, hz, q⟩ := h
  obtain ⟨u, rfl, ru⟩ := vals1' r
  cases hz with
  | non => cases ru; exact PySem.P.repr_of_none ⟨.str _, H, I.tok _, ⟨_, rfl⟩, q⟩
  | bl b => cases ru; exact PySem.P.repr_of_bool ⟨.str _, H, I.tok _, ⟨_, rfl⟩, q⟩
  | int hi =>
    obtain ⟨t, rfl⟩ := ru
    exact PySem.P.repr_of_int hi ⟨.str _, H, I.tok _, ⟨_, rfl⟩, q⟩
  | str hx =>
    obtain ⟨t, rfl⟩ := ru
    exact PySem.P.repr_of_str ⟨.str _, H, I.tok _, ⟨_, rfl⟩, q⟩ (line_of hx)
  | @box a d hp sh =>
    obtain ⟨s1, s2⟩ := Bool.and_eq_true_iff.mp sh
    obtain ⟨s2, s3⟩ := Bool.and_eq_true_iff.mp s2
    obtain ⟨s3, s4⟩ := Bool.and_eq_true_iff.mp s3
    have s2 := Nat.le_of_ble_eq_true s2
    have nd : noDicB d = true ∨ topD d = true := Bool.or_eq_true_iff.mp s4
    obtain ⟨as, rd, sm⟩ := hp.reads I ru nd
    cases (show u = Value.ref a from ru)
    have hd : d.hasDict = true → topD d = true := fun y => nd.elim (fun n => absurd y (by rw [noDic_has d n]; simp)) id
    exact repr_of_reads' rd s1 (fun y => sm (hd y)) hG (by omega) (fun _ _ e => e) (fun h' t tk k => ⟨.str _, H, I.kept k, ⟨_, rfl⟩, q⟩) (line_of s3)
end AF
/-! isinstance of a caught error that has a dict; several clauses that name the error -/
namespace AF
open PySem PySem.Spec PyProof.Rows L2
section
open PySem.W (Frag InstAt Looks findIn specialIn takesIn clsIn hasDictIn looks_findIn looks_find looks_subIn any_some KitX class_get)
variable {prog : Program} {w : World} {A : Around} {E : Value → Shared → Prop} {s : Shared} {K : Frag} {x D : Addr} {ox : Obj} {od : Option Obj}
/-- a data descriptor of the class is asked ahead of the own dict -/
theorem find_data {nm : Str} {f g : Value} (hc : (clsIn K D).isSome = true) (h1 : findIn K (.ref D) nm = some (some f)) (h2 : specialIn K f "__get__" = some (some g)) (h3 : takesIn K f = some true) : PySem.W.findObj K D od nm = some (.bind g f) := by
  cases e : clsIn K D with
  | none => rw [e] at hc; cases hc
  | some cd =>
    unfold PySem.W.findObj
    simp only [e, h1, h2, h3, Option.bind_some]
open PySem.Calls in
theorem err_class {Q : Option Value → Shared → Prop} (C : ExcC K D) (KX : K.In s.heap) (I : InstAt s.heap x ox D od) (q : Q (some (.ref D)) { s with toks := s.toks + 1 }) : wpAny (model prog w) A (getAttr? (.ref x) "__class__") Q E s := by
  have isC : (clsIn K D).isSome = true := by
    obtain ⟨cd, e, _⟩ := any_some C.hd
    rw [e]; rfl
  have found := find_data (od := od) isC C.ha C.hn C.ht
  obtain ⟨hh, gs, dr, tk, os⟩ := s
  have lt := I.type (M := model prog w)
  have lg := looks_findIn (M := model prog w) KX C.hg
  have lk := looks_findIn (M := model prog w) KX C.hk
  have lf := looks_find (M := model prog w) KX I found
  have lb : Looks (model prog w) hh (isInstance (.ref x) (.type "BaseException")) true := lt.andThen (looks_subIn KX C.hs)
  have b0 : (Value.builtin "BaseException.__getattribute__" == Value.builtin "object.__getattribute__") = false := by decide +kernel
  unfold getAttr? getAttrBy? getAttrBy
  refine wpAny_bind (wpAny_mkText (wpAny_bind (wpAny_attempt (wpAny_holding (wpAny_bind (lt.at (wpAny_bind (lg.at ?_))))))))
  have b1 : ¬ (onTheHeap (Value.ref D) && Value.builtin "BaseException.__getattribute__" == Value.builtin "object.__getattribute__") = true := by rw [b0, Bool.and_false]; exact Bool.false_ne_true
  dsimp only
  rw [if_neg b1]
  unfold getAttrByItsOwn hookBefore
  refine wpAny_bind ?_
  rw [if_pos (show onTheHeap (Value.ref D) = true from rfl)]
  refine lk.at (wpAny_bind (wpAny_attempt (wpAny_holding ?_)))
  unfold callGetattribute
  rw [if_neg (show ¬ (false && onTheHeap (Value.builtin "BaseException.__getattribute__")) = true from Bool.false_ne_true)]
  unfold boundAndCalled
  rw [PySem.F.excAttr_ValueError.ga.bind (.ref x)]
  refine wpAny_bind (wpAny_pure (wpAny_call (codeAny_call_builtin PySem.F.excAttr_ValueError.ga.plain PySem.F.entry_bexc_ga ?_)))
  refine @PySem.W.check_slot (model prog w) _ _ ⟨hh, gs, dr, tk + 1, os⟩ "BaseException.__getattribute__" "BaseException" "__getattribute__" (.ref x) [.str "__class__" tk] [] _ (by decide +kernel) (by decide +kernel) lb (PySem.F.args_bexc_ga _ _) ?_
  unfold Builtin.«object.__getattribute__»
  refine wpAny_bind (wpAny_of_eq (a := ((Value.ref x : Value), [Value.str "__class__" tk])) (by first | rfl | (simp only [slotArgs]; rfl)) (wpAny_bind (wpAny_pure (wpAny_bind (lt.at (wpAny_bind (lf.at ?_)))))))
  dsimp only
  refine wpAny_bind (wpAny_holding (wpAny_call (class_get (s := ⟨hh, gs, dr, tk + 1, os⟩) KX I C.hm ?_)))
  refine wpAny_pure ?_
  dsimp only
  rw [PySem.W.handedOut_of (v := .ref D) rfl]
  first
    | exact wpAny_pure (wpAny_pure q)
    | exact wpAny_pure q
    | exact wpAny_pure (wpAny_bind (wpAny_pure (wpAny_pure q)))
theorem kit_err (C : ExcC K D) : KitX K (.ref x) (.ref D) (fun h => InstAt h x ox D od) := by
  have there : ∀ h : Heap, K.In h → ∃ o cd, h.get? D = some o ∧ o.data = .cls cd := fun h KX => by
    obtain ⟨cd, e, _⟩ := any_some C.hd
    unfold clsIn at e
    split at e
    · rename_i c d cd' sl ho
      exact ⟨_, _, KX _ _ ho, rfl⟩
    · cases e
  refine ⟨fun _ _ _ I => I.type, fun M h KX _ => ?_, fun h tp dd its n sl KX htp => ?_, fun KX I k => err_class C KX I k⟩
  · obtain ⟨o, cd, ho, hd⟩ := there h KX
    intro A' Q' E' s' k q
    unfold isType loadHead
    refine wpAny_bind (wpAny_loadPart (k _ _ ho) ?_)
    rw [hd]
    exact wpAny_pure q
  · obtain ⟨o, cd, ho, hd⟩ := there h KX
    refine Bool.eq_false_iff.mpr fun z => ?_
    have e : D = tp := Value.ref.inj (beq_iff_eq.mp z)
    subst e
    have e2 := Option.some.inj (ho.symm.trans htp)
    subst e2
    cases hd
end
/-- isinstance(e, c), e the error that the suite holds, with its dict -/
def rIsX (K : PySem.W.Frag) (a : Addr) (cls : Value) (d : Option Addr) (C : Addr) : List V → Hp → VK → Prop := fun xs H Q => ∃ (c : V) (cv : Value) (b : Bool) (dd : Addr) (fs : List (Str × V)), xs = [.ref a, c] ∧ cls = .ref C ∧ d = some dd ∧ H dd = some (.xd fs) ∧
  ClsV c cv ∧ PySem.W.kitOne K (.ref C) cv = some b ∧ Q (.bl b) H
theorem cl_isX {X : Cx} {a C : Addr} {oe : Obj} {cls : Value} {d : Option Addr} {pn : List (Addr × Obj)} (T : ExcC X.K C) (hz : Zc cls d oe) (hf : ∃ vs, oe.data = .fields vs) : CallR (X.suite a ((a, oe) :: pn)) (.builtin "isinstance") (rIsX X.K a cls d C) := by
  intro pins s σ H xs us Q I r h
  obtain ⟨c, cv, b, dd, fs, rfl, rfl, rfl, hx, kc, e, q⟩ := h
  cases r with
  | @cons _ u0 _ ur rx rr =>
    cases rr with
    | @cons _ u1 _ ur2 rt rn =>
      cases rn
      cases (show u0 = Value.ref a from rx)
      have e1 := kc.eq rt
      subst e1
      obtain ⟨hget, _⟩ := I.pin (a, oe) (List.mem_append.mpr (.inl List.mem_cons_self))
      obtain ⟨vs, hv⟩ := hf
      obtain ⟨mA, ⟨od, es, ep, ho, hr⟩, rel⟩ := (show ObjOk X.prog X.w H s.heap dd (.xd fs) from I.hok dd _ hx)
      have J : PySem.W.InstAt s.heap a oe C (some od) := by
        refine ⟨hget, hz.1, ?_, ?_⟩
        · unfold PySem.W.notCls; rw [hv]
        · rw [hz.2]; exact ho
      exact PySem.W.kia_one (kit_err T) I.kIn J e (fun z => nomatch z) fun tk => ⟨.bl b, H, I.kept (t' := tk) fun _ _ z => z, rfl, q⟩
/-- steps: e.f, isinstance(e, c) -/
def kXf (a : Addr) (cls : Value) (d : Option Addr) (C : Addr) (f : Str) (Q : VK) (x : V) (H1 : Hp) : Prop := x = .ref a ∧ cls = .ref C ∧ ∃ (dd : Addr) (fs : List (Str × V)) (v : V), d = some dd ∧ H1 dd = some (.xd fs) ∧ fs.lookup f = some v ∧ Q v H1
section
variable {K : PySem.W.Frag} {H : Hp} {Q : VK} {a C dd : Addr} {f : Str} {v : V} {σ : L2.St} {te : TE} {cls : Value} {d : Option Addr}
instance : Step (tXf a cls d C f te σ H Q) (te σ H (kXf a cls d C f Q)) := ⟨fun h => h⟩
theorem g_xf {fs : List (Str × V)} (h : H dd = some (.xd fs)) (e : fs.lookup f = some v) (q : Q v H) : kXf a (.ref C) (some dd) C f Q (.ref a) H := ⟨rfl, rfl, dd, fs, v, rfl, h, e, q⟩
theorem g_isX {fs : List (Str × V)} {c : V} {cv : Value} {b : Bool} (h : H dd = some (.xd fs)) (kc : ClsV c cv) (e : PySem.W.kitOne K (.ref C) cv = some b) (q : Q (.bl b) H) : rIsX K a (.ref C) (some dd) C [.ref a, c] H Q :=
  ⟨c, cv, b, dd, fs, rfl, rfl, rfl, h, kc, e, q⟩
end
/-! several clauses, each one with the name n in slot i -/
def offI (i : Nat) (D : Ends) : Ends := { nx := fun σ H => D.nx (σ.set i none) H, rt := D.rt, bk := fun σ H => D.bk (σ.set i none) H, ct := fun σ H => D.ct (σ.set i none) H }
def wNam (K : PySem.W.Frag) (i : Nat) (Wout : WX) (D : Ends) : List (Value × (Addr → Value → Option Addr → TS)) → WX
  | [] => Wout
  | (c, ts) :: r => fun cls d σ H => ∃ b, PySem.W.exmOne K cls c = some b ∧ (b = true → ∀ a, H a = none → ts a cls d (offI i D) (σ.set i (some (.ref a))) H) ∧ (b = false → wNam K i Wout D r cls d σ H)
inductive HdN (X : Cx) (n : Str) : List ExceptHandler → List (Value × (Addr → Value → Option Addr → TS)) → Prop
  | nil : HdN X n [] []
  | cons {x : Str} {c : Value} {ts : Addr → Value → Option Addr → TS} {b₀ : Stmt} {suite : List Stmt} {np p' : Pos} {hds : List ExceptHandler} {l : List (Value × (Addr → Value → Option Addr → TS))} (hc : Names X x c)
      (hsu : ∀ (a : Addr) (oe : Obj) (cls : Value) (d : Option Addr) (pn : List (Addr × Obj)), Zc cls d oe → (∃ vs, oe.data = .fields vs) → PSs (X.suite a ((a, oe) :: pn)) (b₀ :: suite) (ts a cls d)) (r : HdN X n hds l) :
      HdN X n (.ExceptHandler (some (.Name x np)) (some n) (b₀ :: suite) p' :: hds) ((c, ts) :: l)
section
variable {X : Cx} {n : Str} {i : Nat} {body : List Stmt} {h₀ : ExceptHandler} {hds : List ExceptHandler} {l : List (Value × (Addr → Value → Option Addr → TS))} {pos : Pos} {tb : WX → TS} {Wout : WX}
theorem ps_try_nam (hs : X.stack = X.env :: X.outer) (hf : X.env.frame = some X.env.locals) (hN : X.N.Nodup) (hi : X.N[i]? = some n) (hln : X.env.kindOf n = some .local) (tk : Takes X Wout)
    (hb : ∀ (W : WX) (pn : List (Addr × Obj)) (xe : Value → Shared → Prop), Takes (X.tr pn xe) W → PassesOwn (model X.prog X.w) X.A X.env xe → PSs (X.tr pn xe) body (tb W))
    (hh : HdN X n (h₀ :: hds) l) : PS X (.Try body (h₀ :: hds) [] [] pos) (fun D σ H => tb (wNam X.K i Wout D l) D σ H) := by
  constructor
  intro pins s σ H D I h
  have ok := I.ok
  have frm : X.A.frames = some (X.env :: X.outer) := by rw [ok.frames, hs]
  have own : Loc X.env.scope n := .inl hln
  -- the suites, one behind the other, for the error at a
  let caught : Value → Shared → Prop := fun e s₁ => wpAny (model X.prog X.w) X.A (noteFrame e X.env) (fun _ s₂ => wpAny (model X.prog X.w) X.A (setFlight e none) (fun _ s₃ =>
    wpAny (model X.prog X.w) X.A (handleBy e X.env (h₀ :: hds)) (SP X pins D) X.xe s₃) X.xe s₂) X.xe s₁
  have land : Takes (X.tr (X.pn ++ pins) caught) (wNam X.K i Wout D l) := by
    rintro u s' ⟨a, B, sI, pins', σ', H', cls, d, rfl, J', nb, up, sky, na, eos, ag, w⟩
    have J : Inv X pins σ' H' sI := J'.ofTry ok
    have sky1 : Sky B (X.env :: X.outer) a (Zc cls d) X.env.locals s'.heap := by rw [← hs]; exact sky
    refine Sky.land Zc.steady frm hf sky1 fun h1 fl up1 => ?_
    have onGround : ∀ h2, B.StaysIn h2 → h1.UpToSlots h2 → Inv X pins σ' H' { s' with heap := h2 } := fun h2 st up2 => J.landed nb st ((up.trans up1).trans up2) eos ag
    have J1 := onGround h1 fl.1 (Heap.UpToSlots.refl _)
    obtain ⟨o1, v1, e1, z1, d1⟩ := fl.there
    have off : a ∉ frs (X.env :: X.outer) := fun m => by
      obtain ⟨_, o', e', nf⟩ := fl.2.2.1.mem m
      have y := Option.some.inj (e1.symm.trans e')
      subst y
      exact nf _ d1
    have nL : a ≠ X.env.locals := fun z => off (List.mem_filterMap.mpr ⟨X.env, List.mem_cons_self, by rw [hf, z]⟩)
    have nF : a ∉ X.fs := fun m => by
      obtain ⟨e, he, y⟩ := List.mem_filterMap.mp m
      exact off (List.mem_filterMap.mpr ⟨e, List.mem_cons_of_mem _ he, y⟩)
    have S1 := J1.suite e1 d1 na nL nF
    have each : ∀ {hs' : List ExceptHandler} {l' : List (Value × (Addr → Value → Option Addr → TS))}, HdN X n hs' l' → wNam X.K i Wout D l' cls d σ' H' →
        wpAny (model X.prog X.w) X.A (handleBy (.ref a) X.env hs') (SP X pins D) X.xe { s' with heap := h1 } := by
      intro hs' l' k
      induction k with
      | nil =>
        intro w
        refine wpAny_handleBy_nil ?_
        obtain ⟨_, _, _, oe, vs, T, oT, ts', he, hz, hd, hT, _⟩ := id fl
        unfold PySem.passOn
        refine wpAny_bind (wpAny_field he hd hT ?_)
        rw [if_neg (show ¬ ((Value.ref T == Value.none) = true) from by simp)]
        have out : wpAny (model X.prog X.w) X.A (setFlight (.ref a) X.env.frame) (fun _ s4 => wpAny (model X.prog X.w) X.A (throw (.ref a) : Sem Flow) (SP X pins D) X.xe s4) X.xe { s' with heap := h1 } := by
          rw [hf]
          exact HandSPX.setFlight_upZ fl fun h2 held up2 => wpAny_throw (tk _ _ ⟨a, B, sI, pins, σ', H', cls, d, rfl, J, nb, (up.trans up1).trans up2, .inr (.inr (by rw [hs]; exact held)), na, eos, ag, w⟩)
        first
          | exact wpAny_bind (wpAny_pure (wpAny_bind out))
          | exact wpAny_bind out
      | @cons x c ts b₀ suite np p' hd2 l2 hc hsu r ih =>
        intro w
        obtain ⟨b, hb1, yes, no⟩ := w
        refine wpAny_handleBy_cons (codeAny_handlers_test ?_) (fun q => nomatch q)
        have isT : PySem.W.Looks (model X.prog X.w) h1 (typeOf (.ref a)) cls := fun _ _ _ _ k q => wpAny_typeOf_ref (k _ _ e1) (by rw [z1.1]; exact q)
        have named : ∀ {Q E : Value → Shared → Prop}, Q c { s' with heap := h1 } → wpAny (model X.prog X.w) (X.A.mark (some (.ref a))) (eval (.Name x np) X.env) Q E { s' with heap := h1 } := fun q => by
          obtain ⟨hg, dbg, z⟩ := hc
          rcases z with z | ⟨z, zv, zn⟩
          · exact ld_glob (X := X.suite a ((a, o1) :: (X.pn ++ pins))) S1 hg z q dbg
          · exact ld_blt (X := X.suite a ((a, o1) :: (X.pn ++ pins))) S1 hg z zv q zn dbg
        refine named ((PySem.W.exm_one (M := model X.prog X.w) J1.kIn isT hb1).here ?_)
        cases b with
        | false =>
          show wpAny _ X.A (handleBy (.ref a) X.env hd2) _ _ _
          exact ih (no rfl)
        | true =>
          refine codeAny_handlers_suite_as (HandSPX.lands_againZ fl fun h2 fl2 up2 => ?_)
          have J2 := onGround h2 fl2.1 up2
          obtain ⟨o2, v2, e2, z2, d2⟩ := fl2.there
          refine store_ok (X := X.suite a ((a, o2) :: (X.pn ++ pins))) (v := .ref a) (J2.suite e2 d2 na nL nF) hN hi own rfl (fun s3 S3 => ?_) (.inr hln)
          refine wpAny_mono ((hsu a o2 cls d (X.pn ++ pins) z2 ⟨_, d2⟩).run [] s3 _ H' _ S3 (yes rfl a na)) ?_ (fun _ _ z => False.elim z)
          intro fw s4 hsp
          have gone : ∀ {σ4 : L2.St} {H4 : Hp} {R : Shared → Prop}, Inv (X.suite a ((a, o2) :: (X.pn ++ pins))) [] σ4 H4 s4 → (∀ s5, Inv X pins (σ4.set i none) H4 s5 → R s5) →
              wpAny (model X.prog X.w) X.A (do bindName X.env n .none; unbindBehindTheSuite X.env n p') (fun _ s5 => R s5) X.xe s4 := fun S4 hR => gone_ok (S4.unsuite ok) hN hi hln hR
          cases fw with
          | ret u =>
            obtain ⟨v4, σ4, H4, S4, r4, q4⟩ := hsp
            exact gone S4 fun s5 J5 => ⟨_, _, _, J5, r4, q4⟩
          | _ =>
            obtain ⟨σ4, H4, S4, q4⟩ := hsp
            exact gone S4 fun s5 J5 => ⟨_, _, J5, q4⟩
    exact each hh w
  refine wpAny_Try_except (wpAny_mono ((hb (wNam X.K i Wout D l) (X.pn ++ pins) caught land PassesOwn.looking).run [] s σ H D (I.toTry _) h) ?_ (fun e s1 z => z))
  intro fw s1 hsp
  cases fw with
  | next =>
    obtain ⟨σ1, H1, J1, q⟩ := hsp
    exact wpAny_execs_nil ⟨σ1, H1, J1.ofTry ok, q⟩
  | ret u =>
    obtain ⟨v, σ1, H1, J1, r, q⟩ := hsp
    exact ⟨v, σ1, H1, J1.ofTry ok, r, q⟩
  | _ =>
    obtain ⟨σ1, H1, J1, q⟩ := hsp
    exact ⟨σ1, H1, J1.ofTry ok, q⟩
end
end AF
/-! calls within a try: what is raised is wished for at the slots; x.get(k, v) of a dict; t.index(x) -/
namespace AF
open PySem PySem.Spec PyProof.Rows L2
def tCallW (sp : Sp) (W : WX) (t : TA) : TE := fun σ H Q => t σ H fun vs H1 => sp vs H1 Q (fun cls d H' => W cls d σ H')
section
variable {X : Cx} {k : Nat} {f : Addr} {ps : List Str} {sp : Sp} {W : WX} {x : Str} {p pos : Pos} {e : Expr} {es : List Expr} {t : TA}
theorem pe_dnW (D : Dn X.prog X.w X.K X.mg X.base k f ps sp) (hr : Room k X.A) (hg : Gl X x) (hm : X.mg x = some (.ref f)) (tk : Takes X W) (ha : PA X (e :: es) t) (hdb : (x == ("__debug__" : Str)) = false := by decide)
    (he : starEach (e :: es) X.env = (false, eval e X.env) :: starEach es X.env := by rfl) (hpl : (backTo pos (starEach es X.env)).any (·.1) = false := by rfl) : PE X (.Call (.Name x p) (e :: es) [] pos) (tCallW sp W t) := by
  obtain ⟨fd, F, b⟩ := D.ex
  have z := pe_callSD (E := fun σ cls d H' => W cls d σ H') (p := p) F hr hg hm D.kp b .nil (fun σ => fun pins H s e s' I c => tk e s' (XE.of_call I (fun _ _ _ h => h) c)) ha hdb he hpl
  refine ⟨fun pins s σ H Q I h => z.run pins s σ H Q I ?_⟩
  show t σ H fun vs H1 => sp (vs ++ []) H1 Q (fun cls d H' => W cls d σ H')
  have e1 : (fun (vs : List V) (H1 : Hp) => sp (vs ++ []) H1 Q (fun cls d H' => W cls d σ H')) = fun vs H1 => sp vs H1 Q (fun cls d H' => W cls d σ H') := by
    funext vs H1
    rw [List.append_nil]
  rw [e1]
  exact h
end
instance {sp : Sp} {W : WX} {t : TA} {σ : L2.St} {H : Hp} {Q : VK} : Step (tCallW sp W t σ H Q) (t σ H fun vs H1 => sp vs H1 Q (fun cls d H' => W cls d σ H')) := ⟨fun h => h⟩
/-! d.get(k, v) -/
def kG2 (ty tx : TE) (σ : L2.St) (Q : VK) (x : V) (H1 : Hp) : Prop := ∃ a, x = .ref a ∧ IsD H1 a ∧ ty σ H1 fun y H2 => tx σ H2 fun z H3 => ∃ o, DGet H3 a y o ∧ Q (o.getD z) H3
def kG3 (a : Addr) (Q : VK) (y z : V) (H3 : Hp) : Prop := ∃ o, DGet H3 a y o ∧ Q (o.getD z) H3
section
variable {K : PySem.W.Frag} {H : Hp} {Q : VK} {a p : Addr} {kvs : List (Key × V)} {td ty tx : TE} {σ : L2.St} {s : Str} {z : V} {o : Option V}
instance : Step (tDGet2 td ty tx σ H Q) (td σ H (kG2 ty tx σ Q)) := ⟨fun h => h⟩
theorem g_kg2 (h : H a = some (.dK kvs)) (q : ty σ H fun y H2 => tx σ H2 (kG3 a Q y)) : kG2 ty tx σ Q (.ref a) H := ⟨a, rfl, .inl ⟨kvs, .inl h⟩, q⟩
theorem g_kg3 (h : H a = some (.dK kvs)) (e : valV kvs (.inr s) = o) (q : Q (o.getD z) H) : kG3 a Q (.str s) z H := by
  subst e
  exact ⟨_, DGet.k (k := .inr s) h, q⟩
theorem g_kgS {v : V} (h : H a = some (.dK kvs)) (e : valV kvs (.inr s) = some v) (q : Q v H) : kG3 a Q (.str s) z H := g_kg3 h e q
theorem g_kgN (h : H a = some (.dK kvs)) (e : valV kvs (.inr s) = none) (q : Q z H) : kG3 a Q (.str s) z H := g_kg3 h e q
end
/-! t.index(x) of texts -/
def rIdx (K : PySem.W.Frag) : V → List V → Hp → VK → Prop := fun x xs H Q => ∃ p, ∃ ys : List Str, ∃ z j, x = .ref p ∧ xs = [.str z] ∧ SqT K H p (ys.map V.str) ∧ ys[j]? = some z ∧ (∀ m, m < j → ys[m]? ≠ some z) ∧ Q (.int (j : Nat)) H
theorem mt_idxK {X : Cx} {K : PySem.W.Frag} (hK : X.K = K := by rfl) : MtR X "tuple.index" (rIdx K) := hK ▸ mt_tup_index
section
variable {X : Cx} {K : PySem.W.Frag} {o e : Expr} {es : List Expr} {to : TE} {t : TA} {name : Str} {apos cpos : Pos} {T id : String} {r : V → List V → Hp → VK → Prop}
theorem pe_bmK (pa : PlainAttrs T) (slot : Slot T name id) (hty : typeOf (.builtin id) = pure (.type "method_descriptor")) (hm : MtR X id r) (ho : PE X o to) (ha : PA X (e :: es) t)
    (hbase : attributeBase o name X.env (eval o X.env) = eval o X.env := by rfl)
    (hfew : ((backTo cpos (starEach (e :: es) X.env)).all (fun x => !x.1) && (backToKw cpos (keywordEach [] X.env)).all (fun x => x.1.isSome)
      && decide ((e :: es).length + ([] : List Keyword).length + (if ([] : List Keyword).isEmpty then 0 else 1) < 30)) = true := by rfl)
    (hline : (apos.endLine == cpos.line) = true := by rfl) (hs : starEach (e :: es) X.env = (false, eval e X.env) :: starEach es X.env := by rfl) (hplain : (backTo cpos (starEach es X.env)).any (·.1) = false := by rfl) (hK : X.K = K := by rfl) :
    PE X (.Call (.Attribute o name apos) (e :: es) [] cpos) (tBM K T r to t) := hK ▸ pe_bm pa slot hty hm ho ha hbase hfew hline hs hplain
theorem g_idx {H : Hp} {Q : VK} {p : Addr} {ys : List Str} {z : Str} {j : Nat} (h : SqT K H p (ys.map V.str)) (e : ys[j]? = some z) (n : ∀ m, m < j → ys[m]? ≠ some z) (q : Q (.int (j : Nat)) H) : rIdx K (.ref p) [.str z] H Q := ⟨p, ys, z, j, rfl, rfl, h, e, n, q⟩
end
/-- a written tuple without a dict of its own -/
def tdB (K : PySem.W.Frag) (a : Addr) : Bool := match K.lookup a with
  | some ⟨.type c, d, _, _⟩ => decide (c = "tuple") && d.isNone
  | _ => false
theorem tdB_ok {K : PySem.W.Frag} {a : Addr} (h : tdB K a = true) : ∃ o, K.lookup a = some o ∧ o.cls = .type "tuple" ∧ o.dict = none := by
  unfold tdB at h
  split at h
  · rename_i c d x y e
    obtain ⟨h1, h2⟩ := Bool.and_eq_true_iff.mp h
    refine ⟨_, e, by rw [of_decide_eq_true h1], ?_⟩
    cases d with
    | none => rfl
    | some _ => cases h2
  · cases h
theorem g_kidx {K : PySem.W.Frag} {H : Hp} {Q : VK} {p : Addr} {σ : L2.St} {t : TA} (td : ∃ o, K.lookup p = some o ∧ o.cls = .type "tuple" ∧ o.dict = none) (q : t σ H fun xs H2 => rIdx K (.ref p) xs H2 Q) : kBM K "tuple" (rIdx K) t σ Q (.ref p) H :=
  ⟨.inr (.inl ⟨rfl, td⟩), q⟩
end AF
/-! steps of clauses -/
namespace AF
open PySem PySem.Spec PyProof.Rows L2
theorem hu100 {k : Nat} {A : Around} (r : Room k A) : A.units + 100 < cLine := by have := r.un; omega
section
variable {K : PySem.W.Frag} {i : Nat} {Wout : WX} {D : Ends} {c cls : Value} {ts : Addr → Value → Option Addr → TS} {r : List (Value × (Addr → Value → Option Addr → TS))} {d : Option Addr} {σ : L2.St} {H : Hp}
theorem g_wyes (e : PySem.W.exmOne K cls c = some true) (q : ∀ a, H a = none → ts a cls d (offI i D) (σ.set i (some (.ref a))) H) : wNam K i Wout D ((c, ts) :: r) cls d σ H := ⟨true, e, fun _ => q, fun z => nomatch z⟩
theorem g_wno (e : PySem.W.exmOne K cls c = some false) (q : wNam K i Wout D r cls d σ H) : wNam K i Wout D ((c, ts) :: r) cls d σ H := ⟨false, e, fun z => (nomatch z), fun _ => q⟩
end
theorem g_off {i : Nat} {nx : L2.St → Hp → Prop} {rt : VK} {bk ct : L2.St → Hp → Prop} {t : TS} {σ : L2.St} {H : Hp} (q : t ⟨fun σ H => nx (σ.set i none) H, rt, fun σ H => bk (σ.set i none) H, fun σ H => ct (σ.set i none) H⟩ σ H) : t (offI i ⟨nx, rt, bk, ct⟩) σ H := q
instance {σ σ' σ'' : L2.St} {i j : Nat} {v : V} [h : SetI σ i v σ'] [h2 : ClrI σ' j σ''] : ClrI (σ.set i (some v)) j σ'' := ⟨by rw [h.eq]; exact h2.eq⟩
theorem clr_goE {σ σ' : L2.St} {i : Nat} {H : Hp} {Q : VK} {A : TE} [h : ClrI σ i σ'] (q : A σ' H Q) : A (σ.set i none) H Q := by rw [h.eq]; exact q
theorem clr_go {σ σ' : L2.St} {i : Nat} {H : Hp} {A : L2.St → Hp → Prop} [h : ClrI σ i σ'] (q : A σ' H) : A (σ.set i none) H := by rw [h.eq]; exact q
/-- a caught error's class holds what we ask of it -/
def exB (K : PySem.W.Frag) (C : Addr) : Bool := He.eqO (PySem.W.findIn K (.ref C) "__getattribute__") (some (some (.builtin "BaseException.__getattribute__"))) && (He.eqO (PySem.W.findIn K (.ref C) "__getattr__") (some none) && (decide (PySem.W.subIn K (.ref C) (.type "BaseException") = some true) &&
  (PySem.W.hasDictIn K C && (He.eqO (PySem.W.findIn K (.ref C) "__class__") (some (some (.builtin "object.__class__"))) && (He.eqO (PySem.W.specialIn K (.builtin "object.__class__") "__get__") (some (some (.builtin "getset_descriptor.__get__"))) &&
  (decide (PySem.W.takesIn K (.builtin "object.__class__") = some true) && decide (PySem.W.mroIn K C (.type "object") = some true)))))))
theorem exB_ok {K : PySem.W.Frag} {C : Addr} (h : exB K C = true) : ExcC K C := by
  obtain ⟨h1, h⟩ := He.ba h
  obtain ⟨h2, h⟩ := He.ba h
  obtain ⟨h3, h⟩ := He.ba h
  obtain ⟨h4, h⟩ := He.ba h
  obtain ⟨h5, h⟩ := He.ba h
  obtain ⟨h6, h⟩ := He.ba h
  obtain ⟨h7, h8⟩ := He.ba h
  exact ⟨He.eqO_ok h1, He.eqO_ok h2, of_decide_eq_true h3, h4, He.eqO_ok h5, He.eqO_ok h6, of_decide_eq_true h7, of_decide_eq_true h8⟩
theorem xf_of {K : PySem.W.Frag} {C : Addr} (h : ExcC K C) : XfC K C := ⟨h.hg, h.hk, h.hs, h.hd⟩
theorem pe_xfD {X : Cx} {a C : Addr} {oe : Obj} {cls : Value} {d : Option Addr} {pn : List (Addr × Obj)} {e : Expr} {te : TE} {pos : Pos} {n : Str} (T : ExcC X.K C) (hno : PySem.W.findIn X.K (.ref C) n = some none) (hz : Zc cls d oe) (hf : ∃ vs, oe.data = .fields vs)
    (he : PE (X.suite a ((a, oe) :: pn)) e te) (hb : attributeBase e n X.env (eval e X.env) = eval e X.env := by rfl) : PE (X.suite a ((a, oe) :: pn)) (.Attribute e n pos) (tXf a cls d C n te) := pe_xf (xf_of T) hno hz hf he hb
end AF
/-! two names out of a pair; lists put together; is None -/
namespace AF
open PySem PySem.Spec PyProof.Rows L2
section
variable {K : PySem.W.Frag} {σ σ1 σ2 : L2.St} {H H0 : Hp} {M : Addr → Prop} {l : List Ent} {te : TE} {i j : Nat} {nx : L2.St → Hp → Prop} {rt : VK} {bk ct : L2.St → Hp → Prop} {a b : Addr} {u v : V} {Q : VK}
def kUnp (K : PySem.W.Frag) (i j : Nat) (σ : L2.St) (nx : L2.St → Hp → Prop) (x : V) (H : Hp) : Prop := gTup K 2 (gCons (gName i) (gCons (gName j) gNil)) x σ H nx
instance (priority := 900) : Step (tAsg te (gTup K 2 (gCons (gName i) (gCons (gName j) gNil))) ⟨nx, rt, bk, ct⟩ σ H) (te σ H (kUnp K i j σ nx)) := ⟨fun h => h⟩
theorem g_unp [h1 : SetI σ i u σ1] [h2 : SetI σ1 j v σ2] (h : H a = some (.tup [u, v])) (k : nx σ2 H) : kUnp K i j σ nx (.ref a) H := by
  refine ⟨a, [u, v], rfl, SqT.of h, rfl, u, [v], rfl, v, [], rfl, rfl, ?_⟩
  show nx ((σ.set i (some u)).set j (some v)) H
  rw [h1.eq, h2.eq]
  exact k
theorem g_catl {xs ys : List V} (S : Sh H0 M H l) (hx : On l a (.lst xs)) (hy : On l b (.lst ys)) (hn : Nat.ble (xs.length + ys.length) 1000 = true) (q : ∀ p H', H p = none → Sh H0 M H' ((p, .lst (xs ++ ys), true) :: l) → Q (.ref p) H') : rCat (.ref a) (.ref b) H Q :=
  ⟨a, b, xs, ys, rfl, rfl, S.has_ hx, S.has_ hy, line_of hn, fun p hp => q p _ hp (S.new hp)⟩
def rNotN : R2 := fun x y H Q => y = V.non ∧ Q (.bl (!decide (x = V.non))) H
theorem g_nn {x : V} {r : Bool} (e : (!decide (x = V.non)) = r) (q : Q (.bl r) H) : (fun x y H Q => y = V.non ∧ Q (V.bl (!decide (x = V.non))) H : R2) x .non H Q := ⟨rfl, by
  show Q (.bl (!decide (x = V.non))) H
  rw [e]; exact q⟩
end
theorem Sh.cut {H0 H : Hp} {M : Addr → Prop} {l l' : List Ent} (S : Sh H0 M H l) (s : List.Sublist l' l) : Sh H0 M H l' := ⟨S.fr, fun e he => S.has e (s.subset he), S.ap.sublist (s.map tag), fun e he => S.mu e (s.subset he)⟩
theorem g_inl {K : PySem.W.Frag} {H : Hp} {Q : VK} {p : Addr} {xs : List V} {x : V} {r : Bool} (h : H p = some (.lst xs)) (fx : flatV x = true) (fs : xs.all flatV = true) (e : inV x xs = r) (q : Q (.bl r) H) : rIn K false x (.ref p) H Q := ⟨p, xs, rfl, .inl (SqL.of h), fx, fs, by rw [e]; exact q⟩
/-- six statements, then the rest -/
theorem g_cut6 {t1 t2 t3 t4 t5 t6 u : TS} {nx : L2.St → Hp → Prop} {rt : VK} {bk ct : L2.St → Hp → Prop} {σ : L2.St} {H : Hp} (P : L2.St → Hp → Prop)
    (a : ∀ nx' : L2.St → Hp → Prop, (∀ σ H, P σ H → nx' σ H) → tSeq t1 (tSeq t2 (tSeq t3 (tSeq t4 (tSeq t5 t6)))) ⟨nx', rt, bk, ct⟩ σ H) (b : ∀ σ H, P σ H → u ⟨nx, rt, bk, ct⟩ σ H) :
    tSeq t1 (tSeq t2 (tSeq t3 (tSeq t4 (tSeq t5 (tSeq t6 u))))) ⟨nx, rt, bk, ct⟩ σ H := a (fun σ H => u ⟨nx, rt, bk, ct⟩ σ H) b
theorem shaped2 {z : Str} {b : Bool} (h : PyData.canLay0 (.str z) = true) : SeqAt.shaped (.list [.str z, .bool b]) = true := by
  have e1 : PyData.canLay0 (.list [.str z, .bool b]) = true := by
    show (PyData.canLay0 (.str z) && (true && true)) = true
    rw [h]; rfl
  show (PyData.canLay0 _ && decide (PyData.depth (.list [.str z, .bool b]) ≤ 64)) = true
  rw [e1, Bool.true_and]
  refine decide_eq_true ?_
  simp [PyData.depth, PyData.depthAll]
end AF
/-! lambdas without parameters as values: made, kept, handed to a def that calls them in a try *-/
namespace AF
open PySem PySem.Spec PyProof.Rows L2 LamX
/-- a lambda at f, its code at c' -/
def LamO (q : Str) (cells : List (Str × Addr)) (params : Arguments) (body : Expr) (scope : Scope) (c' f : Addr) : HO :=
  .ext fun h => ∃ pm ctv, h.get? f = some (PySem.W.kla_obj "<lambda>" (q ++ "<lambda>") params body scope (cloFrom cells scope.names []) pm c' ctv)
theorem lamO_ok {P : Program} {w : World} {H : Hp} {h : Heap} {q : Str} {cells : List (Str × Addr)} {params : Arguments} {body : Expr} {scope : Scope} {c' f : Addr} {pm ctv : Value}
    (e : h.get? f = some (PySem.W.kla_obj "<lambda>" (q ++ "<lambda>") params body scope (cloFrom cells scope.names []) pm c' ctv)) : ObjOk P w H h f (LamO q cells params body scope c' f) :=
  ⟨⟨pm, ctv, e⟩, ⟨_, e⟩, fun _ _ ⟨a, b, z⟩ k => ⟨a, b, k _ z⟩⟩
section
variable {X : Cx} {pins : List (Addr × Obj)} {σ : L2.St} {H : Hp} {s : Shared}
/-- what stands behind the making of a lambda -/
structure LamMade (T : List (Addr × Str)) (q : Str) (cells : List (Str × Addr)) (params : Arguments) (body : Expr) (scope : Scope) (H H1 : Hp) (f c' : Addr) : Prop where
  ext : ExtN H H1
  tabs : Tabs T H1
  lam : H1 f = some (LamO q cells params body scope c' f)
  code : H1 c' = some (CodeO c' (q ++ "<lambda>"))
  new : H f = none
theorem lamO_ne {q : Str} {cells : List (Str × Addr)} {params : Arguments} {body : Expr} {scope : Scope} {c' f : Addr} (ps : Array Value) : LamO q cells params body scope c' f ≠ .tbl ps := fun z => by
  unfold LamO at z; cases z
theorem lam_hold {T : List (Addr × Str)} {c P : Addr} {params : Arguments} {body : Expr} {scope : Scope} {pos : Pos} {E : Value → Shared → Prop} {Q : Value → Shared → Prop} (I : Inv X pins σ H s) (TB : TabB X.base X.mg c P) (hcode : X.env.code = .ref c)
    (hm : (P, X.env.qual ++ "<lambda>") ∈ T) (hu : ∀ p ∈ T, p.1 = P → p.2 = X.env.qual ++ "<lambda>") (hT : Tabs T H) (hdef : defaultsOf params X.env = ([], [])) (hfree : ∀ y ∈ scope.names, y.2 = .free → ∃ c, X.env.cells.lookup y.1 = some c)
    (k : ∀ f c' H1 s', Inv X pins σ H1 s' → LamMade T X.env.qual X.env.cells params body scope H H1 f c' → Q (.ref f) s') : wpAny (model X.prog X.w) X.A (eval (.Lambda params body scope pos) X.env) Q E s := by
  obtain ⟨ps, tp, tr, tc⟩ := hT _ hm
  refine PySem.W.kla_eval hdef ?_
  have objP : s.heap.get? P = some { cls := .none, data := .fields ps } := I.hok P _ tp
  have blt : s.heap.BuiltinsAt X.mg P := TB.bm.keeps I.bk
  cases among : codeAmong pos ps.toList with
  | some cv =>
    -- the table has its code
    obtain ⟨c', rfl, hco⟩ := tc pos cv among
    refine PySem.W.kla_makeFunctionHit (mg := X.mg) (c := c) (P := P) (ps := ps) (closure_ok hfree) I.ok.glob (I.mod.glob.keeps I.bk) hcode (TB.code.keeps I.bk) objP tr among blt ?_
    intro ctv h' tk grow size
    have I1 : Inv X pins σ H { s with heap := h', toks := tk } := I.kept grow
    have fr : H h'.objs.size = none := I1.hok.fresh (Nat.le_refl _)
    have here : ∀ o, H h'.objs.size ≠ some o := fun o z => by rw [fr] at z; cases z
    refine k h'.objs.size c' _ _ (I1.laid (t' := tk) (a := h'.objs.size) (o := LamO X.env.qual X.env.cells params body scope c' h'.objs.size) (fun b o e => Heap.get?_push_of_some _ e) (Nat.le_refl _) (lamO_ok (Heap.get?_push_size _ rfl))) ?_
    have ex : ∀ b o, H b = some o → upd H h'.objs.size (LamO X.env.qual X.env.cells params body scope c' h'.objs.size) b = some o := fun b o e => by rw [upd_ne (ne_of_none e fr)]; exact e
    exact ⟨fun b o e _ => ex b o e, hT.ext ex, upd_same, ex _ _ hco, fr⟩
  | none =>
    refine PySem.W.kla_makeFunction (mg := X.mg) (c := c) (P := P) (ps := ps) (closure_ok hfree) I.ok.glob (I.mod.glob.keeps I.bk) hcode (TB.code.keeps I.bk) objP tr among TB.gP blt ?_
    rintro c' ctv h' tk grow low high ⟨c2, oc, us, t, e2, e3, e4, e5⟩ now
    cases e2
    have nC : H c' = none := I.hok.fresh low
    have nF : H h'.objs.size = none := I.hok.fresh (Nat.le_trans low (Nat.le_of_lt high))
    have ncP : c' ≠ P := fun z => by rw [z, tp] at nC; cases nC
    have nfP : h'.objs.size ≠ P := fun z => by rw [z, tp] at nF; cases nF
    have nfc : h'.objs.size ≠ c' := Nat.ne_of_gt high
    have I1 := inv_table (t' := tk) (q := X.env.qual ++ "<lambda>") (more := #[rawInt pos.line, rawInt pos.col, .ref c']) (h' := h') I tp (fun b o n e => grow b o n e) now low ⟨oc, us, t, e3, e4, e5⟩
    have fr : upd (upd H P (.tbl (ps ++ #[rawInt pos.line, rawInt pos.col, .ref c']))) c' (CodeO c' (X.env.qual ++ "<lambda>")) h'.objs.size = none := by rw [upd_ne nfc, upd_ne nfP]; exact nF
    refine k h'.objs.size c' _ _ (I1.laid (t' := tk) (a := h'.objs.size) (o := LamO X.env.qual X.env.cells params body scope c' h'.objs.size) (fun b o e => Heap.get?_push_of_some _ e) (Nat.le_refl _) (lamO_ok (Heap.get?_push_size _ rfl))) ?_
    have ex : ExtN H (upd (upd (upd H P (.tbl (ps ++ #[rawInt pos.line, rawInt pos.col, .ref c']))) c' (CodeO c' (X.env.qual ++ "<lambda>"))) h'.objs.size (LamO X.env.qual X.env.cells params body scope c' h'.objs.size)) := fun b o e n => by
      have nb : b ≠ P := fun z => by rw [z, tp] at e; exact n ps (Option.some.inj e).symm
      rw [upd_ne (ne_of_none e nF), upd_ne (ne_of_none e nC), upd_ne nb]; exact e
    refine ⟨ex, fun p hp => ?_, upd_same, by rw [upd_ne nfc.symm, upd_same], nF⟩
    by_cases hb : p.1 = P
    · rw [hu p hp hb, hb]
      have el : (ps ++ #[rawInt pos.line, rawInt pos.col, .ref c']).toList = ps.toList ++ [rawInt pos.line, rawInt pos.col, .ref c'] := by simp
      refine ⟨_, by rw [upd_ne nfP.symm, upd_ne ncP.symm, upd_same], by rw [el]; exact PySem.TriplesOk_snoc _ _ _ _ tr, fun p' cv hcv => ?_⟩
      rw [el] at hcv
      rcases among_app _ tr hcv with z | z
      · obtain ⟨c0, y1, y2⟩ := tc p' cv z
        exact ⟨c0, y1, ex _ _ y2 codeO_ne⟩
      · exact ⟨c', z, by rw [upd_ne nfc.symm, upd_same]⟩
    · obtain ⟨qs, y1, y2, y3⟩ := hT p hp
      refine ⟨qs, by rw [upd_ne (ne_of_none y1 nF), upd_ne (ne_of_none y1 nC), upd_ne hb]; exact y1, y2, fun p' cv hcv => ?_⟩
      obtain ⟨c0, z1, z2⟩ := y3 p' cv hcv
      exact ⟨c0, z1, ex _ _ z2 codeO_ne⟩
end
/-- lambda: body -/
def tLamV (T : List (Addr × Str)) (q : Str) (cells : List (Str × Addr)) (params : Arguments) (body : Expr) (scope : Scope) : TE := fun _ H Q => Tabs T H ∧ ∀ f c' H1, LamMade T q cells params body scope H H1 f c' → Q (.ref f) H1
theorem pe_lamV {X : Cx} {T : List (Addr × Str)} {c P : Addr} {params : Arguments} {body : Expr} {scope : Scope} {pos : Pos} (TB : TabB X.base X.mg c P) (hcode : X.env.code = .ref c) (ok : ∀ {pins σ H s}, Inv X pins σ H s → X.Ok) (L : LamS X.env.scope scope)
    (hm : (P, X.env.qual ++ "<lambda>") ∈ T) (hu : ∀ p ∈ T, p.1 = P → p.2 = X.env.qual ++ "<lambda>") (hdef : defaultsOf params X.env = ([], [])) : PE X (.Lambda params body scope pos) (tLamV T X.env.qual X.env.cells params body scope) := by
  constructor
  intro pins s σ H Q I h
  exact lam_hold I TB hcode hm hu h.1 hdef (L.has (ok I)) fun f c' H1 s' I1 md => ⟨.ref f, H1, I1, rfl, h.2 f c' H1 md⟩
/-! the lambda called by the def that got it; what it raises is wished for at that def's slots -/
theorem pe_actW {X : Cx} {pins : List (Addr × Obj)} {σ : L2.St} {H : Hp} {s : Shared} {CXg : CXT} {Eg : XK} {Ng : List Str} {qg : Str} {sg : Scope} {g f c' : Addr} {cdg : Value} {params : Arguments} {body : Expr} {scope : Scope} {k i : Nat} {a : Str} {pn : List (Addr × Obj)} {xe : Value → Shared → Prop} {W : WX} {t : XK → TE} {p1 p2 : Pos}
    (I : Inv X pins σ H s) (L : LamS X.env.scope scope)
    (hbind : ∀ (q : Str) (cl : List (Str × Addr)) (pm cv ctv : Value), bindArgs (PySem.W.kla_fn "<lambda>" q params body scope cl pm cv ctv) ⟨[], []⟩ = pure [])
    (tk : Takes ((cxOf CXg X.prog X.w X.K X.mg X.base Ng qg sg g cdg X.A X.stack s H Eg).tr pn xe) W) (hr : Room (k + 1) (X.A.deeper (envOfC qg sg s.heap.objs.size g cdg)))
    (hbody : ∀ (A : Around) (outer : List Env) (s : Shared) (H : Hp) (E : XK), Room k (A.deeper (lamEnv X scope s.heap.objs.size f c')) → PE (lamCx X A outer s H E scope f c') body (t E))
    (hN : Ng[i]? = some a) (hv : Vis sg a) (hd : (a == ("__debug__" : Str)) = false := by decide) (hcd : (a == ("__classdict__" : Str)) = false := by decide) :
    PE ((cxOf CXg X.prog X.w X.K X.mg X.base Ng qg sg g cdg X.A X.stack s H Eg).tr pn xe) (.Call (.Name a p1) [] [] p2)
      (fun σZ HZ Q => σZ[i]? = some (some (.ref f)) ∧ HZ f = some (LamO X.env.qual X.env.cells params body scope c' f) ∧ HZ c' = some (CodeO c' (X.env.qual ++ "<lambda>")) ∧ t (fun cls d H' => W cls d σZ H') σ HZ Q) := by
  constructor
  rintro pinsZ sZ σZ HZ Q IZ ⟨hs, hf, hc, ht⟩
  refine wpAny_Call_Name_kw (thn ((pe_var (pos := p1) (i := i) hN hv hd hcd).run pinsZ sZ σZ HZ (fun v H1 => v = .ref f ∧ H1 = HZ) IZ ⟨.ref f, hs, rfl, rfl⟩) ?_)
  rintro u s1 ⟨v, H1, I1, r1, rfl, rfl⟩
  cases (show u = Value.ref f from r1)
  obtain ⟨pm, ctv, of1⟩ := (I1.hok f _ hf).1
  obtain ⟨oc, us, tt, oc1, oc2, oc3⟩ := (I1.hok c' _ hc).1
  refine PySem.W.callWith_F0 ⟨_, _, _, _, of1⟩ ?_
  refine wpAny_call (codeAny_mono (R := CR (L2.CX X.prog X.w) (envOfC qg sg s.heap.objs.size g cdg :: X.stack) X.prog X.w H1 s1 Q (fun cls d H' => W cls d σZ H')) ?_ ?_)
  · refine PySem.W.kla_callFunE hr.depth of1 rfl L.co L.gen rfl ⟨c', oc, us, tt, rfl, oc1, oc2, oc3⟩ ?_
    rw [show (([] : List Value) ++ []) = [] from rfl, hbind]
    refine wpAny_pure (wpAny_newFunctionEnv (fun y hy => (L.own y hy).2) (fun y hy => (nomatch hy)) (fun h₁ hns hsb => ⟨I1.nolimit.fresh _ hsb, ?_⟩) L.kind)
    have kp : ∀ b o, s1.heap.get? b = some o → h₁.get? b = some o := fun b o e => hsb.extBut b o (Nat.ne_of_lt (Heap.lt_size e)) (Heap.get?_push_of_some _ e)
    have J : Inv (lamCx X (X.A.deeper (envOfC qg sg s.heap.objs.size g cdg)) (envOfC qg sg s.heap.objs.size g cdg :: X.stack) s1 H1 (fun cls d H' => W cls d σZ H') scope f c') [] σ H1 { s1 with heap := h₁, toks := s1.toks + ([] : List (Str × Value)).length } :=
      lam_start2 I L I1.env0 hr.hd (show Un (frs X.stack) [] H H1 s.heap s1.heap from I1.base) hns kp
    refine PySem.W.kla_codeExpr (wpAny_mono ((hbody _ _ s1 H1 _ (hr.deeper _)).run [] _ _ H1 Q J ht) ?_ fun _ _ z => z)
    rintro v s' ⟨w', H', J', rv, q⟩
    exact ⟨w', H', J'.os, J'.bare, J'.base, J'.hok, rv, q⟩
  · rintro (er | fl) s' z
    · exact tk er s' (XE.of_call I1 (fun _ _ _ h => h) z)
    · cases fl <;> first | exact I1.after z | exact False.elim z
/-! a def that calls what it got in a try: TT tells what it makes of it -/
/-- one lambda's text, and its reading in the maker's slots -/
structure LamD where
  params : Arguments
  body : Expr
  scope : Scope
  t : XK → TE
def ActOk (X : Cx) (Ng : List Str) (x : Str) (sg : Scope) (g : Addr) (cdg : Value) (bg : List Stmt) (a : Str) (TT : (XK → Hp → VK → Prop) → Hp → VK → Prop) : Prop :=
  ∀ (f : Addr) (s : Shared) (H : Hp) (Q : VK) (Pf : Hp → Prop) (tl : XK → Hp → VK → Prop), (∀ H H', Ch [] H H' → Pf H → Pf H') →
    (∀ (W : WX) (pn : List (Addr × Obj)) (xe : Value → Shared → Prop) (p1 p2 : Pos), Takes ((cxOf C8.CX0 X.prog X.w X.K X.mg X.base Ng x sg g cdg X.A X.stack s H C8.E0).tr pn xe) W →
      PE ((cxOf C8.CX0 X.prog X.w X.K X.mg X.base Ng x sg g cdg X.A X.stack s H C8.E0).tr pn xe) (.Call (.Name a p1) [] [] p2) (fun σZ HZ Q => σZ[0]? = some (some (.ref f)) ∧ Pf HZ ∧ tl (fun cls d H' => W cls d σZ H') HZ Q)) →
    Pf H → TT tl H Q → ∃ t, PSs (cxOf C8.CX0 X.prog X.w X.K X.mg X.base Ng x sg g cdg X.A X.stack s H C8.E0) bg t ∧ t { nx := fun _ H' => Q .non H', rt := Q } (L2.start Ng [.ref f]) H
def tAct (q : Str) (cells : List (Str × Addr)) (ds : List LamD) (TT : (XK → Hp → VK → Prop) → Hp → VK → Prop) (ta : TE) : TE := fun σ H Q => ta σ H fun v H1 =>
  ∃ (f c' : Addr) (d : LamD), d ∈ ds ∧ v = .ref f ∧ H1 f = some (LamO q cells d.params d.body d.scope c' f) ∧ H1 c' = some (CodeO c' (q ++ "<lambda>")) ∧ TT (fun E H' Q' => d.t E σ H' Q') H1 Q
theorem pe_actG {X : Cx} {TT : (XK → Hp → VK → Prop) → Hp → VK → Prop} {x a : Str} {g : Addr} {k : Nat} {pg : Arguments} {bg : List Stmt} {sg : Scope} {dV kV doc pm cdv ct oc : Value} {an od : Option Addr} {osl : Array (Option Value)} {Ng : List Str} {ds : List LamD} {e : Expr} {ta : TE} {p pos : Pos}
    (hg : Gl X x) (hm : X.mg x = some (.ref g)) (hk : PySem.W.keepIn X.K (.ref g) = true) (lk : X.K.lookup g = some ⟨oc, od, .func (PySem.W.fnOf x x pg bg sg dV kV doc pm an cdv ct), osl⟩) (hcg : PySem.W.codeIn X.K cdv x = true)
    (hb : L2.Binds X.K (PySem.W.fnOf x x pg bg sg dV kV doc pm an cdv ct) [a] []) (Sg : FnScope Ng [a] sg) (hNg : Ng[0]? = some a) (hva : Vis sg a) (hG : ActOk X Ng x sg g cdv bg a TT) (hr : Room (k + 2) X.A)
    (hds : ∀ d ∈ ds, LamS X.env.scope d.scope ∧ (∀ (q : Str) (cl : List (Str × Addr)) (pm cv ctv : Value), bindArgs (PySem.W.kla_fn "<lambda>" q d.params d.body d.scope cl pm cv ctv) ⟨[], []⟩ = pure []) ∧
      ∀ (A : Around) (outer : List Env) (s : Shared) (H : Hp) (E : XK) (f c' : Addr), Room k (A.deeper (lamEnv X d.scope s.heap.objs.size f c')) → PE (lamCx X A outer s H E d.scope f c') d.body (d.t E))
    (he : PE X e ta) (hst : starEach [e] X.env = (false, eval e X.env) :: starEach [] X.env := by rfl) (hpl : (backTo pos (starEach [] X.env)).any (·.1) = false := by rfl)
    (hdb : (x == ("__debug__" : Str)) = false := by decide) (hd : (a == ("__debug__" : Str)) = false := by decide) (hcd : (a == ("__classdict__" : Str)) = false := by decide) : PE X (.Call (.Name x p) [e] [] pos) (tAct X.env.qual X.env.cells ds TT ta) := by
  constructor
  intro pins s σ H Q I h
  refine wpAny_Call_Name_kw (ld_glob I hg hm ?_ hdb)
  refine PySem.W.callWith_K (h₀ := X.base) I.ok.mod.kin hk ?_ hst hpl
  rw [hst]
  show wpAny _ _ (spliced ((false, eval e X.env) :: backTo pos (starEach [] X.env))) _ _ s
  refine Calls.spliced_cons (thn (he.run pins s σ H _ I h) ?_)
  rintro u s1 ⟨v, H1, I1, r1, f, c', d, hd1, rfl, lf, lc, tt⟩
  cases (show u = Value.ref f from r1)
  obtain ⟨L, bn, bd⟩ := hds d hd1
  refine Calls.spliced_nil ⟨I1.kIn, ?_⟩
  refine wpAny_call (codeAny_mono (R := CR C8.CX0 X.stack X.prog X.w H1 s1 Q C8.E0) ?_ ?_)
  · refine run_ofS (N := Ng) (ps := [a]) (us := [.ref f]) (vs := [.ref f]) lk hcg Sg hr I1.env0 (hb s1 [.ref f] I1.kIn rfl) (.cons rfl .nil) rfl fun hr' => ?_
    refine hG f s1 H1 Q (fun HZ => HZ f = some (LamO X.env.qual X.env.cells d.params d.body d.scope c' f) ∧ HZ c' = some (CodeO c' (X.env.qual ++ "<lambda>"))) (fun E H' Q' => d.t E σ H' Q') (fun _ _ ch z => ⟨ch _ _ z.1 List.not_mem_nil, ch _ _ z.2 List.not_mem_nil⟩) ?_ ⟨lf, lc⟩ tt
    intro W pn xe p1 p2 tk
    have z := pe_actW (i := 0) (t := d.t) (p1 := p1) (p2 := p2) I1 L bn tk hr' (fun A outer s H E hr2 => bd A outer s H E f c' hr2) hNg hva hd hcd
    exact ⟨fun pins s σ H Q I ⟨h1, ⟨h2, h3⟩, h4⟩ => z.run pins s σ H Q I ⟨h1, h2, h3, h4⟩⟩
  · rintro (er | fl) s' z
    · exact (show False from z).elim
    · cases fl <;> first | exact I1.after z | exact False.elim z
end AF
/-! lambdas beside what stands; the table of the law's code looked at *-/
namespace AF
open PySem PySem.Spec PyProof.Rows L2 LamX
/-- what may be changed at all -/
def softO : HO → Bool
  | .lst _ => true
  | .tup _ => true
  | .dK _ => true
  | .ins _ _ _ => true
  | .own _ => true
  | .xd _ => true
  | _ => false
def tblO : HO → Bool
  | .tbl _ => true
  | _ => false
def Soft (H : Hp) (M : Addr → Prop) : Prop := ∀ b o, H b = some o → M b → softO o = true
theorem soft0 {H : Hp} : Soft H (fun _ => False) := fun _ _ _ h => h.elim
def Mu (l : List Ent) (b : Addr) : Prop := ∃ e ∈ l, e.2.2 = true ∧ e.1 = b
def softL (l : List Ent) : Bool := l.all fun e => (!e.2.2 || softO e.2.1) && !tblO e.2.1
section
variable {H0 H H1 : Hp} {M : Addr → Prop} {l : List Ent} {T : List (Addr × Str)} {K : PySem.W.Frag} {a : Addr} {xs : List V}
theorem Tabs.along (t : Tabs T H0) (S : Sh H0 M H l) (sf : Soft H0 M) : Tabs T H := fun p hp => by
  obtain ⟨ps, h1, h2, h3⟩ := t p hp
  refine ⟨ps, S.fr _ _ h1 fun z => ?_, h2, fun pos cv hc => ?_⟩
  · have := sf _ _ h1 z; cases this
  · obtain ⟨c, e1, e2⟩ := h3 pos cv hc
    refine ⟨c, e1, S.fr _ _ e2 fun z => ?_⟩
    have := sf _ _ e2 z
    unfold CodeO at this; cases this
theorem SqF.along (h : SqF K H0 a xs) (S : Sh H0 M H l) (sf : Soft H0 M) : SqF K H a xs := by
  rcases h with ⟨o, e⟩ | h
  · exact .inl ⟨o, S.fr _ _ e fun z => by have := sf _ _ e z; cases this⟩
  · exact .inr h
theorem SqF.extN (h : SqF K H a xs) (e : ExtN H H1) : SqF K H1 a xs := by
  rcases h with ⟨o, z⟩ | h
  · exact .inl ⟨o, e _ _ z fun ps y => by cases y⟩
  · exact .inr h
/-- begun anew -/
theorem Sh.again (S : Sh H0 M H l) : Sh H (Mu l) H l := ⟨fun _ _ h _ => h, S.has, S.ap, fun e he hm => .inl ⟨e, he, hm, rfl⟩⟩
theorem soft_again (S : Sh H0 M H l) (hl : softL l = true) : Soft H (Mu l) := fun b o hb ⟨e, he, hm, hb'⟩ => by
  have h1 := List.all_eq_true.mp hl e he
  have h2 := S.has e he
  rw [hb', hb] at h2
  cases h2
  rw [hm] at h1
  cases q : softO e.2.1 with
  | true => rfl
  | false => rw [q] at h1; cases h1
variable {q : Str} {cells : List (Str × Addr)} {params : Arguments} {body : Expr} {scope : Scope} {f c' : Addr}
theorem Sh.lam (S : Sh H0 M H l) (hl : softL l = true) (md : LamMade T q cells params body scope H H1 f c') : Sh H1 (Mu l) H1 ((f, LamO q cells params body scope c' f, false) :: (c', CodeO c' (q ++ "<lambda>"), false) :: l) := by
  have has : ∀ e, e ∈ l → H1 e.1 = some e.2.1 := fun e he => md.ext _ _ (S.has e he) fun ps z => by
    have h1 := List.all_eq_true.mp hl e he
    rw [z] at h1
    cases h2 : e.2.2 <;> rw [h2] at h1 <;> cases h1
  have soft : ∀ e, e ∈ l → e.2.2 = true → softO e.2.1 = true := fun e he hm => by
    have h1 := (Bool.and_eq_true_iff.mp (List.all_eq_true.mp hl e he)).1
    rw [hm] at h1
    cases q : softO e.2.1 with
    | true => rfl
    | false => rw [q] at h1; cases h1
  have S1 : Sh H1 (Mu l) H1 l := ⟨fun _ _ h _ => h, has, S.ap, fun e he hm => .inl ⟨e, he, hm, rfl⟩⟩
  have S2 : Sh H1 (Mu l) H1 ((c', CodeO c' (q ++ "<lambda>"), false) :: l) := S1.know md.code fun e he hm z => by
    have h1 := has e he
    rw [← z, md.code] at h1
    have h2 := soft e he hm
    rw [← Option.some.inj h1] at h2
    unfold CodeO at h2; cases h2
  refine S2.know md.lam fun e he hm z => ?_
  rcases List.mem_cons.mp he with h | h
  · rw [h] at hm; cases hm
  · have h1 := S.has e h
    rw [← z, md.new] at h1; cases h1
theorem Soft.lam (S : Sh H0 M H l) (hl : softL l = true) (md : LamMade T q cells params body scope H H1 f c') : Soft H1 (Mu l) := fun b o hb ⟨e, he, hm, hb'⟩ => by
  have S1 := S.lam hl md
  have h2 := S1.has e (List.mem_cons_of_mem _ (List.mem_cons_of_mem _ he))
  rw [hb', hb] at h2
  cases h2
  have h1 := (Bool.and_eq_true_iff.mp (List.all_eq_true.mp hl e he)).1
  rw [hm] at h1
  cases q : softO e.2.1 with
  | true => rfl
  | false => rw [q] at h1; cases h1
/-- lambda: body, all told anew behind it -/
theorem g_lam {σ : L2.St} {Q : VK} (S : Sh H0 M H l) (sf : Soft H0 M) (t : Tabs T H0) (hF : SqF K H0 a xs) (hl : softL l = true)
    (k : ∀ f c' H1, Sh H1 (Mu l) H1 ((f, LamO q cells params body scope c' f, false) :: (c', CodeO c' (q ++ "<lambda>"), false) :: l) → Soft H1 (Mu l) → Tabs T H1 → SqF K H1 a xs → Q (.ref f) H1) : tLamV T q cells params body scope σ H Q :=
  ⟨Tabs.along t S sf, fun f c' H1 md => k f c' H1 (S.lam hl md) (Soft.lam S hl md) md.tabs ((hF.along S sf).extN md.ext)⟩
end
def kAct (q : Str) (cells : List (Str × Addr)) (ds : List LamD) (TT : (XK → Hp → VK → Prop) → Hp → VK → Prop) (σ : L2.St) (Q : VK) (v : V) (H1 : Hp) : Prop :=
  ∃ (f c' : Addr) (d : LamD), d ∈ ds ∧ v = .ref f ∧ H1 f = some (LamO q cells d.params d.body d.scope c' f) ∧ H1 c' = some (CodeO c' (q ++ "<lambda>")) ∧ TT (fun E H' Q' => d.t E σ H' Q') H1 Q
instance {q : Str} {cells : List (Str × Addr)} {ds : List LamD} {TT : (XK → Hp → VK → Prop) → Hp → VK → Prop} {ta : TE} {σ : L2.St} {H : Hp} {Q : VK} : Step (tAct q cells ds TT ta σ H Q) (ta σ H (kAct q cells ds TT σ Q)) := ⟨fun h => h⟩
/-! the head, its table looked at -/
def lawC (K : PySem.W.Frag) (x : Str) : Addr := match cdOf K (He.ga K x) with
  | .ref c => c
  | _ => 0
def lawP (K : PySem.W.Frag) (x : Str) : Addr := match K.lookup (lawC K x) with
  | some ⟨_, _, .fields vs, _⟩ => (match (vs[11]? : Option Value) with
    | some (.ref p) => p
    | _ => 0)
  | _ => 0
def isTab : Option Obj → Bool
  | some ⟨.none, .none, .fields ⟨[]⟩, ⟨[]⟩⟩ => true
  | _ => false
theorem isTab_ok {o : Option Obj} (h : isTab o = true) : o = some oTab := by
  unfold isTab at h
  split at h
  · rfl
  · cases h
def lawB (K : PySem.W.Frag) (x : Str) : Bool := PySem.W.codeHdIn K (lawC K x) (lawP K x) && ((K.lookup (lawP K x)).isNone && (match cdOf K (He.ga K x) with | .ref _ => true | _ => false))
section
open He
open PySem.W (Frag OpenRow)
def lookTR (n : Nat) (fs : Frag → List Bool) (ds : List DA) (ts : List Tab) (g : Addr → Option Obj) : SeenT := lookT fs ds ts (frG g (PySem.cStatics :: asP g n [mainGlobals] [mainGlobals]))
def hookR (n : Nat) (fs : Frag → List Bool) (ds : List DA) (ts : List Tab) : PySem.W.Hook where
  α := SeenT
  obs := fun s => lookTR n fs ds ts s.heap.get?
  val := fun w => lookTW ds ts w
  says := fun w h => ∃ K : Frag, K.In h ∧ TellsT fs ds ts w K
  of := fun _ _ e => ⟨_, frG_in, e⟩
  keeps := fun _ _ _ ⟨K, hK, c⟩ k => ⟨K, Frag.In.keeps hK k, c⟩
theorem lookTR_eq {n : Nat} {fs : Frag → List Bool} {ds : List DA} {ts : List Tab} {g : Addr → Option Obj} {s : Shared} (h : ∀ a, g a = s.heap.get? a) : lookTR n fs ds ts g = (hookR n fs ds ts).obs s := by
  have e : g = s.heap.get? := funext h
  rw [e]
  rfl
/-- .. and the law's table is empty -/
def lookTL (n : Nat) (x : Str) (fs : Frag → List Bool) (ds : List DA) (ts : List Tab) (g : Addr → Option Obj) : SeenT × Bool :=
  (lookTR n fs ds ts g, (fun K : Frag => lawB K x && isTab (g (lawP K x))) (frG g (PySem.cStatics :: asP g n [mainGlobals] [mainGlobals])))
def hookL (n : Nat) (x : Str) (fs : Frag → List Bool) (ds : List DA) (ts : List Tab) : PySem.W.Hook where
  α := SeenT × Bool
  obs := fun s => lookTL n x fs ds ts s.heap.get?
  val := fun w => (lookTW ds ts w, true)
  says := fun w h => ∃ K : Frag, K.In h ∧ TellsT fs ds ts w K ∧ lawB K x = true ∧ h.get? (lawP K x) = some oTab
  of := fun _ _ e => by
    obtain ⟨e1, e2⟩ := Prod.mk.inj e
    obtain ⟨e3, e4⟩ := Bool.and_eq_true_iff.mp e2
    exact ⟨_, frG_in, e1, e3, isTab_ok e4⟩
  keeps := fun _ _ _ ⟨K, hK, c, b, t⟩ k => ⟨K, Frag.In.keeps hK k, c, b, k _ _ t⟩
theorem lookTL_eq {n : Nat} {x : Str} {fs : Frag → List Bool} {ds : List DA} {ts : List Tab} {g : Addr → Option Obj} {s : Shared} (h : ∀ a, g a = s.heap.get? a) : lookTL n x fs ds ts g = (hookL n x fs ds ts).obs s := by
  have e : g = s.heap.get? := funext h
  rw [e]
  rfl
end
theorem lawB_ok {K : PySem.W.Frag} {x : Str} (h : lawB K x = true) : PySem.W.codeHdIn K (lawC K x) (lawP K x) = true ∧ K.lookup (lawP K x) = none ∧ cdOf K (He.ga K x) = .ref (lawC K x) := by
  obtain ⟨h1, h⟩ := Bool.and_eq_true_iff.mp h
  obtain ⟨h2, h3⟩ := Bool.and_eq_true_iff.mp h
  refine ⟨h1, Option.isNone_iff_eq_none.mp h2, ?_⟩
  unfold lawC
  split at h3
  · rename_i c e
    rw [e]
  · cases h3
end AF
/-! calls in lambdas that raise: a def that keeps the error's value by repr -/
namespace AF
open PySem PySem.Spec PyProof.Rows L2 LamX
/-- what a call is to raise: one of the classes, with its value -/
def Wish (cs : List (Addr × Str)) (Q : VK) : XK := fun cls d H' => ∃ (C dd : Addr) (v : V) (z kw : Str), cls = .ref C ∧ d = some dd ∧ H' dd = some (.xd [("value", v)]) ∧ RepO H' v z ∧ (C, kw) ∈ cs ∧
  ∀ p H'', H' p = none → Ch [] H' H'' → H'' p = some (.lst [.str kw, .str z, .bl true]) → Q (.ref p) H''
def TTr (cs : List (Addr × Str)) : (XK → Hp → VK → Prop) → Hp → VK → Prop := fun tl H Q => ∀ p H1 (E : XK) (Q' : VK), H p = none → Ch [] H H1 → H1 p = some (.lst []) → (∀ cls d H', Wish cs Q cls d H' → E cls d H') → tl E H1 Q'
/-- all told goes along with a longer heap, tables aside -/
theorem Sh.extN {H0 H H1 : Hp} {M : Addr → Prop} {l : List Ent} (S : Sh H0 M H l) (hl : softL l = true) (e : ExtN H H1) : Sh H1 (Mu l) H1 l := by
  refine ⟨fun _ _ h _ => h, fun e1 he => e _ _ (S.has e1 he) fun ps z => ?_, S.ap, fun e1 he hm => .inl ⟨e1, he, hm, rfl⟩⟩
  have h1 := (Bool.and_eq_true_iff.mp (List.all_eq_true.mp hl e1 he)).2
  rw [z] at h1
  cases h1
theorem soft_extN {H0 H H1 : Hp} {M : Addr → Prop} {l : List Ent} (S : Sh H0 M H l) (hl : softL l = true) (e : ExtN H H1) : Soft H1 (Mu l) := soft_again (S.extN hl e) hl
end AF
/-! a def of the program's called with a lambda *-/
namespace AF
open PySem PySem.Spec PyProof.Rows L2 LamX
theorem pe_act1 {X : Cx} {TT : (XK → Hp → VK → Prop) → Hp → VK → Prop} {x a : Str} {g : Addr} {k : Nat} {pg : Arguments} {bg : List Stmt} {sg : Scope} {fd : FuncData} {Ng : List Str} {params : Arguments} {body : Expr} {scope : Scope} {t : XK → TE} {ta : TE} {p pos lpos : Pos}
    (F : FunD X.K x x pg bg sg [] [] g fd) (b : Binds X.K fd [a] []) (Sg : FnScope Ng [a] sg) (hNg : Ng[0]? = some a) (hva : Vis sg a) (hG : ∀ cdg, ActOk X Ng x sg g cdg bg a TT) (hr : Room (k + 2) X.A) (hg : Gl X x) (hm : X.mg x = some (.ref g))
    (L : LamS X.env.scope scope) (hbind : ∀ (q : Str) (cl : List (Str × Addr)) (pm cv ctv : Value), bindArgs (PySem.W.kla_fn "<lambda>" q params body scope cl pm cv ctv) ⟨[], []⟩ = pure [])
    (hbody : ∀ (A : Around) (outer : List Env) (s : Shared) (H : Hp) (E : XK) (f c' : Addr), Room k (A.deeper (lamEnv X scope s.heap.objs.size f c')) → PE (lamCx X A outer s H E scope f c') body (t E))
    (he : PE X (.Lambda params body scope lpos) ta)
    (hdb : (x == ("__debug__" : Str)) = false := by decide) (hd : (a == ("__debug__" : Str)) = false := by decide) (hcd : (a == ("__classdict__" : Str)) = false := by decide) :
    PE X (.Call (.Name x p) [.Lambda params body scope lpos] [] pos) (tAct X.env.qual X.env.cells [⟨params, body, scope, t⟩] TT ta) := by
  obtain ⟨oc, od, dV, kV, doc, pm, an, cdv, ct, osl, rfl, lk, hcd', _, _⟩ := F.ex
  refine pe_actG hg hm F.kp lk hcd' b Sg hNg hva (hG cdv) hr (fun d hd' => ?_) he (by rfl) (by rfl) hdb hd hcd
  rw [List.mem_singleton] at hd'
  subst hd'
  exact ⟨L, hbind, fun A outer s H E f c' hr2 => hbody A outer s H E f c' hr2⟩
/-- the tables of the defs that make lambdas -/
def lamT (K : PySem.W.Frag) (xs : List Str) : List (Addr × Str) := xs.map fun x => (lawP K x, (x ++ ".<locals>.") ++ "<lambda>")
def lamB (K : PySem.W.Frag) (xs : List Str) : Bool := decide ((xs.map (lawP K)).Nodup)
theorem lamT_u {K : PySem.W.Frag} : ∀ {xs : List Str}, (xs.map (lawP K)).Nodup → ∀ {x : Str}, x ∈ xs → ∀ p ∈ lamT K xs, p.1 = lawP K x → p.2 = (x ++ ".<locals>.") ++ "<lambda>"
  | [], _, _, h, _, _, _ => nomatch h
  | y :: ys, nd, x, h, p, hp, e => by
    obtain ⟨n1, n2⟩ := List.nodup_cons.mp nd
    rcases List.mem_cons.mp hp with hp | hp
    · rw [hp] at e ⊢
      have e1 : lawP K y = lawP K x := e
      rcases List.mem_cons.mp h with h | h
      · rw [h]
      · exact absurd (e1 ▸ List.mem_map_of_mem h) n1
    · rcases List.mem_cons.mp h with h | h
      · obtain ⟨z, hz, rfl⟩ := List.mem_map.mp hp
        have e1 : lawP K z = lawP K x := e
        rw [h] at e1
        exact absurd (e1 ▸ List.mem_map_of_mem hz) n1
      · exact lamT_u n2 h p hp e
theorem lamT_m {K : PySem.W.Frag} {xs : List Str} {x : Str} (h : x ∈ xs) : (lawP K x, (x ++ ".<locals>.") ++ "<lambda>") ∈ lamT K xs := List.mem_map_of_mem (f := fun x => (lawP K x, (x ++ ".<locals>.") ++ "<lambda>")) h
/-- all that one lambda's making wants, in one -/
structure Mkr (K : PySem.W.Frag) (mg : Str → Option Value) (base : Heap) (xs : List Str) (x : Str) : Prop where
  tb : TabB base mg (lawC K x) (lawP K x)
  cd : cdOf K (He.ga K x) = .ref (lawC K x)
  mem : x ∈ xs
  nd : (xs.map (lawP K)).Nodup
theorem pe_lam1 {X : Cx} {xs : List Str} {x : Str} {params : Arguments} {body : Expr} {scope : Scope} {pos : Pos} {cdv : Value} (D : Mkr X.K X.mg X.base xs x) (hc : cdOf X.K (He.ga X.K x) = cdv) (he : X.env.code = cdv) (hq : X.env.qual = x ++ ".<locals>.") (ok : ∀ {pins σ H s}, Inv X pins σ H s → X.Ok) (L : LamS X.env.scope scope)
    (hdef : defaultsOf params X.env = ([], [])) : PE X (.Lambda params body scope pos) (tLamV (lamT X.K xs) X.env.qual X.env.cells params body scope) :=
  pe_lamV D.tb (he.trans (hc.symm.trans D.cd)) ok L (by rw [hq]; exact lamT_m D.mem) (by rw [hq]; exact lamT_u D.nd D.mem) hdef
mutual
theorem Pv.extN {H H' : Hp} (c : ExtN H H') : ∀ (d : PyData) (v : V), Pv H v d → Pv H' v d
  | .none, _, h => by cases h; exact .non
  | .bool b, _, h => by cases h; exact .bl b
  | .int i, _, h => by cases h; exact .int i
  | .str x, _, h => by cases h; exact .str x
  | .list ds, _, h => by cases h with | lst e r => exact .lst (c _ _ e fun _ z => nomatch z) (PvAll.extN c ds _ r)
  | .tuple ds, _, h => by cases h with | tup e r => exact .tup (c _ _ e fun _ z => nomatch z) (PvAll.extN c ds _ r)
  | .dict ps, _, h => by cases h with
    | d0 e => exact .d0 (c _ _ e fun _ z => nomatch z)
    | d1 e => exact .d1 (c _ _ e fun _ z => nomatch z)
    | d2 e q => exact .d2 (c _ _ e fun _ z => nomatch z) q
theorem PvAll.extN {H H' : Hp} (c : ExtN H H') : ∀ (ds : List PyData) (vs : List V), PvAll H vs ds → PvAll H' vs ds
  | [], _, h => by cases h; exact .nil
  | d :: ds, _, h => by cases h with | cons k r => exact .cons (Pv.extN c d _ k) (PvAll.extN c ds _ r)
end
theorem RepO.extN {H H' : Hp} {v : V} {z : Str} (h : RepO H v z) (c : ExtN H H') : RepO H' v z := by
  cases h with
  | non => exact .non
  | bl b => exact .bl b
  | int h => exact .int h
  | str h => exact .str h
  | box h s => exact .box (h.extN c) s
theorem Ch.toN {H H' : Hp} (c : Ch [] H H') : ExtN H H' := ExtN.of fun b o e => c b o e List.not_mem_nil
theorem Tabs.ch {T : List (Addr × Str)} {H H' : Hp} (t : Tabs T H) (c : Ch [] H H') : Tabs T H' := t.ext fun b o e => c b o e List.not_mem_nil
/-- what stood is not what is new -/
theorem ExtN.old {H H' : Hp} {p : Addr} (c : ExtN H H') (n : H' p = none) : ∀ o, H p = some o → ∃ ps, o = .tbl ps := fun o e => by
  cases o with
  | tbl ps => exact ⟨ps, rfl⟩
  | _ =>
    have := c _ _ e fun ps z => nomatch z
    rw [n] at this; cases this
theorem ne_tblO {l : List Ent} (hl : softL l = true) {e : Ent} (he : e ∈ l) (ps : Array Value) : e.2.1 ≠ .tbl ps := fun z => by
  have h1 := (Bool.and_eq_true_iff.mp (List.all_eq_true.mp hl e he)).2
  rw [z] at h1
  cases h1
/-- .. and what a def has made beside tables -/
theorem Sh.extK {H0 H H1 : Hp} {M : Addr → Prop} {l : List Ent} {p : Addr} {o : HO} (S : Sh H0 M H l) (hl : softL l = true) (e : ExtN H H1) (old : ∀ o, H p = some o → ∃ ps, o = .tbl ps) (h : H1 p = some o) : Sh H1 (Mu l) H1 ((p, o, false) :: l) :=
  (S.extN hl e).know h fun x hx _ z => by
    obtain ⟨ps, y⟩ := old _ (by rw [z]; exact S.has x hx)
    exact ne_tblO hl hx ps y
/-- a def of the program's called with a lambda that raises -/
theorem g_actr {H0 H : Hp} {M : Addr → Prop} {l : List Ent} {T : List (Addr × Str)} {q : Str} {cells : List (Str × Addr)} {params : Arguments} {body : Expr} {scope : Scope} {t : XK → TE} {cs : List (Addr × Str)} {σ : L2.St} {Q : VK} (S : Sh H0 M H l) (sf : Soft H0 M) (tb : Tabs T H0) (hl : softL l = true)
    (k : ∀ (H1 H2 : Hp) (E : XK) (Q' : VK), ExtN H H1 → Soft H1 (Mu l) → Tabs T H1 → ExtN H H2 → Sh H1 (Mu l) H2 l → (∀ (C dd : Addr) (v : V) (z kw : Str) (H3 : Hp), Ch [] H2 H3 → H3 dd = some (.xd [("value", v)]) → RepO H3 v z → (C, kw) ∈ cs →
      (∀ p H4, ExtN H H4 → Sh H1 (Mu l) H4 ((p, .lst [.str kw, .str z, .bl true], true) :: l) → Q (.ref p) H4) → E (.ref C) (some dd) H3) → t E σ H2 Q') :
    tLamV T q cells params body scope σ H (kAct q cells [⟨params, body, scope, t⟩] (TTr cs) σ Q) := by
  refine ⟨Tabs.along tb S sf, fun lf lc H1 md => ⟨lf, lc, _, List.mem_singleton_self _, rfl, md.lam, md.code, ?_⟩⟩
  intro p H2 E Q' hn ch hp hw
  have S1 := S.extN hl md.ext
  refine k H1 H2 E Q' md.ext (soft_again S1 hl) md.tabs (md.ext.trans (Ch.toN ch)) (S1.ch0 ch) fun C dd v z kw H3 c3 hx hz hm fin => ?_
  refine hw _ _ _ ⟨C, dd, v, z, kw, rfl, rfl, hx, hz, hm, fun p4 H4 hn4 c4 hp4 => ?_⟩
  exact fin p4 H4 ((md.ext.trans (Ch.toN ch)).trans ((Ch.toN c3).trans (Ch.toN c4))) ((((S1.ch0 ch).ch0 c3)).add c4 hn4 hp4)
/-- two ways to one value -/
theorem g_ivB {b : Bool} {ta tb : VK → Prop} {v : V} {H : Hp} {Q : VK} (h1 : b = true → ∀ Q : VK, Q v H → ta Q) (h2 : b = false → ∀ Q : VK, Q v H → tb Q) (q : Q v H) : if b = true then ta Q else tb Q := by
  cases b with
  | true => rw [if_pos rfl]; exact h1 rfl Q q
  | false => rw [if_neg (by decide)]; exact h2 rfl Q q
/-- two ways that come together -/
theorem g_meetB {b : Bool} {t u : TS} {nx : L2.St → Hp → Prop} {rt : VK} {bk ct : L2.St → Hp → Prop} {σ : L2.St} {H : Hp} (W : L2.St → Hp → Prop) (h1 : b = true → ∀ nx' : L2.St → Hp → Prop, (∀ σ H, W σ H → nx' σ H) → t ⟨nx', rt, bk, ct⟩ σ H) (h2 : b = false → ∀ nx' : L2.St → Hp → Prop, (∀ σ H, W σ H → nx' σ H) → u ⟨nx', rt, bk, ct⟩ σ H)
    (q : ∀ σ H, W σ H → nx σ H) : if b = true then t ⟨nx, rt, bk, ct⟩ σ H else u ⟨nx, rt, bk, ct⟩ σ H := by
  cases b with
  | true => rw [if_pos rfl]; exact h1 rfl nx q
  | false => rw [if_neg (by decide)]; exact h2 rfl nx q
/-- two statements, then the rest -/
theorem g_cut2 {t1 t2 u : TS} {nx : L2.St → Hp → Prop} {rt : VK} {bk ct : L2.St → Hp → Prop} {σ : L2.St} {H : Hp} (P : L2.St → Hp → Prop) (a : ∀ nx' : L2.St → Hp → Prop, (∀ σ H, P σ H → nx' σ H) → tSeq t1 t2 ⟨nx', rt, bk, ct⟩ σ H) (b : ∀ σ H, P σ H → u ⟨nx, rt, bk, ct⟩ σ H) :
    tSeq t1 (tSeq t2 u) ⟨nx, rt, bk, ct⟩ σ H := a (fun σ H => u ⟨nx, rt, bk, ct⟩ σ H) b
/-! the head, several tables looked at -/
def lamC (K : PySem.W.Frag) (xs : List Str) : List (Addr × Addr) := xs.map fun x => (lawC K x, lawP K x)
theorem tabs0 {K : PySem.W.Frag} {xs : List Str} {H : Hp} (h : ∀ p ∈ lamC K xs, H p.2 = some (.tbl #[])) : Tabs (lamT K xs) H := fun p hp => by
  obtain ⟨x, hx, rfl⟩ := List.mem_map.mp hp
  exact TabS.nil (h (lawC K x, lawP K x) (List.mem_map_of_mem (f := fun x => (lawC K x, lawP K x)) hx))
theorem mkr_of {K : PySem.W.Frag} {mg : Str → Option Value} {base : Heap} {xs : List Str} {x : Str} (hT : ∀ p ∈ lamC K xs, TabB base mg p.1 p.2) (hb : ∀ x ∈ xs, lawB K x = true) (nd : (xs.map (lawP K)).Nodup) (hx : x ∈ xs) : Mkr K mg base xs x :=
  ⟨hT (lawC K x, lawP K x) (List.mem_map_of_mem (f := fun x => (lawC K x, lawP K x)) hx), (lawB_ok (hb x hx)).2.2, hx, nd⟩
theorem lamC_C {K : PySem.W.Frag} {h : Heap} {xs : List Str} (KX : K.In h) (hb : ∀ x ∈ xs, lawB K x = true) : ∀ p ∈ lamC K xs, PySem.W.CodeHd h p.1 p.2 := fun p hp => by
  obtain ⟨x, hx, rfl⟩ := List.mem_map.mp hp
  exact PySem.W.codeHd_of_K KX (lawB_ok (hb x hx)).1
theorem lamC_n {K : PySem.W.Frag} {xs : List Str} (hb : ∀ x ∈ xs, lawB K x = true) : ∀ p ∈ lamC K xs, K.lookup p.2 = none := fun p hp => by
  obtain ⟨x, hx, rfl⟩ := List.mem_map.mp hp
  exact (lawB_ok (hb x hx)).2.1
section
open He
open PySem.W (Frag OpenRow)
def lookTM (n : Nat) (xs : List Str) (fs : Frag → List Bool) (ds : List DA) (ts : List Tab) (g : Addr → Option Obj) : SeenT × Bool :=
  (lookTR n fs ds ts g, (fun K : Frag => xs.all fun x => lawB K x && isTab (g (lawP K x))) (frG g (PySem.cStatics :: asP g n [mainGlobals] [mainGlobals])))
def hookM (n : Nat) (xs : List Str) (fs : Frag → List Bool) (ds : List DA) (ts : List Tab) : PySem.W.Hook where
  α := SeenT × Bool
  obs := fun s => lookTM n xs fs ds ts s.heap.get?
  val := fun w => (lookTW ds ts w, true)
  says := fun w h => ∃ K : Frag, K.In h ∧ TellsT fs ds ts w K ∧ ∀ x ∈ xs, lawB K x = true ∧ h.get? (lawP K x) = some oTab
  of := fun _ _ e => by
    obtain ⟨e1, e2⟩ := Prod.mk.inj e
    exact ⟨_, frG_in, e1, fun x hx => by
      obtain ⟨e3, e4⟩ := Bool.and_eq_true_iff.mp (List.all_eq_true.mp e2 x hx)
      exact ⟨e3, isTab_ok e4⟩⟩
  keeps := fun _ _ _ ⟨K, hK, c, b⟩ k => ⟨K, Frag.In.keeps hK k, c, fun x hx => ⟨(b x hx).1, k _ _ (b x hx).2⟩⟩
theorem lookTM_eq {n : Nat} {xs : List Str} {fs : Frag → List Bool} {ds : List DA} {ts : List Tab} {g : Addr → Option Obj} {s : Shared} (h : ∀ a, g a = s.heap.get? a) : lookTM n xs fs ds ts g = (hookM n xs fs ds ts).obs s := by
  have e : g = s.heap.get? := funext h
  rw [e]
  rfl
end
end AF
namespace K1
open PySem PySem.Spec PyProof.Rows L2 AF
open C8 (pe_gc)
def top (i : Nat) : Stmt := PySem.Challenge.pw_agedfiles_k19_whole_looks_decided.main.body.getD i (.Pass ⟨0, 0, 0, 0⟩)
abbrev s_wall : Stmt := top 0
theorem c_wall : FnScope ["k"] ["k"] (defScope s_wall) := ⟨rfl, rfl, rfl, by decide +kernel, rfl, by decide +kernel, by decide +kernel⟩
abbrev s_NoMoment___init__ : Stmt := inClass (top 3) 0
theorem c_NoMoment___init__ : FnScope ["self", "value"] ["self", "value"] (defScope s_NoMoment___init__) := ⟨rfl, rfl, rfl, by decide +kernel, rfl, by decide +kernel, by decide +kernel⟩
abbrev s_NoRule___init__ : Stmt := inClass (top 4) 0
theorem c_NoRule___init__ : FnScope ["self", "value"] ["self", "value"] (defScope s_NoRule___init__) := ⟨rfl, rfl, rfl, by decide +kernel, rfl, by decide +kernel, by decide +kernel⟩
abbrev s_NoFile___init__ : Stmt := inClass (top 5) 0
theorem c_NoFile___init__ : FnScope ["self", "value"] ["self", "value"] (defScope s_NoFile___init__) := ⟨rfl, rfl, rfl, by decide +kernel, rfl, by decide +kernel, by decide +kernel⟩
abbrev s_NoDeed___init__ : Stmt := inClass (top 6) 0
theorem c_NoDeed___init__ : FnScope ["self", "value"] ["self", "value"] (defScope s_NoDeed___init__) := ⟨rfl, rfl, rfl, by decide +kernel, rfl, by decide +kernel, by decide +kernel⟩
abbrev s_NoMark___init__ : Stmt := inClass (top 7) 0
theorem c_NoMark___init__ : FnScope ["self", "value"] ["self", "value"] (defScope s_NoMark___init__) := ⟨rfl, rfl, rfl, by decide +kernel, rfl, by decide +kernel, by decide +kernel⟩
abbrev s_NoGrain___init__ : Stmt := inClass (top 8) 0
theorem c_NoGrain___init__ : FnScope ["self", "value"] ["self", "value"] (defScope s_NoGrain___init__) := ⟨rfl, rfl, rfl, by decide +kernel, rfl, by decide +kernel, by decide +kernel⟩
abbrev s_NoBook___init__ : Stmt := inClass (top 9) 0
theorem c_NoBook___init__ : FnScope ["self", "part"] ["self", "part"] (defScope s_NoBook___init__) := ⟨rfl, rfl, rfl, by decide +kernel, rfl, by decide +kernel, by decide +kernel⟩
abbrev s_is_whole : Stmt := top 11
theorem c_is_whole : FnScope ["value"] ["value"] (defScope s_is_whole) := ⟨rfl, rfl, rfl, by decide +kernel, rfl, by decide +kernel, by decide +kernel⟩
abbrev s_is_count : Stmt := top 12
theorem c_is_count : FnScope ["value"] ["value"] (defScope s_is_count) := ⟨rfl, rfl, rfl, by decide +kernel, rfl, by decide +kernel, by decide +kernel⟩
abbrev s_is_time : Stmt := top 13
theorem c_is_time : FnScope ["value"] ["value"] (defScope s_is_time) := ⟨rfl, rfl, rfl, by decide +kernel, rfl, by decide +kernel, by decide +kernel⟩
abbrev s_is_moment : Stmt := top 14
theorem c_is_moment : FnScope ["value"] ["value"] (defScope s_is_moment) := ⟨rfl, rfl, rfl, by decide +kernel, rfl, by decide +kernel, by decide +kernel⟩
abbrev s_is_deed : Stmt := top 19
theorem c_is_deed : FnScope ["value", "word"] ["value"] (defScope s_is_deed) := ⟨rfl, rfl, rfl, by decide +kernel, rfl, by decide +kernel, by decide +kernel⟩
abbrev s_makes : Stmt := top 20
theorem c_makes : FnScope ["value"] ["value"] (defScope s_makes) := ⟨rfl, rfl, rfl, by decide +kernel, rfl, by decide +kernel, by decide +kernel⟩
abbrev s_backs : Stmt := top 21
theorem c_backs : FnScope ["deed", "word", "found", "mark"] ["deed"] (defScope s_backs) := ⟨rfl, rfl, rfl, by decide +kernel, rfl, by decide +kernel, by decide +kernel⟩
abbrev s_is_looks : Stmt := top 22
theorem c_is_looks : FnScope ["value", "mark"] ["value"] (defScope s_is_looks) := ⟨rfl, rfl, rfl, by decide +kernel, rfl, by decide +kernel, by decide +kernel⟩
abbrev s_Moment___init__ : Stmt := inClass (top 26) 0
theorem c_Moment___init__ : FnScope ["self", "seconds"] ["self", "seconds"] (defScope s_Moment___init__) := ⟨rfl, rfl, rfl, by decide +kernel, rfl, by decide +kernel, by decide +kernel⟩
abbrev s_Moment_seconds : Stmt := inClass (top 26) 1
theorem c_Moment_seconds : FnScope ["self"] ["self"] (defScope s_Moment_seconds) := ⟨rfl, rfl, rfl, by decide +kernel, rfl, by decide +kernel, by decide +kernel⟩
abbrev s_Moment_seen : Stmt := inClass (top 26) 2
theorem c_Moment_seen : FnScope ["self", "grain"] ["self", "grain"] (defScope s_Moment_seen) := ⟨rfl, rfl, rfl, by decide +kernel, rfl, by decide +kernel, by decide +kernel⟩
abbrev s_Moment___add__ : Stmt := inClass (top 26) 3
theorem c_Moment___add__ : FnScope ["self", "other"] ["self", "other"] (defScope s_Moment___add__) := ⟨rfl, rfl, rfl, by decide +kernel, rfl, by decide +kernel, by decide +kernel⟩
abbrev s_Moment___radd__ : Stmt := inClass (top 26) 4
theorem c_Moment___radd__ : FnScope ["self", "other"] ["self", "other"] (defScope s_Moment___radd__) := ⟨rfl, rfl, rfl, by decide +kernel, rfl, by decide +kernel, by decide +kernel⟩
abbrev s_Moment___sub__ : Stmt := inClass (top 26) 5
theorem c_Moment___sub__ : FnScope ["self", "other"] ["self", "other"] (defScope s_Moment___sub__) := ⟨rfl, rfl, rfl, by decide +kernel, rfl, by decide +kernel, by decide +kernel⟩
abbrev s_Moment___rsub__ : Stmt := inClass (top 26) 6
theorem c_Moment___rsub__ : FnScope ["self", "other"] ["self", "other"] (defScope s_Moment___rsub__) := ⟨rfl, rfl, rfl, by decide +kernel, rfl, by decide +kernel, by decide +kernel⟩
abbrev s_Moment___lt__ : Stmt := inClass (top 26) 7
theorem c_Moment___lt__ : FnScope ["self", "other"] ["self", "other"] (defScope s_Moment___lt__) := ⟨rfl, rfl, rfl, by decide +kernel, rfl, by decide +kernel, by decide +kernel⟩
abbrev s_Moment___le__ : Stmt := inClass (top 26) 8
theorem c_Moment___le__ : FnScope ["self", "other"] ["self", "other"] (defScope s_Moment___le__) := ⟨rfl, rfl, rfl, by decide +kernel, rfl, by decide +kernel, by decide +kernel⟩
abbrev s_Moment___gt__ : Stmt := inClass (top 26) 9
theorem c_Moment___gt__ : FnScope ["self", "other"] ["self", "other"] (defScope s_Moment___gt__) := ⟨rfl, rfl, rfl, by decide +kernel, rfl, by decide +kernel, by decide +kernel⟩
abbrev s_Moment___ge__ : Stmt := inClass (top 26) 10
theorem c_Moment___ge__ : FnScope ["self", "other"] ["self", "other"] (defScope s_Moment___ge__) := ⟨rfl, rfl, rfl, by decide +kernel, rfl, by decide +kernel, by decide +kernel⟩
abbrev s_Moment___eq__ : Stmt := inClass (top 26) 11
theorem c_Moment___eq__ : FnScope ["self", "other"] ["self", "other"] (defScope s_Moment___eq__) := ⟨rfl, rfl, rfl, by decide +kernel, rfl, by decide +kernel, by decide +kernel⟩
abbrev s_number_of : Stmt := top 27
theorem c_number_of : FnScope ["value"] ["value"] (defScope s_number_of) := ⟨rfl, rfl, rfl, by decide +kernel, rfl, by decide +kernel, by decide +kernel⟩
abbrev s_is_point : Stmt := top 28
theorem c_is_point : FnScope ["value"] ["value"] (defScope s_is_point) := ⟨rfl, rfl, rfl, by decide +kernel, rfl, by decide +kernel, by decide +kernel⟩
abbrev s_seconds_of : Stmt := top 29
theorem c_seconds_of : FnScope ["value"] ["value"] (defScope s_seconds_of) := ⟨rfl, rfl, rfl, by decide +kernel, rfl, by decide +kernel, by decide +kernel⟩
abbrev s_Rule___init__ : Stmt := inClass (top 31) 0
theorem c_Rule___init__ : FnScope ["self", "word", "after"] ["self", "word", "after"] (defScope s_Rule___init__) := ⟨rfl, rfl, rfl, by decide +kernel, rfl, by decide +kernel, by decide +kernel⟩
abbrev s_Rule_always : Stmt := inClass (top 31) 1
theorem c_Rule_always : FnScope [] [] (defScope s_Rule_always) := ⟨rfl, rfl, rfl, by decide +kernel, rfl, by decide +kernel, by decide +kernel⟩
abbrev s_Rule_never : Stmt := inClass (top 31) 2
theorem c_Rule_never : FnScope [] [] (defScope s_Rule_never) := ⟨rfl, rfl, rfl, by decide +kernel, rfl, by decide +kernel, by decide +kernel⟩
abbrev s_Rule_seldom : Stmt := inClass (top 31) 3
theorem c_Rule_seldom : FnScope ["after"] ["after"] (defScope s_Rule_seldom) := ⟨rfl, rfl, rfl, by decide +kernel, rfl, by decide +kernel, by decide +kernel⟩
abbrev s_Rule_word : Stmt := inClass (top 31) 4
theorem c_Rule_word : FnScope ["self"] ["self"] (defScope s_Rule_word) := ⟨rfl, rfl, rfl, by decide +kernel, rfl, by decide +kernel, by decide +kernel⟩
abbrev s_Rule_after : Stmt := inClass (top 31) 5
theorem c_Rule_after : FnScope ["self"] ["self"] (defScope s_Rule_after) := ⟨rfl, rfl, rfl, by decide +kernel, rfl, by decide +kernel, by decide +kernel⟩
abbrev s_Rule___call__ : Stmt := inClass (top 31) 6
theorem c_Rule___call__ : FnScope ["self", "file", "at", "moment", "marks", "read"] ["self", "file", "at"] (defScope s_Rule___call__) := ⟨rfl, rfl, rfl, by decide +kernel, rfl, by decide +kernel, by decide +kernel⟩
abbrev s_Rule___eq__ : Stmt := inClass (top 31) 7
theorem c_Rule___eq__ : FnScope ["self", "other"] ["self", "other"] (defScope s_Rule___eq__) := ⟨rfl, rfl, rfl, by decide +kernel, rfl, by decide +kernel, by decide +kernel⟩
abbrev s_Hold___init__ : Stmt := inClass (top 33) 0
theorem c_Hold___init__ : FnScope ["self", "file"] ["self", "file"] (defScope s_Hold___init__) := ⟨rfl, rfl, rfl, by decide +kernel, rfl, by decide +kernel, by decide +kernel⟩
abbrev s_Hold___enter__ : Stmt := inClass (top 33) 1
theorem c_Hold___enter__ : FnScope ["self"] ["self"] (defScope s_Hold___enter__) := ⟨rfl, rfl, rfl, by decide +kernel, rfl, by decide +kernel, by decide +kernel⟩
abbrev s_Hold___exit__ : Stmt := inClass (top 33) 2
theorem c_Hold___exit__ : FnScope ["self", "kind", "value", "trace"] ["self", "kind", "value", "trace"] (defScope s_Hold___exit__) := ⟨rfl, rfl, rfl, by decide +kernel, rfl, by decide +kernel, by decide +kernel⟩
abbrev s_File___init__ : Stmt := inClass (top 34) 0
theorem c_File___init__ : FnScope ["self", "rule", "deed", "at", "moment", "mark", "back"] ["self", "rule", "deed", "at"] (defScope s_File___init__) := ⟨rfl, rfl, rfl, by decide +kernel, rfl, by decide +kernel, by decide +kernel⟩
abbrev s_File_last : Stmt := inClass (top 34) 1
theorem c_File_last : FnScope ["self"] ["self"] (defScope s_File_last) := ⟨rfl, rfl, rfl, by decide +kernel, rfl, by decide +kernel, by decide +kernel⟩
abbrev s_File_held : Stmt := inClass (top 34) 2
theorem c_File_held : FnScope ["self"] ["self"] (defScope s_File_held) := ⟨rfl, rfl, rfl, by decide +kernel, rfl, by decide +kernel, by decide +kernel⟩
abbrev s_File_held_setter : Stmt := inClass (top 34) 3
theorem c_File_held_setter : FnScope ["self", "value"] ["self", "value"] (defScope s_File_held_setter) := ⟨rfl, rfl, rfl, by decide +kernel, rfl, by decide +kernel, by decide +kernel⟩
abbrev s_File___getitem__ : Stmt := inClass (top 34) 4
theorem c_File___getitem__ : FnScope ["self", "at"] ["self", "at"] (defScope s_File___getitem__) := ⟨rfl, rfl, rfl, by decide +kernel, rfl, by decide +kernel, by decide +kernel⟩
abbrev s_File___iter__ : Stmt := inClass (top 34) 5
theorem c_File___iter__ : FnScope ["self"] ["self"] (defScope s_File___iter__) := ⟨rfl, rfl, rfl, by decide +kernel, rfl, by decide +kernel, by decide +kernel⟩
abbrev s_File_marks : Stmt := inClass (top 34) 6
theorem c_File_marks : FnScope ["self"] ["self"] (defScope s_File_marks) := ⟨rfl, rfl, rfl, by decide +kernel, rfl, by decide +kernel, by decide +kernel⟩
abbrev s_File_latest : Stmt := inClass (top 34) 7
theorem c_File_latest : FnScope ["self", "looks", "mark"] ["self", "looks"] (defScope s_File_latest) := ⟨rfl, rfl, rfl, by decide +kernel, rfl, by decide +kernel, by decide +kernel⟩
abbrev s_File_do : Stmt := inClass (top 34) 8
theorem c_File_do : FnScope ["self", "deed", "at", "moment", "shifts", "mark", "back"] ["self", "deed", "at"] (defScope s_File_do) := ⟨rfl, rfl, rfl, by decide +kernel, rfl, by decide +kernel, by decide +kernel⟩
abbrev s_File_shifts : Stmt := inClass (top 34) 9
theorem c_File_shifts : FnScope ["self", "deed", "moment"] ["self", "deed", "moment"] (defScope s_File_shifts) := ⟨rfl, rfl, rfl, by decide +kernel, rfl, by decide +kernel, by decide +kernel⟩
abbrev s_File_hold : Stmt := inClass (top 34) 10
theorem c_File_hold : FnScope ["self"] ["self"] (defScope s_File_hold) := ⟨rfl, rfl, rfl, by decide +kernel, rfl, by decide +kernel, by decide +kernel⟩
abbrev s_File_within : Stmt := inClass (top 34) 11
theorem c_File_within : FnScope ["self", "visitor"] ["self", "visitor"] (defScope s_File_within) := ⟨rfl, rfl, rfl, by decide +kernel, rfl, by decide +kernel, by decide +kernel⟩
abbrev s_File_double : Stmt := inClass (top 34) 12
theorem c_File_double : FnScope ["self"] ["self"] (defScope s_File_double) := ⟨rfl, rfl, rfl, by decide +kernel, rfl, by decide +kernel, by decide +kernel⟩
abbrev s_File___eq__ : Stmt := inClass (top 34) 13
theorem c_File___eq__ : FnScope ["self", "other"] ["self", "other"] (defScope s_File___eq__) := ⟨rfl, rfl, rfl, by decide +kernel, rfl, by decide +kernel, by decide +kernel⟩
abbrev s_Book___init__ : Stmt := inClass (top 37) 0
theorem c_Book___init__ : FnScope ["self", "bound", "looks", "how", "day", "grain", "spares", "late", "again", "period", "told", "part"] ["self", "bound", "looks", "how", "day", "grain", "spares", "late", "again", "period"] (defScope s_Book___init__) := ⟨rfl, rfl, rfl, by decide +kernel, rfl, by decide +kernel, by decide +kernel⟩
abbrev s_Book_careful : Stmt := inClass (top 37) 1
theorem c_Book_careful : FnScope ["bound"] ["bound"] (defScope s_Book_careful) := ⟨rfl, rfl, rfl, by decide +kernel, rfl, by decide +kernel, by decide +kernel⟩
abbrev s_Book_hasty : Stmt := inClass (top 37) 2
theorem c_Book_hasty : FnScope ["bound"] ["bound"] (defScope s_Book_hasty) := ⟨rfl, rfl, rfl, by decide +kernel, rfl, by decide +kernel, by decide +kernel⟩
abbrev s_Book_bound : Stmt := inClass (top 37) 3
theorem c_Book_bound : FnScope ["self"] ["self"] (defScope s_Book_bound) := ⟨rfl, rfl, rfl, by decide +kernel, rfl, by decide +kernel, by decide +kernel⟩
abbrev s_Book_bound_setter : Stmt := inClass (top 37) 4
theorem c_Book_bound_setter : FnScope ["self", "value"] ["self", "value"] (defScope s_Book_bound_setter) := ⟨rfl, rfl, rfl, by decide +kernel, rfl, by decide +kernel, by decide +kernel⟩
abbrev s_Book_looks : Stmt := inClass (top 37) 5
theorem c_Book_looks : FnScope ["self"] ["self"] (defScope s_Book_looks) := ⟨rfl, rfl, rfl, by decide +kernel, rfl, by decide +kernel, by decide +kernel⟩
abbrev s_Book_looks_setter : Stmt := inClass (top 37) 6
theorem c_Book_looks_setter : FnScope ["self", "value"] ["self", "value"] (defScope s_Book_looks_setter) := ⟨rfl, rfl, rfl, by decide +kernel, rfl, by decide +kernel, by decide +kernel⟩
abbrev s_Book_how : Stmt := inClass (top 37) 7
theorem c_Book_how : FnScope ["self"] ["self"] (defScope s_Book_how) := ⟨rfl, rfl, rfl, by decide +kernel, rfl, by decide +kernel, by decide +kernel⟩
abbrev s_Book_how_setter : Stmt := inClass (top 37) 8
theorem c_Book_how_setter : FnScope ["self", "value"] ["self", "value"] (defScope s_Book_how_setter) := ⟨rfl, rfl, rfl, by decide +kernel, rfl, by decide +kernel, by decide +kernel⟩
abbrev s_Book_day : Stmt := inClass (top 37) 9
theorem c_Book_day : FnScope ["self"] ["self"] (defScope s_Book_day) := ⟨rfl, rfl, rfl, by decide +kernel, rfl, by decide +kernel, by decide +kernel⟩
abbrev s_Book_day_setter : Stmt := inClass (top 37) 10
theorem c_Book_day_setter : FnScope ["self", "value"] ["self", "value"] (defScope s_Book_day_setter) := ⟨rfl, rfl, rfl, by decide +kernel, rfl, by decide +kernel, by decide +kernel⟩
abbrev s_Book_grain : Stmt := inClass (top 37) 11
theorem c_Book_grain : FnScope ["self"] ["self"] (defScope s_Book_grain) := ⟨rfl, rfl, rfl, by decide +kernel, rfl, by decide +kernel, by decide +kernel⟩
abbrev s_Book_grain_setter : Stmt := inClass (top 37) 12
theorem c_Book_grain_setter : FnScope ["self", "value"] ["self", "value"] (defScope s_Book_grain_setter) := ⟨rfl, rfl, rfl, by decide +kernel, rfl, by decide +kernel, by decide +kernel⟩
abbrev s_Book_spares : Stmt := inClass (top 37) 13
theorem c_Book_spares : FnScope ["self"] ["self"] (defScope s_Book_spares) := ⟨rfl, rfl, rfl, by decide +kernel, rfl, by decide +kernel, by decide +kernel⟩
abbrev s_Book_spares_setter : Stmt := inClass (top 37) 14
theorem c_Book_spares_setter : FnScope ["self", "value"] ["self", "value"] (defScope s_Book_spares_setter) := ⟨rfl, rfl, rfl, by decide +kernel, rfl, by decide +kernel, by decide +kernel⟩
abbrev s_Book_late : Stmt := inClass (top 37) 15
theorem c_Book_late : FnScope ["self"] ["self"] (defScope s_Book_late) := ⟨rfl, rfl, rfl, by decide +kernel, rfl, by decide +kernel, by decide +kernel⟩
abbrev s_Book_late_setter : Stmt := inClass (top 37) 16
theorem c_Book_late_setter : FnScope ["self", "value"] ["self", "value"] (defScope s_Book_late_setter) := ⟨rfl, rfl, rfl, by decide +kernel, rfl, by decide +kernel, by decide +kernel⟩
abbrev s_Book_again : Stmt := inClass (top 37) 17
theorem c_Book_again : FnScope ["self"] ["self"] (defScope s_Book_again) := ⟨rfl, rfl, rfl, by decide +kernel, rfl, by decide +kernel, by decide +kernel⟩
abbrev s_Book_again_setter : Stmt := inClass (top 37) 18
theorem c_Book_again_setter : FnScope ["self", "value"] ["self", "value"] (defScope s_Book_again_setter) := ⟨rfl, rfl, rfl, by decide +kernel, rfl, by decide +kernel, by decide +kernel⟩
abbrev s_Book_period : Stmt := inClass (top 37) 19
theorem c_Book_period : FnScope ["self"] ["self"] (defScope s_Book_period) := ⟨rfl, rfl, rfl, by decide +kernel, rfl, by decide +kernel, by decide +kernel⟩
abbrev s_Book_period_setter : Stmt := inClass (top 37) 20
theorem c_Book_period_setter : FnScope ["self", "value"] ["self", "value"] (defScope s_Book_period_setter) := ⟨rfl, rfl, rfl, by decide +kernel, rfl, by decide +kernel, by decide +kernel⟩
abbrev s_Book___getitem__ : Stmt := inClass (top 37) 21
theorem c_Book___getitem__ : FnScope ["self", "at"] ["self", "at"] (defScope s_Book___getitem__) := ⟨rfl, rfl, rfl, by decide +kernel, rfl, by decide +kernel, by decide +kernel⟩
abbrev s_Book___setitem__ : Stmt := inClass (top 37) 22
theorem c_Book___setitem__ : FnScope ["self", "at", "worth"] ["self", "at", "worth"] (defScope s_Book___setitem__) := ⟨rfl, rfl, rfl, by decide +kernel, rfl, by decide +kernel, by decide +kernel⟩
abbrev s_Book___iter__ : Stmt := inClass (top 37) 23
theorem c_Book___iter__ : FnScope ["self"] ["self"] (defScope s_Book___iter__) := ⟨rfl, rfl, rfl, by decide +kernel, rfl, by decide +kernel, by decide +kernel⟩
abbrev s_Book_change : Stmt := inClass (top 37) 24
theorem c_Book_change : FnScope ["self", "part", "value"] ["self", "part", "value"] (defScope s_Book_change) := ⟨rfl, rfl, rfl, by decide +kernel, rfl, by decide +kernel, by decide +kernel⟩
abbrev s_Book_parts : Stmt := inClass (top 37) 25
theorem c_Book_parts : FnScope ["self"] ["self"] (defScope s_Book_parts) := ⟨rfl, rfl, rfl, by decide +kernel, rfl, by decide +kernel, by decide +kernel⟩
abbrev s_Book_remade : Stmt := inClass (top 37) 26
theorem c_Book_remade : FnScope ["self", "parts"] ["self", "parts"] (defScope s_Book_remade) := ⟨rfl, rfl, rfl, by decide +kernel, rfl, by decide +kernel, by decide +kernel⟩
abbrev s_Book_twin : Stmt := inClass (top 37) 27
theorem c_Book_twin : FnScope ["self"] ["self"] (defScope s_Book_twin) := ⟨rfl, rfl, rfl, by decide +kernel, rfl, by decide +kernel, by decide +kernel⟩
abbrev s_Book_threshold : Stmt := inClass (top 37) 28
theorem c_Book_threshold : FnScope ["self"] ["self"] (defScope s_Book_threshold) := ⟨rfl, rfl, rfl, by decide +kernel, rfl, by decide +kernel, by decide +kernel⟩
abbrev s_Book_due : Stmt := inClass (top 37) 29
theorem c_Book_due : FnScope ["self", "latest"] ["self", "latest"] (defScope s_Book_due) := ⟨rfl, rfl, rfl, by decide +kernel, rfl, by decide +kernel, by decide +kernel⟩
abbrev s_Book___call__ : Stmt := inClass (top 37) 30
theorem c_Book___call__ : FnScope ["self", "file", "at", "moment"] ["self", "file", "at"] (defScope s_Book___call__) := ⟨rfl, rfl, rfl, by decide +kernel, rfl, by decide +kernel, by decide +kernel⟩
abbrev s_Book___eq__ : Stmt := inClass (top 37) 31
theorem c_Book___eq__ : FnScope ["self", "other"] ["self", "other"] (defScope s_Book___eq__) := ⟨rfl, rfl, rfl, by decide +kernel, rfl, by decide +kernel, by decide +kernel⟩
abbrev s_Book___le__ : Stmt := inClass (top 37) 32
theorem c_Book___le__ : FnScope ["self", "other"] ["self", "other"] (defScope s_Book___le__) := ⟨rfl, rfl, rfl, by decide +kernel, rfl, by decide +kernel, by decide +kernel⟩
abbrev s_Book___lt__ : Stmt := inClass (top 37) 33
theorem c_Book___lt__ : FnScope ["self", "other"] ["self", "other"] (defScope s_Book___lt__) := ⟨rfl, rfl, rfl, by decide +kernel, rfl, by decide +kernel, by decide +kernel⟩
abbrev s_Book___ge__ : Stmt := inClass (top 37) 34
theorem c_Book___ge__ : FnScope ["self", "other"] ["self", "other"] (defScope s_Book___ge__) := ⟨rfl, rfl, rfl, by decide +kernel, rfl, by decide +kernel, by decide +kernel⟩
abbrev s_Book___gt__ : Stmt := inClass (top 37) 35
theorem c_Book___gt__ : FnScope ["self", "other"] ["self", "other"] (defScope s_Book___gt__) := ⟨rfl, rfl, rfl, by decide +kernel, rfl, by decide +kernel, by decide +kernel⟩
abbrev s_seen_age : Stmt := top 38
theorem c_seen_age : FnScope ["book", "marks", "at", "moment", "latest", "mark"] ["book", "marks", "at"] (defScope s_seen_age) := ⟨rfl, rfl, rfl, by decide +kernel, rfl, by decide +kernel, by decide +kernel⟩
abbrev s_check_book : Stmt := top 39
theorem c_check_book : FnScope ["value"] ["value"] (defScope s_check_book) := ⟨rfl, rfl, rfl, by decide +kernel, rfl, by decide +kernel, by decide +kernel⟩
abbrev s_check_part : Stmt := top 40
theorem c_check_part : FnScope ["part", "value"] ["part", "value"] (defScope s_check_part) := ⟨rfl, rfl, rfl, by decide +kernel, rfl, by decide +kernel, by decide +kernel⟩
abbrev s_is_part : Stmt := top 41
theorem c_is_part : FnScope ["value"] ["value"] (defScope s_is_part) := ⟨rfl, rfl, rfl, by decide +kernel, rfl, by decide +kernel, by decide +kernel⟩
abbrev s_is_worth : Stmt := top 42
theorem c_is_worth : FnScope ["part", "value"] ["part", "value"] (defScope s_is_worth) := ⟨rfl, rfl, rfl, by decide +kernel, rfl, by decide +kernel, by decide +kernel⟩
abbrev s_is_dict_of_marks : Stmt := top 43
theorem c_is_dict_of_marks : FnScope ["value", "mark"] ["value"] (defScope s_is_dict_of_marks) := ⟨rfl, rfl, rfl, by decide +kernel, rfl, by decide +kernel, by decide +kernel⟩
abbrev s_deletes_no_more : Stmt := top 44
theorem c_deletes_no_more : FnScope ["one", "other", "mark"] ["one", "other"] (defScope s_deletes_no_more) := ⟨rfl, rfl, rfl, by decide +kernel, rfl, by decide +kernel, by decide +kernel⟩
abbrev s_common_part : Stmt := top 45
theorem c_common_part : FnScope ["one", "other"] ["one", "other"] (defScope s_common_part) := ⟨rfl, rfl, rfl, by decide +kernel, rfl, by decide +kernel, by decide +kernel⟩
abbrev s_law_source : Stmt := top 47
theorem c_law_source : FnScope ["script", "turn", "cell", "number", "seed"] ["script", "turn"] (defScope s_law_source) := ⟨rfl, rfl, rfl, by decide +kernel, rfl, by decide +kernel, by decide +kernel⟩
abbrev s_law_draw : Stmt := top 48
theorem c_law_draw : FnScope ["source", "amount", "digit", "found"] ["source", "amount"] (defScope s_law_draw) := ⟨rfl, rfl, rfl, by decide +kernel, rfl, by decide +kernel, by decide +kernel⟩
abbrev s_law_pick : Stmt := top 49
theorem c_law_pick : FnScope ["source", "items"] ["source", "items"] (defScope s_law_pick) := ⟨rfl, rfl, rfl, by decide +kernel, rfl, by decide +kernel, by decide +kernel⟩
abbrev s_law_looks : Stmt := top 50
theorem c_law_looks : FnScope ["source"] ["source"] (defScope s_law_looks) := ⟨rfl, rfl, rfl, by decide +kernel, rfl, by decide +kernel, by decide +kernel⟩
abbrev s_law_parts : Stmt := top 51
theorem c_law_parts : FnScope ["source", "most", "grains", "parts"] ["source", "most", "grains"] (defScope s_law_parts) := ⟨rfl, rfl, rfl, by decide +kernel, rfl, by decide +kernel, by decide +kernel⟩
abbrev s_law_book : Stmt := top 52
theorem c_law_book : FnScope ["parts", "book"] ["parts"] (defScope s_law_book) := ⟨rfl, rfl, rfl, by decide +kernel, rfl, by decide +kernel, by decide +kernel⟩
abbrev s_law_wide : Stmt := top 53
theorem c_law_wide : FnScope ["source", "parts"] ["source"] (defScope s_law_wide) := ⟨rfl, rfl, rfl, by decide +kernel, rfl, by decide +kernel, by decide +kernel⟩
abbrev s_law_old : Stmt := top 54
theorem c_law_old : FnScope ["parts", "marks", "at", "latest", "mark"] ["parts", "marks", "at"] (defScope s_law_old) := ⟨rfl, rfl, rfl, by decide +kernel, rfl, by decide +kernel, by decide +kernel⟩
abbrev s_law_deletes : Stmt := top 55
theorem c_law_deletes : FnScope ["parts", "marks", "held", "at", "age"] ["parts", "marks", "held", "at"] (defScope s_law_deletes) := ⟨rfl, rfl, rfl, by decide +kernel, rfl, by decide +kernel, by decide +kernel⟩
abbrev s_law_file : Stmt := top 56
theorem c_law_file : FnScope ["source", "rule", "far", "start", "file", "at", "k"] ["source", "rule", "far"] (defScope s_law_file) := ⟨rfl, rfl, rfl, by decide +kernel, rfl, by decide +kernel, by decide +kernel⟩
abbrev s_law_held : Stmt := top 57
theorem c_law_held : FnScope ["file", "book", "at"] ["file", "book", "at"] (defScope s_law_held) := ⟨rfl, rfl, rfl, by decide +kernel, rfl, by decide +kernel, by decide +kernel⟩
abbrev s_law : Stmt := top 58
theorem c_law : FnScope ["script", "turn", "source", "parts", "book", "file", "last", "marks", "edge", "more", "at", "due", "told", "early", "table"] ["script"] (defScope s_law) := ⟨rfl, rfl, rfl, by decide +kernel, rfl, by decide +kernel, by decide +kernel⟩
end K1
namespace K1
open PySem PySem.Spec PyProof.Rows L2 AF
set_option maxHeartbeats 0
/-! the end -/
section
open He
def lams : List Str := ["_law_held"]
def hdefs : List DA := [⟨fun K => ga K "law", "law", "law", s_law, [], []⟩,
  ⟨fun K => ga K "_law_source", "_law_source", "_law_source", s_law_source, [], []⟩,
  ⟨fun K => ga K "_law_draw", "_law_draw", "_law_draw", s_law_draw, [], []⟩,
  ⟨fun K => ga K "_law_pick", "_law_pick", "_law_pick", s_law_pick, [], []⟩,
  ⟨fun K => ga K "_law_looks", "_law_looks", "_law_looks", s_law_looks, [], []⟩,
  ⟨fun K => ga K "_law_parts", "_law_parts", "_law_parts", s_law_parts, [], []⟩,
  ⟨fun K => ga K "_law_wide", "_law_wide", "_law_wide", s_law_wide, [], []⟩,
  ⟨fun K => ga K "_law_book", "_law_book", "_law_book", s_law_book, [], []⟩,
  ⟨fun K => ga K "_law_old", "_law_old", "_law_old", s_law_old, [], []⟩,
  ⟨fun K => ga K "_law_deletes", "_law_deletes", "_law_deletes", s_law_deletes, [], []⟩,
  ⟨fun K => ga K "_law_file", "_law_file", "_law_file", s_law_file, [], []⟩,
  ⟨fun K => ga K "_law_held", "_law_held", "_law_held", s_law_held, [], []⟩,
  ⟨fun K => ga K "is_whole", "is_whole", "is_whole", s_is_whole, [], []⟩,
  ⟨fun K => ga K "is_count", "is_count", "is_count", s_is_count, [], []⟩,
  ⟨fun K => ga K "is_time", "is_time", "is_time", s_is_time, [], []⟩,
  ⟨fun K => ga K "is_moment", "is_moment", "is_moment", s_is_moment, [], []⟩,
  ⟨fun K => ga K "is_looks", "is_looks", "is_looks", s_is_looks, [], []⟩,
  ⟨fun K => ga K "is_deed", "is_deed", "is_deed", s_is_deed, [], []⟩,
  ⟨fun K => ga K "makes", "makes", "makes", s_makes, [], []⟩,
  ⟨fun K => ga K "backs", "backs", "backs", s_backs, [], []⟩,
  ⟨fun K => ga K "seconds_of", "seconds_of", "seconds_of", s_seconds_of, [], []⟩,
  ⟨fun K => ga K "is_point", "is_point", "is_point", s_is_point, [], []⟩,
  ⟨fun K => ga K "is_dict_of_marks", "is_dict_of_marks", "is_dict_of_marks", s_is_dict_of_marks, [], []⟩,
  ⟨fun K => ga K "is_part", "is_part", "is_part", s_is_part, [], []⟩,
  ⟨fun K => ga K "is_worth", "is_worth", "is_worth", s_is_worth, [], []⟩,
  ⟨fun K => ga K "check_part", "check_part", "check_part", s_check_part, [], []⟩,
  ⟨fun K => ga K "check_book", "check_book", "check_book", s_check_book, [], []⟩,
  ⟨fun K => ga K "seen_age", "seen_age", "seen_age", s_seen_age, [], []⟩,
  ⟨fun K => ma K (ga K "Book") "__init__", "__init__", "Book.__init__", s_Book___init__, [], [("looks", .glo "MARKS"), ("how", .str "above"), ("day", .int 1), ("grain", .int 1), ("spares", .bl false), ("late", .int 0), ("again", .bl true), ("period", .int 1)]⟩,
  ⟨fun K => ma K (ga K "Book") "change", "change", "Book.change", s_Book_change, [], []⟩,
  ⟨fun K => ma K (ga K "Book") "threshold", "threshold", "Book.threshold", s_Book_threshold, [], []⟩,
  ⟨fun K => ma K (ga K "Book") "due", "due", "Book.due", s_Book_due, [], []⟩,
  ⟨fun K => ma K (ga K "Book") "__eq__", "__eq__", "Book.__eq__", s_Book___eq__, [], []⟩,
  ⟨fun K => ma K (ga K "Book") "__call__", "__call__", "Book.__call__", s_Book___call__, [], []⟩,
  ⟨getA "Book" "bound", "bound", "Book.bound", s_Book_bound, [], []⟩,
  ⟨getA "Book" "looks", "looks", "Book.looks", s_Book_looks, [], []⟩,
  ⟨getA "Book" "how", "how", "Book.how", s_Book_how, [], []⟩,
  ⟨getA "Book" "day", "day", "Book.day", s_Book_day, [], []⟩,
  ⟨getA "Book" "grain", "grain", "Book.grain", s_Book_grain, [], []⟩,
  ⟨getA "Book" "spares", "spares", "Book.spares", s_Book_spares, [], []⟩,
  ⟨fun K => ma K (ga K "Moment") "__init__", "__init__", "Moment.__init__", s_Moment___init__, [], []⟩,
  ⟨fun K => ma K (ga K "File") "__init__", "__init__", "File.__init__", s_File___init__, [], []⟩,
  ⟨fun K => ma K (ga K "File") "marks", "marks", "File.marks", s_File_marks, [], []⟩,
  ⟨fun K => ma K (ga K "File") "latest", "latest", "File.latest", s_File_latest, [], []⟩,
  ⟨fun K => ma K (ga K "File") "do", "do", "File.do", s_File_do, [], []⟩,
  ⟨fun K => ma K (ga K "File") "shifts", "shifts", "File.shifts", s_File_shifts, [], []⟩,
  ⟨fun K => ma K (ga K "File") "within", "within", "File.within", s_File_within, [], []⟩,
  ⟨getA "File" "held", "held", "File.held", s_File_held, [], []⟩,
  ⟨fun K => ma K (ga K "Rule") "__init__", "__init__", "Rule.__init__", s_Rule___init__, [], []⟩,
  ⟨fun K => He5.wf K (ga K "Rule") "staticmethod" "always", "always", "Rule.always", s_Rule_always, [], []⟩,
  ⟨fun K => He5.wf K (ga K "Rule") "staticmethod" "never", "never", "Rule.never", s_Rule_never, [], []⟩,
  ⟨fun K => He5.wf K (ga K "Rule") "staticmethod" "seldom", "seldom", "Rule.seldom", s_Rule_seldom, [], []⟩,
  ⟨fun K => ma K (ga K "Rule") "__call__", "__call__", "Rule.__call__", s_Rule___call__, [], []⟩,
  ⟨fun K => ma K (ga K "Hold") "__init__", "__init__", "Hold.__init__", s_Hold___init__, [], []⟩,
  ⟨fun K => ma K (ga K "Hold") "__enter__", "__enter__", "Hold.__enter__", s_Hold___enter__, [], []⟩,
  ⟨fun K => ma K (ga K "Hold") "__exit__", "__exit__", "Hold.__exit__", s_Hold___exit__, [], []⟩]
def hfacts (K : PySem.W.Frag) : List Bool := [(Fa.glo "is_whole").ok K,
  (Fa.glo "is_time").ok K,
  (Fa.glo "is_deed").ok K,
  (Fa.glo "makes").ok K,
  (Fa.free "isinstance").ok K,
  (Fa.free "len").ok K,
  (Fa.free "int").ok K,
  (Fa.free "bool").ok K,
  (Fa.free "tuple").ok K,
  (Fa.free "str").ok K,
  nowB K (ga K "SET_NOW") "make" ["read", "written", "changed"],
  nowB K (ga K "SET_NOW") "read" [],
  nowB K (ga K "SET_NOW") "write" ["written", "changed"],
  nowB K (ga K "SET_NOW") "rename" ["changed"],
  nowB K (ga K "SET_NOW") "touch" ["read", "written", "changed"],
  nowB K (ga K "SET_NOW") "unpack" ["read", "changed"],
  nowB K (ga K "SET_NOW") "setback" ["changed"],
  nowB K (ga K "SET_BACK") "unpack" ["written"],
  nowB K (ga K "SET_BACK") "setback" ["read", "written"],
  (Fa.glo "MARKS").ok K,
  ktB K (ga K "MARKS") ["read", "written", "changed"],
  (Fa.glo "SET_NOW").ok K,
  (Fa.glo "SET_BACK").ok K,
  (["make", "read", "write", "rename", "touch"] : List Str).all fun x => eqO (PySem.W.nsIn K (ga K "SET_BACK") x) (some none),
  (["Make"] : List Str).all fun x => eqO (PySem.W.nsIn K (ga K "SET_NOW") x) (some none),
  (Fa.glo "File").ok K,
  (Fa.glo "AnyFile").ok K,
  (Fa.glo "Moment").ok K,
  (Fa.glo "is_moment").ok K,
  (Fa.glo "seconds_of").ok K,
  (Fa.glo "Rule").ok K,
  (Fa.glo "backs").ok K,
  (Fa.glo "is_looks").ok K,
  (Fa.free "dict").ok K,
  (Fa.free "list").ok K,
  (Fa.free "max").ok K,
  (Fa.free "all").ok K,
  (Fa.cls "File").ok K,
  (Fa.cls "Rule").ok K,
  (Fa.noat "File" "noted").ok K,
  (Fa.noat "Rule" "chosen").ok K,
  (Fa.noat "Rule" "wait").ok K,
  insB K (ga K "File"),
  decide (PySem.W.kitOne K (.ref (ga K "File")) (.ref (ga K "AnyFile")) = some true),
  decide (PySem.W.kitOne K (.type "int") (.ref (ga K "Moment")) = some false),
  (Fa.cls "Moment").ok K,
  insB K (ga K "Moment"),
  (Fa.noat "Moment" "number").ok K,
  (Fa.noat "File" "ruling").ok K,
  (Fa.noat "File" "done_at").ok K,
  (Fa.noat "File" "holding").ok K,
  ciB K (ga K "Rule") (ma K (ga K "Rule") "__call__"),
  insB K (ga K "Rule"),
  cmpB K .Eq (ga K "Rule") (ma K (ga K "Rule") "__eq__"),
  PySem.W.notFirst K (ga K "Rule") (.ref (ga K "Rule")),
  (Fa.glo "number_of").ok K,
  binB K .Add (ga K "Moment") (ma K (ga K "Moment") "__add__"),
  binTB K .Add (ga K "Moment") "int",
  (Fa.glo "is_count").ok K,
  (Fa.glo "is_part").ok K,
  (Fa.glo "is_worth").ok K,
  (Fa.glo "check_part").ok K,
  (Fa.glo "check_book").ok K,
  (Fa.glo "Book").ok K,
  (Fa.glo "Hold").ok K,
  (Fa.glo "is_point").ok K,
  (Fa.glo "is_dict_of_marks").ok K,
  (Fa.glo "seen_age").ok K,
  (Fa.glo "_law_source").ok K,
  (Fa.glo "_law_draw").ok K,
  (Fa.glo "_law_pick").ok K,
  (Fa.glo "_law_looks").ok K,
  (Fa.glo "_law_parts").ok K,
  (Fa.glo "_law_wide").ok K,
  (Fa.glo "_law_book").ok K,
  (Fa.glo "_law_old").ok K,
  (Fa.glo "_law_deletes").ok K,
  (Fa.glo "_law_file").ok K,
  (Fa.glo "_law_held").ok K,
  (Fa.free "abs").ok K,
  (Fa.free "min").ok K,
  (Fa.free "range").ok K,
  decide (PySem.W.findIn K (.ref (ga K "Hold")) "__enter__" = some (some (.ref (ma K (ga K "Hold") "__enter__")))),
  PySem.W.isFn K (.ref (ma K (ga K "Hold") "__enter__")),
  decide (PySem.W.findIn K (.ref (ga K "Hold")) "__exit__" = some (some (.ref (ma K (ga K "Hold") "__exit__")))),
  PySem.W.isFn K (.ref (ma K (ga K "Hold") "__exit__")),
  (Fa.glo "PARTS").ok K,
  ktB K (ga K "PARTS") ["bound", "looks", "how", "day", "grain", "spares", "late", "again", "period"],
  (Fa.cls "Book").ok K,
  (Fa.noat "Book" "told_parts").ok K,
  insB K (ga K "Book"),
  cmpB K .Eq (ga K "Book") (ma K (ga K "Book") "__eq__"),
  PySem.W.notFirst K (ga K "Book") (.ref (ga K "Book")),
  PySem.W.notFirst K (ga K "Book") (.type "dict"),
  decide (PySem.W.kitOne K (.type "dict") (.ref (ga K "Book")) = some false),
  smB K (ga K "Rule") "always" (ma K (ga K "Rule") "always") (He5.wf K (ga K "Rule") "staticmethod" "always"),
  smB K (ga K "Rule") "never" (ma K (ga K "Rule") "never") (He5.wf K (ga K "Rule") "staticmethod" "never"),
  smB K (ga K "Rule") "seldom" (ma K (ga K "Rule") "seldom") (He5.wf K (ga K "Rule") "staticmethod" "seldom"),
  ciB K (ga K "Book") (ma K (ga K "Book") "__call__"),
  neB K (ga K "Book") (ma K (ga K "Book") "__eq__"),
  (Fa.cls "Hold").ok K,
  (Fa.noat "Hold" "file").ok K,
  lamB K lams,
  (Fa.mkr "Moment").ok K,
  (Fa.mkr "Rule").ok K,
  (Fa.meth "File" "marks").ok K,
  (Fa.mkr "File").ok K,
  propB K (ga K "File") "held" (getA "File" "held" K),
  (Fa.meth "File" "latest").ok K,
  (Fa.meth "File" "shifts").ok K,
  (Fa.meth "File" "do").ok K,
  (Fa.mkr "Book").ok K,
  (Fa.meth "Book" "change").ok K,
  propB K (ga K "Book") "bound" (getA "Book" "bound" K),
  propB K (ga K "Book") "looks" (getA "Book" "looks" K),
  propB K (ga K "Book") "how" (getA "Book" "how" K),
  propB K (ga K "Book") "day" (getA "Book" "day" K),
  propB K (ga K "Book") "grain" (getA "Book" "grain" K),
  propB K (ga K "Book") "spares" (getA "Book" "spares" K),
  (Fa.meth "Book" "threshold").ok K,
  (Fa.meth "Book" "due").ok K,
  (Fa.mkr "Hold").ok K,
  (Fa.meth "File" "within").ok K,
  (Fa.glo "law").ok K]
def htabs : List Tab := [(fun K => ga K "SET_NOW", ["make", "read", "write", "rename", "touch", "unpack", "setback"]), (fun K => ga K "SET_BACK", ["unpack", "setback"])]
abbrev R : PySem.W.OpenRow := PySem.W.OpenLaw.row PySem.Challenge.rw_agedfiles_k19_whole_looks_decided
abbrev hk : PySem.W.Hook := hookM 5 lams hfacts hdefs htabs
def ob (s : PySem.W.SharedT) : AF.SeenT × Bool := lookTM 5 lams hfacts hdefs htabs (HandSHeadRun.getT s)
theorem ob_eq (s : PySem.W.SharedT) : ob s = hk.obs s.abs := lookTM_eq (HandSHeadRun.getT_eq s)
abbrev names : List PySem.Str := (["_wall", "__name__", "AgeError", "NoMoment", "NoRule", "NoFile", "NoDeed", "NoMark", "NoGrain", "NoBook", "is_whole", "is_count", "is_time", "is_moment", "MARKS", "SET_NOW", "SET_BACK", "is_deed", "makes", "backs", "is_looks", "AnyFile", "Moment", "number_of", "is_point", "seconds_of", "Rule", "Hold", "File", "PARTS"] : List PySem.Str) ++ (["Book", "seen_age", "check_book", "check_part", "is_part", "is_worth", "is_dict_of_marks", "deletes_no_more", "common_part", "_law_source", "_law_draw", "_law_pick", "_law_looks", "_law_parts", "_law_book", "_law_wide", "_law_old", "_law_deletes", "_law_file", "_law_held"] : List PySem.Str)
theorem run0 (w : World) : HandSHeadRun.RunEq R (PySem.W.view R.prog [58]) hk ob 12000 names (w.withFollow "special-get-raises" false) := by
  intro os
  kernel_rfl
theorem run1 (w : World) : HandSHeadRun.RunEq R (PySem.W.view R.prog [58]) hk ob 12000 names (w.withFollow "special-get-raises" true) := by
  intro os
  kernel_rfl
theorem run (w : World) : HandSHeadRun.RunEq R (PySem.W.view R.prog [58]) hk ob 12000 names w :=
  PySem.W.byRow2 "special-get-raises" (P := fun w => HandSHeadRun.RunEq R (PySem.W.view R.prog [58]) hk ob 12000 names w) run0 run1 w
end

end K1
/-! with C(..): ..; a method that calls what it got, with one argument *-/
namespace AF
open PySem PySem.Spec PyProof.Rows L2 LamX
structure WithC (K : PySem.W.Frag) (C fe fx : Addr) : Prop where
  he : PySem.W.findIn K (.ref C) "__enter__" = some (some (.ref fe))
  hfe : PySem.W.isFn K (.ref fe) = true
  hx : PySem.W.findIn K (.ref C) "__exit__" = some (some (.ref fx))
  hfx : PySem.W.isFn K (.ref fx) = true
def withEnds (a : Addr) (spx : Sp) (E : XK) (D : Ends) : Ends :=
  ⟨fun σ H => spx [.ref a, .non, .non, .non] H (fun _ H' => D.nx σ H') E, fun r H => spx [.ref a, .non, .non, .non] H (fun _ H' => D.rt r H') E, fun σ H => spx [.ref a, .non, .non, .non] H (fun _ H' => D.bk σ H') E, fun σ H => spx [.ref a, .non, .non, .non] H (fun _ H' => D.ct σ H') E⟩
def kEnter (C : Addr) (spe spx : Sp) (E : XK) (tb : TS) (D : Ends) (σ : L2.St) (v : V) (H : Hp) : Prop := ∃ a dx fs, v = .ref a ∧ H a = some (.ins C dx fs) ∧ spe [.ref a] H (fun _ H2 => tb (withEnds a spx E D) σ H2) E
def tWith (C : Addr) (spe spx : Sp) (E : XK) (te : TE) (tb : TS) : TS := fun D σ H => te σ H (kEnter C spe spx E tb D σ)
section
variable {X : Cx} {C fe fx : Addr} {k : Nat} {pe px : List Str} {spe spx : Sp} {E : XK} {e : Expr} {body : List Stmt} {pos : Pos} {te : TE} {tb : TS}
theorem ps_with0 (De : Dn X.prog X.w X.K X.mg X.base k fe pe spe) (Dx : Dn X.prog X.w X.K X.mg X.base k fx px spx) (W : WithC X.K C fe fx) (hr : Room k X.A) (hx : Passes (L2.CX X.prog X.w) X E) (he : PE X e te) (hb : PSs X.nox body tb) :
    PS X (.With [⟨e, none⟩] body pos) (tWith C spe spx E te tb) := by
  constructor
  intro pins s σ H D I h
  refine PySem.W.kw_exec0 (thn (he.run pins s σ H _ I h) ?_)
  rintro u s1 ⟨v, H1, I1, r1, a, dx, fs, rfl, ha, q⟩
  cases (show u = Value.ref a from r1)
  obtain ⟨mA, J, _⟩ := ins_get I1.hok ha
  obtain ⟨od, J, _⟩ := J.look
  obtain ⟨fde, Fe, be⟩ := De.ex
  obtain ⟨fdx, Fx, bx⟩ := Dx.ex
  show wpAny _ _ (withItem false _ X.env (pure (.ref a)) none (execs body X.env)) _ _ _
  refine PySem.W.kw_core0 I1.kIn J W.he W.hfe W.hx W.hfx ?_
  refine thn (run_fn (us := [.ref a]) (vs := [.ref a]) Fe hr be .nil hx I1 (.cons rfl .nil) q) ?_
  rintro _ s2 ⟨_, H2, I2, _, q2⟩
  refine wpAny_mono (hb.run pins s2 σ H2 (withEnds a spx E D) (I2.wish _) q2) ?_ fun _ _ z => False.elim z
  intro g s3 z
  have z : SP X pins (withEnds a spx E D) g s3 := z.unwish
  have rv : Vals [V.ref a, .non, .non, .non] [Value.ref a, .none, .none, .none] := .cons rfl (.cons rfl (.cons rfl (.cons rfl .nil)))
  cases g with
  | next =>
    obtain ⟨σ3, H3, I3, q3⟩ := z
    refine thn (run_fn (us := [.ref a, .none, .none, .none]) (vs := [.ref a, .non, .non, .non]) Fx hr bx .nil hx I3 rv q3) ?_
    rintro _ s4 ⟨_, H4, I4, _, q4⟩
    exact ⟨σ3, H4, I4, q4⟩
  | ret w =>
    obtain ⟨r, σ3, H3, I3, rr, q3⟩ := z
    refine thn (run_fn (us := [.ref a, .none, .none, .none]) (vs := [.ref a, .non, .non, .non]) Fx hr bx .nil hx I3 rv q3) ?_
    rintro _ s4 ⟨_, H4, I4, _, q4⟩
    exact ⟨r, σ3, H4, I4, rr, q4⟩
  | brk =>
    obtain ⟨σ3, H3, I3, q3⟩ := z
    refine thn (run_fn (us := [.ref a, .none, .none, .none]) (vs := [.ref a, .non, .non, .non]) Fx hr bx .nil hx I3 rv q3) ?_
    rintro _ s4 ⟨_, H4, I4, _, q4⟩
    exact ⟨σ3, H4, I4, q4⟩
  | cont =>
    obtain ⟨σ3, H3, I3, q3⟩ := z
    refine thn (run_fn (us := [.ref a, .none, .none, .none]) (vs := [.ref a, .non, .non, .non]) Fx hr bx .nil hx I3 rv q3) ?_
    rintro _ s4 ⟨_, H4, I4, _, q4⟩
    exact ⟨σ3, H4, I4, q4⟩
end
/-! a visitor: what may be called with one argument, from the state at which it was handed over on *-/
structure VisP (P : Program) (w : World) (K : PySem.W.Frag) (mg : Str → Option Value) (base : Heap) (k : Nat) (f : Addr) (stk : List Env) (H0 : Hp) (s0 : Shared) (Pf : Hp → Prop) (sp : Sp) : Prop where
  fn : ∀ (H : Hp) (h : Heap), HOk P w H h → Pf H → PySem.W.FnAt f h
  run : ∀ (A : Around) (outer : List Env) (s : Shared) (H : Hp) (us : List Value) (vs : List V) (Q : VK) (E : XK), Room k A → Env0 P w K mg base A outer s H → Un (frs stk) [] H0 H s0.heap s.heap → Pf H → Vals vs us → sp vs H Q E →
    codeAny (model P w) A (.call (.ref f) ⟨us, []⟩) (CR (L2.CX P w) outer P w H s Q E) s
def tVis (i : Nat) (f : Addr) (Pf : Hp → Prop) (sp : Sp) (E : XK) (t : TA) : TE := fun σ H Q => σ[i]? = some (some (.ref f)) ∧ Pf H ∧ t σ H fun vs H1 => Pf H1 ∧ sp vs H1 Q E
theorem pe_vis {P : Program} {w : World} {K : PySem.W.Frag} {mg : Str → Option Value} {base : Heap} {CXg : CXT} {Eg : XK} {Ng : List Str} {qg : Str} {sg : Scope} {g f : Addr} {cdg : Value} {A : Around} {stk : List Env} {s : Shared} {H : Hp} {Ew : Value → Shared → Prop} {k i : Nat} {a : Str} {Pf : Hp → Prop} {sp : Sp} {E : XK} {e : Expr} {es : List Expr} {t : TA} {p1 p2 : Pos}
    (V : VisP P w K mg base k f stk H s Pf sp) (hr : Room k (A.deeper (envOfC qg sg s.heap.objs.size g cdg))) (hx : Passes (L2.CX P w) ((cxOf CXg P w K mg base Ng qg sg g cdg A stk s H Eg).wish Ew) E) (hN : Ng[i]? = some a) (hv : Vis sg a)
    (ha : PA ((cxOf CXg P w K mg base Ng qg sg g cdg A stk s H Eg).wish Ew) (e :: es) t) (he : starEach (e :: es) (envOfC qg sg s.heap.objs.size g cdg) = (false, eval e (envOfC qg sg s.heap.objs.size g cdg)) :: starEach es (envOfC qg sg s.heap.objs.size g cdg) := by rfl) (hpl : (backTo p2 (starEach es (envOfC qg sg s.heap.objs.size g cdg))).any (·.1) = false := by rfl)
    (hd : (a == ("__debug__" : Str)) = false := by decide) (hcd : (a == ("__classdict__" : Str)) = false := by decide) :
    PE ((cxOf CXg P w K mg base Ng qg sg g cdg A stk s H Eg).wish Ew) (.Call (.Name a p1) (e :: es) [] p2) (tVis i f Pf sp E t) := by
  constructor
  rintro pinsZ sZ σZ HZ Q IZ ⟨hs, hp, ht⟩
  refine wpAny_Call_Name_kw (thn ((pe_var (pos := p1) (i := i) hN hv hd hcd).run pinsZ sZ σZ HZ (fun v H1 => v = .ref f ∧ H1 = HZ) IZ ⟨.ref f, hs, rfl, rfl⟩) ?_)
  rintro u s1 ⟨v, H1, I1, r1, rfl, rfl⟩
  cases (show u = Value.ref f from r1)
  refine PySem.W.callWith_F (first := []) (V.fn _ _ I1.hok hp) (thn (ha.run p2 pinsZ s1 σZ H1 _ I1 ht) ?_) he hpl
  rintro us s2 ⟨vs, H2, I2, r2, hp2, q⟩
  refine ⟨V.fn _ _ I2.hok hp2, ?_⟩
  show wpAny _ _ (call (.ref f) us) _ _ _
  refine wpAny_call (codeAny_mono (V.run _ _ s2 H2 us vs Q E hr I2.env0 (show Un (frs stk) [] H H2 s.heap s2.heap from I2.base) hp2 r2 q) fun r s' hq => ?_)
  cases r with
  | error e => exact hx pinsZ σZ H2 s2 e s' I2 hq
  | ok fl =>
    cases fl with
    | ret u => exact I2.after hq
    | next => exact False.elim hq
    | brk => exact False.elim hq
    | cont => exact False.elim hq
/-! a lambda with one parameter as a visitor *-/
structure LamS1 (sc scope : Scope) (p : Str) : Prop where
  kind : scope.kind = .function
  co : scope.isCoroutine = false
  gen : scope.isGenerator = false
  par : scope.names.lookup p = some .local
  own : ∀ y ∈ scope.names, y.2 ≠ .cell ∧ (y.2 = .local → y.1 = p)
  free : ∀ y ∈ scope.names, y.2 = .free → sc.names.lookup y.1 = some .cell ∨ sc.names.lookup y.1 = some .free
def lamS1B (sc scope : Scope) (p : Str) : Bool :=
  decide (scope.kind = .function) && !scope.isCoroutine && !scope.isGenerator && decide (scope.names.lookup p = some .local) && scope.names.all fun y => !decide (y.2 = .cell) && (!decide (y.2 = .local) || decide (y.1 = p)) && (!decide (y.2 = .free) || decide (sc.names.lookup y.1 = some .cell) || decide (sc.names.lookup y.1 = some .free))
theorem lamS1_by {sc scope : Scope} {p : Str} (h : lamS1B sc scope p = true) : LamS1 sc scope p := by
  unfold lamS1B at h
  simp only [Bool.and_eq_true, Bool.or_eq_true, Bool.not_eq_true', decide_eq_true_eq, decide_eq_false_iff_not, List.all_eq_true] at h
  obtain ⟨⟨⟨⟨h1, h2⟩, h3⟩, h5⟩, h4⟩ := h
  refine ⟨h1, h2, h3, h5, fun y hy => ⟨(h4 y hy).1.1, fun e => ?_⟩, fun y hy e => ?_⟩
  · rcases (h4 y hy).1.2 with z | z
    · exact absurd e z
    · exact z
  · rcases (h4 y hy).2 with (z | z) | z
    · exact absurd e z
    · exact .inl z
    · exact .inr z
theorem LamS1.has {X : Cx} {scope : Scope} {p : Str} (L : LamS1 X.env.scope scope p) (ok : X.Ok) : ∀ y ∈ scope.names, y.2 = .free → ∃ c, X.env.cells.lookup y.1 = some c := fun y hy e => by
  rcases L.free y hy e with k | k
  · exact ok.has _ (.inl k)
  · exact ok.has _ (.inr k)
section
variable {X : Cx} {pins : List (Addr × Obj)} {σ : L2.St} {H HZ : Hp} {s s1 : Shared}
theorem lam_start1 {A : Around} {outer : List Env} {E : XK} {scope : Scope} {f c' : Addr} {h₁ : Heap} {tk j : Nat} {p : Str} {v : V} {u : Value} (I : Inv X pins σ H s) (L : LamS1 X.env.scope scope p) (hj : X.N[j]? = some p) (nd : X.N.Nodup) (rv : RelV v u) (e0 : Env0 X.prog X.w X.K X.mg X.base A outer s1 HZ) (hd : A.handled = none)
    (un : Un (frs X.stack) [] H HZ s.heap s1.heap) (hns : h₁.Ns s1.heap.objs.size fun y => ([(p, u)] : List (Str × Value)).reverse.lookup y) (kp : ∀ b o, s1.heap.get? b = some o → h₁.get? b = some o) :
    Inv (lamCx X A outer s1 HZ E scope f c') [] (σ.set j (some v)) HZ { s1 with heap := h₁, toks := tk } := by
  have hfree := L.has I.ok
  have cm : ∀ {y c}, (cloFrom X.env.cells scope.names []).lookup y = some c → X.env.cells.lookup y = some c := fun {y c} e => by
    rcases cloFrom_mem (PySem.mem_of_lookup e) with hm | ⟨h1, h2⟩
    · cases hm
    · obtain ⟨c1, hc⟩ := hfree _ h1 rfl
      have hc : X.env.cells.lookup y = some c1 := hc
      have e2 : c = c1 := by
        rw [h2, hc] <;> rfl
      rw [e2]
      exact hc
  have look : ∀ {y}, scope.names.lookup y = some .free → ∃ c, (cloFrom X.env.cells scope.names []).lookup y = some c := fun {y} hl => by
    have hy : (y, NameKind.free) ∈ scope.names := PySem.mem_of_lookup hl
    exact mem_lookup (cloFrom_has (cells := X.env.cells) (acc := []) hy)
  have cellK : ∀ {c : Addr} {v : Option Value}, H c = none → s.heap.IsCell c v → h₁.IsCell c v := fun {c v} n ⟨o, ho, hd⟩ => by
    obtain ⟨sl, q⟩ := un.any ho n (by simp)
    exact ⟨_, kp _ _ q, hd⟩
  have noA : ∀ b : Addr, b ∉ (lamCx X A outer s1 HZ E scope f c').ex := fun b z => absurd (show b ∈ ([] : List Addr) from z) (by simp)
  refine ⟨⟨e0.mod, L.kind, rfl, rfl, Nat.le_refl _, fun y z c e1 e2 => I.ok.inj y z c (cm e1) (cm e2), fun y hy => ?_, fun y c z _ => ?_, fun _ => hd, Around.frames_deeper e0.frames, .inr ⟨rfl, rfl⟩, fun b z => absurd z (noA b), e0.bs, e0.bsz, fun b _ _ => noA b,
      fun b z => absurd z (noA b), e0.funs, e0.frf⟩,
    rfl, e0.bare, Un.kept kp, ⟨_, hns, fun i y v' e1 e2 e3 => ?_⟩, fun y c e => ?_, e0.hok.fresh (Nat.le_refl _), fun y c e => ?_, fun q hq => absurd (show q ∈ ([] : List (Addr × Obj)) ++ [] from hq) (by simp), e0.hok.kept kp, by rw [List.length_set]; exact I.len⟩
  · have hy : scope.names.lookup y = some .cell ∨ scope.names.lookup y = some .free := hy
    rcases hy with hy | hy
    · exact absurd rfl (L.own _ (PySem.mem_of_lookup hy)).1
    · exact look hy
  · have z : false = true := z
    cases z
  · have e3 : Vis scope y := e3
    have e1 : X.N[i]? = some y := e1
    rcases e3 with k | k | k
    · have ey : y = p := (L.own _ (PySem.mem_of_lookup k)).2 rfl
      subst ey
      have hij : i = j := nodup_ix nd e1 hj
      subst hij
      have hi : i < σ.length := by rw [I.len]; exact (List.getElem?_eq_some_iff.mp e1).1
      rw [List.getElem?_set_self hi] at e2
      cases e2
      exact ⟨u, rv, .inl ⟨k, by simp⟩⟩
    · exact absurd rfl (L.own _ (PySem.mem_of_lookup k)).1
    · have ne : y ≠ p := fun z => by
        rw [z, L.par] at k
        cases k
      have hij : j ≠ i := fun z => ne (by rw [← z, hj] at e1; exact (Option.some.inj e1).symm)
      rw [List.getElem?_set_ne hij] at e2
      obtain ⟨m, hn, hl⟩ := I.loc
      have hvis : Vis X.env.scope y := (L.free _ (PySem.mem_of_lookup k) rfl).elim (fun k => .inr (.inl k)) (fun k => .inr (.inr k))
      obtain ⟨w', r, q⟩ := hl i y v' e1 e2 hvis
      obtain ⟨c2, h2⟩ := look k
      refine ⟨w', r, .inr ⟨.inr k, c2, h2, ?_⟩⟩
      have c1 := cm h2
      rcases q with ⟨k', _⟩ | ⟨_, c3, e', z⟩
      · have k' : X.env.scope.names.lookup y = some .local := k'
        rcases L.free _ (PySem.mem_of_lookup k) rfl with k2 | k2 <;> rw [show X.env.scope.names.lookup y = _ from k2] at k' <;> cases k'
      · rw [c1] at e'
        cases e'
        exact cellK (I.freeC y _ c1) z
  · obtain ⟨w', z⟩ := I.cell y c (cm e)
    exact ⟨w', cellK (I.freeC y c (cm e)) z⟩
  · obtain ⟨v, o, ho, hd⟩ := I.cell y c (cm e)
    exact un.free c o ho (I.freeC y c (cm e)) (by simp)
/-- what stands of a lambda -/
def LamAt (q : Str) (cells : List (Str × Addr)) (params : Arguments) (body : Expr) (scope : Scope) (f c' : Addr) (H : Hp) : Prop := H f = some (LamO q cells params body scope c' f) ∧ H c' = some (CodeO c' (q ++ "<lambda>"))
theorem visP_lam {scope : Scope} {f c' : Addr} {params : Arguments} {body : Expr} {j k : Nat} {p : Str} {t : XK → TE} (I : Inv X pins σ H s) (L : LamS1 X.env.scope scope p) (hj : X.N[j]? = some p) (nd : X.N.Nodup)
    (hbind : ∀ (q : Str) (cl : List (Str × Addr)) (pm cv ctv u : Value), bindArgs (PySem.W.kla_fn "<lambda>" q params body scope cl pm cv ctv) ⟨[u], []⟩ = pure [(p, u)])
    (hbody : ∀ (A : Around) (outer : List Env) (s : Shared) (H : Hp) (E : XK), Room k (A.deeper (lamEnv X scope s.heap.objs.size f c')) → PE (lamCx X A outer s H E scope f c') body (t E)) :
    VisP X.prog X.w X.K X.mg X.base (k + 1) f X.stack H s (LamAt X.env.qual X.env.cells params body scope f c') (fun vs HZ Q E => ∃ v, vs = [v] ∧ t E (σ.set j (some v)) HZ Q) := by
  refine ⟨fun H' h hok hp => ?_, fun A outer s1 H1 us vs Q E hr e0 un hp r q => ?_⟩
  · obtain ⟨pm, ctv, of1⟩ := (hok f _ hp.1).1
    exact ⟨_, _, _, _, of1⟩
  · obtain ⟨v, rfl, ht⟩ := q
    obtain ⟨u, rfl, rv⟩ : ∃ u, us = [u] ∧ RelV v u := by
      cases r with
      | cons a b =>
        cases b
        exact ⟨_, rfl, a⟩
    obtain ⟨pm, ctv, of1⟩ := (e0.hok f _ hp.1).1
    obtain ⟨oc, us, tt, oc1, oc2, oc3⟩ := (e0.hok c' _ hp.2).1
    have lim : s1.heap.NoLimit := e0.mod.nolimit.keeps fun b o e => (e0.bs b o e).1
    refine PySem.W.kla_callFunE hr.depth of1 rfl L.co L.gen rfl ⟨c', oc, us, tt, rfl, oc1, oc2, oc3⟩ ?_
    rw [hbind]
    refine wpAny_pure (wpAny_newFunctionEnv (fun y hy => (L.own y hy).1) (fun y hy => ?_) (fun h₁ hns hsb => ⟨lim.fresh _ hsb, ?_⟩) L.kind)
    · rw [List.mem_singleton] at hy
      rw [hy]
      exact L.par
    have kp : ∀ b o, s1.heap.get? b = some o → h₁.get? b = some o := fun b o e => hsb.extBut b o (Nat.ne_of_lt (Heap.lt_size e)) (Heap.get?_push_of_some _ e)
    have J : Inv (lamCx X A outer s1 H1 E scope f c') [] (σ.set j (some v)) H1 { s1 with heap := h₁, toks := s1.toks + ([(p, u)] : List (Str × Value)).length } :=
      lam_start1 I L hj nd rv e0 hr.hd un hns kp
    refine PySem.W.kla_codeExpr (wpAny_mono ((hbody A outer s1 H1 E (hr.deeper _)).run [] _ _ H1 Q J ht) ?_ fun _ _ z => z)
    rintro v s' ⟨w', H', J', rv, q⟩
    exact ⟨w', H', J'.os, J'.bare, J'.base, J'.hok, rv, q⟩
end
/-! a method called with a lambda of one parameter *-/
def ActV (X : Cx) (kv : Nat) (Ng : List Str) (q : Str) (sg : Scope) (g : Addr) (bg : List Stmt) (C : Addr) (TT : (Hp → Prop) → Addr → Sp → XK → Hp → VK → Prop) : Prop :=
  ∀ (cdg : Value) (a dx f : Addr) (fs : List (Str × V)) (s : Shared) (H : Hp) (Q : VK) (Pf : Hp → Prop) (sp : Sp) (E : XK), (Room (kv + 1) (X.A.deeper (envOfC q sg s.heap.objs.size g cdg))) → VisP X.prog X.w X.K X.mg X.base kv f X.stack H s Pf sp → Pf H → H a = some (.ins C dx fs) → TT Pf a sp E H Q →
    ∃ t, PSs (cxOf (L2.CX X.prog X.w) X.prog X.w X.K X.mg X.base Ng q sg g cdg X.A X.stack s H E) bg t ∧ t { nx := fun _ H' => Q .non H', rt := Q } (L2.start Ng [.ref a, .ref f]) H
def kActM (q : Str) (cells : List (Str × Addr)) (params : Arguments) (body : Expr) (scope : Scope) (j : Nat) (t : XK → TE) (TT : (Hp → Prop) → Addr → Sp → XK → Hp → VK → Prop) (a : Addr) (C : Addr) (E : XK) (σ : L2.St) (Q : VK) (v : V) (H : Hp) : Prop :=
  ∃ f c' dx fs, v = .ref f ∧ LamAt q cells params body scope f c' H ∧ H a = some (.ins C dx fs) ∧ TT (LamAt q cells params body scope f c') a (fun vs HZ Q E => ∃ v, vs = [v] ∧ t E (σ.set j (some v)) HZ Q) E H Q
def kObjM (C : Addr) (m : Str) (te : TE) (k : Addr → V → Hp → Prop) (σ : L2.St) (v : V) (H : Hp) : Prop := ∃ a dx fs, v = .ref a ∧ H a = some (.ins C dx fs) ∧ fs.lookup m = none ∧ te σ H (k a)
def tActM (C : Addr) (m : Str) (q : Str) (cells : List (Str × Addr)) (params : Arguments) (body : Expr) (scope : Scope) (j : Nat) (t : XK → TE) (TT : (Hp → Prop) → Addr → Sp → XK → Hp → VK → Prop) (E : XK) (to te : TE) : TE := fun σ H Q =>
  to σ H (kObjM C m te (fun a => kActM q cells params body scope j t TT a C E σ Q) σ)
theorem pe_actV {X : Cx} {TT : (Hp → Prop) → Addr → Sp → XK → Hp → VK → Prop} {x qn a0 a1 m : Str} {C g : Addr} {k j : Nat} {pg : Arguments} {bg : List Stmt} {sg : Scope} {fd : FuncData} {Ng : List Str} {o : Expr} {params : Arguments} {body : Expr} {scope : Scope} {pn : Str} {t : XK → TE} {to te : TE} {E : XK} {apos pos lpos : Pos} {pl : Sem Bool}
    (F : FunD X.K x qn pg bg sg [] [] g fd) (b : Binds X.K fd [a0, a1] []) (Sg : FnScope Ng [a0, a1] sg) (hG : ActV X (k + 1) Ng qn sg g bg C TT) (hr : Room (k + 3) X.A) (cl : Cls X.K C) (hm : Meth X.K C m g) (hx : Passes (L2.CX X.prog X.w) X E)
    (L : LamS1 X.env.scope scope pn) (hj : X.N[j]? = some pn) (nd : X.N.Nodup) (hbind : ∀ (q : Str) (cl : List (Str × Addr)) (pm cv ctv u : Value), bindArgs (PySem.W.kla_fn "<lambda>" q params body scope cl pm cv ctv) ⟨[u], []⟩ = pure [(pn, u)])
    (hbody : ∀ (A : Around) (outer : List Env) (s : Shared) (H : Hp) (E : XK) (f c' : Addr), Room k (A.deeper (lamEnv X scope s.heap.objs.size f c')) → PE (lamCx X A outer s H E scope f c') body (t E))
    (ho : PE X o to) (he : PE X (.Lambda params body scope lpos) te)
    (hst : starEach [.Lambda params body scope lpos] X.env = (false, eval (.Lambda params body scope lpos) X.env) :: starEach [] X.env := by rfl) (hpl : (backTo pos (starEach [] X.env)).any (·.1) = false := by rfl)
    (ht : eval (.Call (.Attribute o m apos) [.Lambda params body scope lpos] [] pos) X.env = (do
      let ov ← eval o X.env
      standAt apos.atName
      let (f, first) ← holding [ov] (getMethod ov m pl)
      callWith pos f first (backTo pos (starEach [.Lambda params body scope lpos] X.env)) (backToKw pos (keywordEach [] X.env))) := by rfl) :
    PE X (.Call (.Attribute o m apos) [.Lambda params body scope lpos] [] pos) (tActM C m X.env.qual X.env.cells params body scope j t TT E to te) := by
  obtain ⟨oc, od, dV, kV, doc, pm, an, cdv, ct, osl, rfl, lk, hcd', _, _⟩ := F.ex
  refine ⟨fun pins s σ H Q I h => ?_⟩
  refine PySem.W.methodCall_KW (pl := pl) (thn (ho.run pins s σ H _ I h) fun u s1 ⟨x, H1, I1, rx, a, dx, fs, ex, ea, l, q⟩ => ?_) ht
  subst ex
  obtain rfl : u = Value.ref a := rx
  refine getmeth_ok I1 ea cl hm l ?_
  refine PySem.W.callWith_K (first := [.ref a]) (h₀ := X.base) I.ok.mod.kin hm.kp ?_ hst hpl
  rw [hst]
  show wpAny _ _ (spliced ((false, eval (.Lambda params body scope lpos) X.env) :: backTo pos (starEach [] X.env))) _ _ s1
  refine Calls.spliced_cons (thn (he.run pins s1 σ H1 _ I1 q) ?_)
  rintro u s2 ⟨v, H2, I2, r2, f, c', dx2, fs2, rfl, lm, ha2, tt⟩
  cases (show u = Value.ref f from r2)
  refine Calls.spliced_nil ⟨I2.kIn, ?_⟩
  have rv : Vals [V.ref a, .ref f] [Value.ref a, .ref f] := .cons rfl (.cons rfl .nil)
  refine wpAny_call (codeAny_mono (run_ofS (CX := L2.CX X.prog X.w) (E := E) (Q := Q) (N := Ng) (ps := [a0, a1]) (us := [.ref a, .ref f]) (vs := [.ref a, .ref f]) lk hcd' Sg hr I2.env0 (hb := b s2 [.ref a, .ref f] I2.kIn rfl) rv rfl fun hr' => ?_) fun r s' hq => ?_)
  · exact hG cdv a dx2 f fs2 s2 H2 Q _ _ E hr' (visP_lam I2 L hj nd hbind fun A outer s H E hr2 => hbody A outer s H E f c' hr2) lm ha2 tt
  cases r with
  | error e => exact hx pins σ H2 s2 e s' I2 hq
  | ok fl =>
    cases fl with
    | ret u => exact I2.after hq
    | next => exact False.elim hq
    | brk => exact False.elim hq
    | cont => exact False.elim hq
theorem pe_lamP {X : Cx} {T : List (Addr × Str)} {c P : Addr} {params : Arguments} {body : Expr} {scope : Scope} {pn : Str} {pos : Pos} (TB : TabB X.base X.mg c P) (hcode : X.env.code = .ref c) (ok : ∀ {pins σ H s}, Inv X pins σ H s → X.Ok) (L : LamS1 X.env.scope scope pn)
    (hm : (P, X.env.qual ++ "<lambda>") ∈ T) (hu : ∀ p ∈ T, p.1 = P → p.2 = X.env.qual ++ "<lambda>") (hdef : defaultsOf params X.env = ([], [])) : PE X (.Lambda params body scope pos) (tLamV T X.env.qual X.env.cells params body scope) := by
  constructor
  intro pins s σ H Q I h
  exact lam_hold I TB hcode hm hu h.1 hdef (L.has (ok I)) fun f c' H1 s' I1 md => ⟨.ref f, H1, I1, rfl, h.2 f c' H1 md⟩
theorem pe_lam1P {X : Cx} {xs : List Str} {x pn : Str} {params : Arguments} {body : Expr} {scope : Scope} {pos : Pos} {cdv : Value} (D : Mkr X.K X.mg X.base xs x) (hc : cdOf X.K (He.ga X.K x) = cdv) (he : X.env.code = cdv) (hq : X.env.qual = x ++ ".<locals>.") (ok : ∀ {pins σ H s}, Inv X pins σ H s → X.Ok) (L : LamS1 X.env.scope scope pn)
    (hdef : defaultsOf params X.env = ([], [])) : PE X (.Lambda params body scope pos) (tLamV (lamT X.K xs) X.env.qual X.env.cells params body scope) :=
  pe_lamP D.tb (he.trans (hc.symm.trans D.cd)) ok L (by rw [hq]; exact lamT_m D.mem) (by rw [hq]; exact lamT_u D.nd D.mem) hdef
section
variable {C a dx : Addr} {m : Str} {q : Str} {cells : List (Str × Addr)} {params : Arguments} {body : Expr} {scope : Scope} {j : Nat} {t : XK → TE} {TT : (Hp → Prop) → Addr → Sp → XK → Hp → VK → Prop} {E : XK} {to te : TE} {σ : L2.St} {H : Hp} {Q : VK} {fs : List (Str × V)} {k : Addr → V → Hp → Prop}
instance : Step (tActM C m q cells params body scope j t TT E to te σ H Q) (to σ H (kObjM C m te (fun a => kActM q cells params body scope j t TT a C E σ Q) σ)) := ⟨fun h => h⟩
theorem g_kobj (h : H a = some (.ins C dx fs)) (hl : fs.lookup m = none) (q : te σ H (k a)) : kObjM C m te k σ (.ref a) H := ⟨a, dx, fs, rfl, h, hl, q⟩
end
end AF
/-! sets of counts, told by pairs: the mathematics -/
namespace ST
abbrev Pr := Int × Option Int
def inP (x : Int) (p : Pr) : Prop := p.1 ≤ x ∧ ∀ h, p.2 = some h → x ≤ h
def Ok (p : Pr) : Prop := 0 ≤ p.1 ∧ ∀ h, p.2 = some h → p.1 ≤ h
def sem (ps : List Pr) (x : Int) : Prop := ∃ p, p ∈ ps ∧ inP x p
theorem sem_nil {x : Int} : sem [] x ↔ False := ⟨fun ⟨_, h, _⟩ => (nomatch h), False.elim⟩
theorem sem_cons {p : Pr} {r : List Pr} {x : Int} : sem (p :: r) x ↔ inP x p ∨ sem r x := by
  constructor
  · rintro ⟨q, hq, h⟩
    rcases List.mem_cons.mp hq with e | e
    · exact .inl (e ▸ h)
    · exact .inr ⟨q, e, h⟩
  · rintro (h | ⟨q, hq, h⟩)
    · exact ⟨p, List.mem_cons_self, h⟩
    · exact ⟨q, List.mem_cons_of_mem _ hq, h⟩
theorem sem_append {a b : List Pr} {x : Int} : sem (a ++ b) x ↔ sem a x ∨ sem b x := by
  constructor
  · rintro ⟨q, hq, h⟩
    rcases List.mem_append.mp hq with e | e
    · exact .inl ⟨q, e, h⟩
    · exact .inr ⟨q, e, h⟩
  · rintro (⟨q, hq, h⟩ | ⟨q, hq, h⟩)
    · exact ⟨q, List.mem_append_left _ hq, h⟩
    · exact ⟨q, List.mem_append_right _ hq, h⟩
/-- p ends well before q -/
def Bef (p q : Pr) : Prop := ∃ h, p.2 = some h ∧ h + 1 < q.1
inductive Canon : List Pr → Prop
  | nil : Canon []
  | one {p : Pr} : Ok p → Canon [p]
  | cons {p q : Pr} {r : List Pr} : Ok p → Bef p q → Canon (q :: r) → Canon (p :: q :: r)
theorem Canon.ok {p : Pr} {r : List Pr} (c : Canon (p :: r)) : Ok p := by
  cases c <;> assumption
theorem Canon.tail {p : Pr} {r : List Pr} (c : Canon (p :: r)) : Canon r := by
  cases c with
  | one => exact .nil
  | cons _ _ h => exact h
theorem Canon.oks : ∀ {l : List Pr}, Canon l → ∀ p, p ∈ l → Ok p
  | _ :: _, c, p, h => by
    rcases List.mem_cons.mp h with e | e
    · exact e ▸ c.ok
    · exact c.tail.oks p e
theorem Canon.lo : ∀ {r : List Pr} {p : Pr} {x : Int}, Canon (p :: r) → sem (p :: r) x → p.1 ≤ x
  | [], p, x, _, s => by
    rcases sem_cons.mp s with h | h
    · exact h.1
    · exact (sem_nil.mp h).elim
  | q :: r, p, x, c, s => by
    rcases sem_cons.mp s with h | h
    · exact h.1
    · cases c with
      | cons ok bf c' =>
        have := c'.lo h
        obtain ⟨e, he, hb⟩ := bf
        have := ok.2 e he
        omega
theorem Canon.sep {r : List Pr} {p : Pr} {x : Int} (c : Canon (p :: r)) (s : sem r x) : ∃ h, p.2 = some h ∧ h + 1 < x := by
  cases c with
  | one => exact (sem_nil.mp s).elim
  | cons ok bf c' =>
    have := c'.lo s
    obtain ⟨e, he, hb⟩ := bf
    exact ⟨e, he, by omega⟩
theorem in_low {p : Pr} (h : Ok p) : inP p.1 p := ⟨Int.le_refl _, h.2⟩
theorem Canon.nn {l : List Pr} {x : Int} (c : Canon l) (s : sem l x) : 0 ≤ x := by
  obtain ⟨p, hp, h⟩ := s
  have := (c.oks p hp).1
  have := h.1
  omega
theorem Canon.rest {r : List Pr} {p : Pr} {x : Int} (c : Canon (p :: r)) : sem r x ↔ sem (p :: r) x ∧ ¬ inP x p := by
  constructor
  · intro s
    obtain ⟨h, e, hb⟩ := c.sep s
    exact ⟨sem_cons.mpr (.inr s), fun i => by have := i.2 h e; omega⟩
  · rintro ⟨s, n⟩
    rcases sem_cons.mp s with h | h
    · exact absurd h n
    · exact h
theorem canon_uniq : ∀ {a b : List Pr}, Canon a → Canon b → (∀ x, sem a x ↔ sem b x) → a = b
  | [], [], _, _, _ => rfl
  | [], q :: t, _, cb, h => (sem_nil.mp ((h q.1).mpr (sem_cons.mpr (.inl (in_low cb.ok))))).elim
  | p :: r, [], ca, _, h => (sem_nil.mp ((h p.1).mp (sem_cons.mpr (.inl (in_low ca.ok))))).elim
  | p :: r, q :: t, ca, cb, h => by
    have l1 : q.1 ≤ p.1 := cb.lo ((h p.1).mp (sem_cons.mpr (.inl (in_low ca.ok))))
    have l2 : p.1 ≤ q.1 := ca.lo ((h q.1).mpr (sem_cons.mpr (.inl (in_low cb.ok))))
    have l3 : p.1 = q.1 := by omega
    have gap : ∀ {p : Pr} {r : List Pr} {e : Int}, Canon (p :: r) → p.2 = some e → ¬ sem (p :: r) (e + 1) := fun {p r e} c he s => by
      rcases sem_cons.mp s with i | i
      · have := i.2 e he; omega
      · obtain ⟨e', he', hb⟩ := c.sep i
        rw [he] at he'
        cases he'
        omega
    have le : p.2 = q.2 := by
      cases hp : p.2 with
      | none =>
        cases hq : q.2 with
        | none => rfl
        | some e =>
          have := cb.ok.2 e hq
          exact absurd ((h (e + 1)).mp (sem_cons.mpr (.inl ⟨by omega, fun h' e' => by rw [hp] at e'; cases e'⟩))) (gap cb hq)
      | some e =>
        have o1 := ca.ok.2 e hp
        cases hq : q.2 with
        | none => exact absurd ((h (e + 1)).mpr (sem_cons.mpr (.inl ⟨by omega, fun h' e' => by rw [hq] at e'; cases e'⟩))) (gap ca hp)
        | some e2 =>
          have o2 := cb.ok.2 e2 hq
          by_cases c1 : e < e2
          · exact absurd ((h (e + 1)).mpr (sem_cons.mpr (.inl ⟨by omega, fun h' e' => by rw [hq] at e'; cases e'; omega⟩))) (gap ca hp)
          · by_cases c2 : e2 < e
            · exact absurd ((h (e2 + 1)).mp (sem_cons.mpr (.inl ⟨by omega, fun h' e' => by rw [hp] at e'; cases e'; omega⟩))) (gap cb hq)
            · rw [show e = e2 by omega]
    have epq : p = q := Prod.ext l3 le
    subst epq
    rw [canon_uniq ca.tail cb.tail fun x => by rw [ca.rest, cb.rest, h x]]
/-! joining: sorted lows beside sorted highs -/
def loB (x : Int) (p : Pr) : Bool := decide (p.1 ≤ x)
def hiB (x : Int) (p : Pr) : Bool := match p.2 with
  | some h => decide (h < x)
  | none => false
theorem hi_lo {x : Int} {p : Pr} (o : Ok p) (h : hiB (x + 1) p = true) : loB x p = true := by
  unfold hiB at h
  unfold loB
  cases e : p.2 with
  | none => rw [e] at h; cases h
  | some u =>
    rw [e] at h
    have h := of_decide_eq_true h
    have := o.2 u e
    exact decide_eq_true (by omega)
theorem in_iff {x : Int} {p : Pr} : inP x p ↔ loB x p = true ∧ hiB x p = false := by
  unfold inP loB hiB
  cases e : p.2 with
  | none => simp
  | some u => simp [Int.not_lt]
theorem hi_mono {x : Int} {p : Pr} (h : hiB x p = true) : hiB (x + 1) p = true := by
  unfold hiB at h ⊢
  cases e : p.2 with
  | none => rw [e] at h; cases h
  | some u =>
    rw [e] at h
    have h := of_decide_eq_true h
    exact decide_eq_true (by omega)
theorem counts {x : Int} : ∀ {ps : List Pr}, (∀ p, p ∈ ps → Ok p) → ps.countP (hiB x) ≤ ps.countP (loB x) ∧ (sem ps x ↔ ps.countP (hiB x) < ps.countP (loB x))
  | [], _ => by simp [sem_nil]
  | p :: r, o => by
    have ih := counts (x := x) (ps := r) fun q h => o q (List.mem_cons_of_mem _ h)
    have op := o p List.mem_cons_self
    rw [List.countP_cons, List.countP_cons, sem_cons, in_iff, ih.2]
    have hl := fun z => hi_lo (x := x) op (hi_mono z)
    cases e1 : hiB x p <;> cases e2 : loB x p
    · simp; omega
    · simp; omega
    · rw [hl e1] at e2; cases e2
    · simp; omega
theorem counts2 {x : Int} : ∀ {ps : List Pr}, (∀ p, p ∈ ps → Ok p) → ps.countP (hiB (x + 1)) ≤ ps.countP (loB x)
  | [], _ => by simp
  | p :: r, o => by
    have ih := counts2 (x := x) (ps := r) fun q h => o q (List.mem_cons_of_mem _ h)
    have hl := hi_lo (x := x) (o p List.mem_cons_self)
    rw [List.countP_cons, List.countP_cons]
    cases e1 : hiB (x + 1) p
    · cases e2 : loB x p <;> simp <;> omega
    · rw [hl e1]; simp; omega
theorem cnt_lo {x : Int} (ps : List Pr) : ps.countP (loB x) = (ps.map (·.1)).countP fun v => decide (v ≤ x) := by
  rw [List.countP_map]; rfl
theorem cnt_hi {x : Int} : ∀ (ps : List Pr), ps.countP (hiB x) = (ps.filterMap (·.2)).countP fun v => decide (v < x)
  | [] => rfl
  | p :: r => by
    rw [List.countP_cons, cnt_hi r]
    unfold hiB
    cases e : p.2 with
    | none => rw [List.filterMap_cons, e]; simp
    | some u => rw [List.filterMap_cons, e]; simp only [List.countP_cons]
/-- in a sorted list -/
theorem srt_lo {x : Int} : ∀ {L : List Int} {k : Nat}, L.Pairwise (· ≤ ·) → (k < L.countP (fun v => decide (v ≤ x)) ↔ ∃ v, L[k]? = some v ∧ v ≤ x)
  | [], k, _ => by simp
  | v :: r, k, s => by
    rw [List.pairwise_cons] at s
    rw [List.countP_cons]
    by_cases c : v ≤ x
    · rw [if_pos (decide_eq_true c)]
      cases k with
      | zero => simp [c]
      | succ k =>
        rw [List.getElem?_cons_succ, ← srt_lo s.2]
        omega
    · have z : r.countP (fun v => decide (v ≤ x)) = 0 := List.countP_eq_zero.mpr fun u hu => by
        have := s.1 u hu
        simp only [decide_eq_true_eq]; omega
      rw [z]
      simp only [decide_eq_true_eq, c, if_false, Nat.add_zero, Nat.not_lt_zero, false_iff]
      rintro ⟨u, hu, hx⟩
      have : u ∈ v :: r := List.mem_of_getElem? hu
      rcases List.mem_cons.mp this with e | e
      · omega
      · have := s.1 u e; omega
theorem srt_hi {x : Int} {L : List Int} {k : Nat} (s : L.Pairwise (· ≤ ·)) : L.countP (fun v => decide (v < x)) ≤ k ↔ ∀ v, L[k]? = some v → x ≤ v := by
  have e : (fun v : Int => decide (v < x)) = fun v => decide (v ≤ x - 1) := funext fun v => by simp only [decide_eq_decide]; omega
  have h := srt_lo (x := x - 1) (k := k) s
  rw [e]
  constructor
  · intro hk v hv
    by_cases c : x ≤ v
    · exact c
    · have := h.mpr ⟨v, hv, by omega⟩; omega
  · intro hv
    by_cases c : k < L.countP (fun v => decide (v ≤ x - 1))
    · obtain ⟨v, e1, e2⟩ := h.mp c
      have := hv v e1; omega
    · omega
def zp : List Int → List Int → List Pr
  | [], _ => []
  | l :: ls, [] => (l, none) :: zp ls []
  | l :: ls, h :: hs => (l, some h) :: zp ls hs
theorem zp_get : ∀ {L Hs : List Int} {k : Nat} {p : Pr}, (zp L Hs)[k]? = some p ↔ L[k]? = some p.1 ∧ Hs[k]? = p.2
  | [], Hs, k, p => by simp [zp]
  | l :: ls, [], 0, p => by
    obtain ⟨a, b⟩ := p
    simp [zp, eq_comm]
  | l :: ls, [], k + 1, p => by
    show (zp ls [])[k]? = some p ↔ _
    rw [zp_get]; simp
  | l :: ls, h :: hs, 0, p => by
    obtain ⟨a, b⟩ := p
    simp [zp, eq_comm]
  | l :: ls, h :: hs, k + 1, p => by
    show (zp ls hs)[k]? = some p ↔ _
    rw [zp_get]; simp
theorem sem_get {ps : List Pr} {x : Int} : sem ps x ↔ ∃ (k : Nat) (p : Pr), ps[k]? = some p ∧ inP x p := by
  constructor
  · rintro ⟨p, hp, h⟩
    obtain ⟨k, hk⟩ := List.mem_iff_getElem?.mp hp
    exact ⟨k, p, hk, h⟩
  · rintro ⟨k, p, hk, h⟩
    exact ⟨p, List.mem_of_getElem? hk, h⟩
section
variable {ps : List Pr} {L Hs : List Int} (o : ∀ p, p ∈ ps → Ok p) (pL : L.Perm (ps.map (·.1))) (pH : Hs.Perm (ps.filterMap (·.2))) (sL : L.Pairwise (· ≤ ·)) (sH : Hs.Pairwise (· ≤ ·))
include o pL pH sL sH
theorem zp_sem (x : Int) : sem (zp L Hs) x ↔ sem ps x := by
  have c := (counts (x := x) o).2
  rw [cnt_lo, cnt_hi, ← pL.countP_eq, ← pH.countP_eq] at c
  rw [c, sem_get]
  constructor
  · rintro ⟨k, p, hk, i⟩
    obtain ⟨h1, h2⟩ := zp_get.mp hk
    have a := (srt_lo (x := x) sL).mpr ⟨p.1, h1, i.1⟩
    have b := (srt_hi (x := x) (k := k) sH).mpr fun v hv => i.2 v (by rw [← h2, hv])
    omega
  · intro h
    obtain ⟨v, e1, e2⟩ := (srt_lo (x := x) sL).mp h
    have b := (srt_hi (x := x) sH).mp (Nat.le_refl (Hs.countP fun v => decide (v < x)))
    exact ⟨_, (v, Hs[Hs.countP fun v => decide (v < x)]?), zp_get.mpr ⟨e1, rfl⟩, e2, fun u hu => b u hu⟩
theorem zp_ok : ∀ p, p ∈ zp L Hs → Ok p := by
  intro p hp
  obtain ⟨k, hk⟩ := List.mem_iff_getElem?.mp hp
  obtain ⟨h1, h2⟩ := zp_get.mp hk
  refine ⟨?_, fun u hu => ?_⟩
  · obtain ⟨q, hq, e⟩ := List.mem_map.mp (pL.mem_iff.mp (List.mem_of_getElem? h1))
    have := (o q hq).1
    omega
  · have c := counts2 (x := u) o
    rw [cnt_lo, cnt_hi, ← pL.countP_eq, ← pH.countP_eq] at c
    have b : ¬ Hs.countP (fun v => decide (v < u + 1)) ≤ k := fun z => by
      have := (srt_hi sH).mp z u (by rw [h2, hu]); omega
    obtain ⟨v, e1, e2⟩ := (srt_lo (x := u) (k := k) sL).mp (by omega)
    rw [h1] at e1
    cases e1
    exact e2
theorem hs_le : Hs.length ≤ L.length := by
  rw [pL.length_eq, pH.length_eq, List.length_map]
  exact List.length_filterMap_le _ _
end
/-! neighbours joined -/
def After (p q : Pr) : Prop := p.1 ≤ q.1 ∧ ∀ h', q.2 = some h' → ∃ h, p.2 = some h ∧ h ≤ h'
theorem zp_mem1 {L Hs : List Int} {p : Pr} (h : p ∈ zp L Hs) : p.1 ∈ L ∧ ∀ u, p.2 = some u → u ∈ Hs := by
  obtain ⟨k, hk⟩ := List.mem_iff_getElem?.mp h
  obtain ⟨h1, h2⟩ := zp_get.mp hk
  exact ⟨List.mem_of_getElem? h1, fun u hu => List.mem_of_getElem? (h2.trans hu)⟩
theorem zp_srt : ∀ {L Hs : List Int}, L.Pairwise (· ≤ ·) → Hs.Pairwise (· ≤ ·) → (zp L Hs).Pairwise After
  | [], Hs, _, _ => by simp [zp]
  | l :: ls, [], sL, sH => by
    rw [List.pairwise_cons] at sL
    show List.Pairwise After ((l, none) :: zp ls [])
    rw [List.pairwise_cons]
    refine ⟨fun q hq => ⟨sL.1 _ (zp_mem1 hq).1, fun h' e => (nomatch (zp_mem1 hq).2 h' e)⟩, zp_srt sL.2 sH⟩
  | l :: ls, h :: hs, sL, sH => by
    rw [List.pairwise_cons] at sL sH
    show List.Pairwise After ((l, some h) :: zp ls hs)
    rw [List.pairwise_cons]
    exact ⟨fun q hq => ⟨sL.1 _ (zp_mem1 hq).1, fun h' e => ⟨h, rfl, sH.1 _ ((zp_mem1 hq).2 h' e)⟩⟩, zp_srt sL.2 sH.2⟩
def anew (p q : Pr) : Bool := match p.2 with
  | some h => decide (h + 1 < q.1)
  | none => false
def glue (p : Pr) : List Pr → List Pr
  | [] => [p]
  | c :: t => (p.1, c.2) :: t
def grp : List Pr → List Pr
  | [] => []
  | [p] => [p]
  | p :: q :: r => if anew p q = true then p :: grp (q :: r) else glue p (grp (q :: r))
theorem grp_ok : ∀ {p : Pr} {r : List Pr}, (∀ q, q ∈ p :: r → Ok q) → (p :: r).Pairwise After → ∃ e t, grp (p :: r) = (p.1, e) :: t ∧ Canon ((p.1, e) :: t) ∧ (∀ h', e = some h' → ∃ h, p.2 = some h ∧ h ≤ h') ∧ ∀ x, sem ((p.1, e) :: t) x ↔ sem (p :: r) x
  | p, [], o, _ => ⟨p.2, [], rfl, .one (o p List.mem_cons_self), fun h' e => ⟨h', e, Int.le_refl _⟩, fun x => Iff.rfl⟩
  | p, q :: r, o, s => by
    rw [List.pairwise_cons] at s
    obtain ⟨e, t, h1, h2, h3, h4⟩ := grp_ok (p := q) (r := r) (fun u hu => o u (List.mem_cons_of_mem _ hu)) s.2
    have op := o p List.mem_cons_self
    have pq := s.1 q List.mem_cons_self
    unfold grp
    rw [h1]
    by_cases c : anew p q = true
    · rw [if_pos c]
      refine ⟨p.2, (q.1, e) :: t, rfl, .cons op ?_ h2, fun h' e => ⟨h', e, Int.le_refl _⟩, fun x => ?_⟩
      · unfold anew at c
        cases ep : p.2 with
        | none => rw [ep] at c; cases c
        | some u => rw [ep] at c; exact ⟨u, rfl, of_decide_eq_true c⟩
      · rw [sem_cons, h4 x]
        exact sem_cons.symm
    · rw [if_neg c]
      have o2 : Ok (p.1, e) := ⟨op.1, fun u hu => by have := h2.ok.2 u hu; have := pq.1; show p.1 ≤ u; exact Int.le_trans pq.1 (h2.ok.2 u hu)⟩
      refine ⟨e, t, rfl, ?_, fun h' e' => ?_, fun x => ?_⟩
      · cases h2 with
        | one => exact .one o2
        | cons _ bf c' => exact .cons o2 bf c'
      · obtain ⟨h, hq, hl⟩ := h3 h' e'
        obtain ⟨h0, hp, hl2⟩ := pq.2 h hq
        exact ⟨h0, hp, by omega⟩
      · rw [sem_cons, sem_cons (p := p), ← h4 x, sem_cons]
        constructor
        · rintro (i | i)
          · by_cases cx : q.1 ≤ x
            · exact .inr (.inl ⟨cx, i.2⟩)
            · refine .inl ⟨i.1, fun u hu => ?_⟩
              unfold anew at c
              rw [hu] at c
              simp only [decide_eq_true_eq] at c
              omega
          · exact .inr (.inr i)
        · rintro (i | i | i)
          · refine .inl ⟨i.1, fun u hu => ?_⟩
            obtain ⟨h, hq, hl⟩ := h3 u hu
            obtain ⟨h0, hp, hl2⟩ := pq.2 h hq
            have := i.2 h0 hp
            omega
          · exact .inl ⟨Int.le_trans pq.1 i.1, i.2⟩
          · exact .inr i
theorem grp_all {l : List Pr} (o : ∀ q, q ∈ l → Ok q) (s : l.Pairwise After) : Canon (grp l) ∧ ∀ x, sem (grp l) x ↔ sem l x := by
  cases l with
  | nil => exact ⟨.nil, fun _ => Iff.rfl⟩
  | cons p r =>
    obtain ⟨e, t, h1, h2, _, h4⟩ := grp_ok o s
    rw [h1]
    exact ⟨h2, h4⟩
/-! .. by places -/
def saB (L Hs : List Int) (k : Nat) : Bool := decide (k = 0) || (decide (k ≤ Hs.length) && decide (Hs.getD (k - 1) 0 + 1 < L.getD k 0))
def en (Hs : List Int) (g : Nat) : Option Int := if g ≤ Hs.length then some (Hs.getD (g - 1) 0) else none
def res (L Hs : List Int) (n : Nat) : List Nat → List Pr
  | [] => []
  | [s] => [(L.getD s 0, en Hs n)]
  | s :: s' :: r => (L.getD s 0, en Hs s') :: res L Hs n (s' :: r)
theorem zp_len : ∀ {L Hs : List Int}, (zp L Hs).length = L.length
  | [], _ => rfl
  | _ :: ls, [] => congrArg (· + 1) (zp_len (L := ls) (Hs := []))
  | _ :: ls, _ :: hs => congrArg (· + 1) (zp_len (L := ls) (Hs := hs))
theorem en_succ {Hs : List Int} {a : Nat} : en Hs (a + 1) = Hs[a]? := by
  unfold en
  by_cases c : a + 1 ≤ Hs.length
  · rw [if_pos c, Nat.add_sub_cancel, List.getD_eq_getElem?_getD, List.getElem?_eq_getElem (by omega)]; rfl
  · rw [if_neg c, List.getElem?_eq_none (by omega)]
theorem zp_at {L Hs : List Int} {a : Nat} (h : a < L.length) : (zp L Hs).drop a = (L.getD a 0, Hs[a]?) :: (zp L Hs).drop (a + 1) := by
  have e : (zp L Hs)[a]? = some (L.getD a 0, Hs[a]?) := zp_get.mpr ⟨by rw [List.getD_eq_getElem?_getD, List.getElem?_eq_getElem h]; rfl, rfl⟩
  obtain ⟨h1, h2⟩ := List.getElem?_eq_some_iff.mp e
  rw [List.drop_eq_getElem_cons h1, h2]
theorem sa_anew {L Hs : List Int} {a : Nat} : saB L Hs (a + 1) = anew (L.getD a 0, Hs[a]?) (L.getD (a + 1) 0, Hs[a + 1]?) := by
  unfold saB anew
  rw [← en_succ (a := a)]
  unfold en
  by_cases c : a + 1 ≤ Hs.length
  · rw [if_pos c]; simp [c]
  · rw [if_neg c]; simp [c]
theorem res_from {L Hs : List Int} : ∀ (d a : Nat), a + d + 1 = L.length → res L Hs L.length (a :: (List.range' (a + 1) d).filter (saB L Hs)) = grp ((zp L Hs).drop a)
  | 0, a, h => by
    have z : (zp L Hs).drop (a + 1) = [] := List.drop_eq_nil_of_le (by rw [zp_len]; omega)
    rw [zp_at (by omega), z]
    show [(L.getD a 0, en Hs L.length)] = [(L.getD a 0, Hs[a]?)]
    rw [← h, en_succ]
  | d + 1, a, h => by
    have ih := res_from (L := L) (Hs := Hs) d (a + 1) (by omega)
    rw [zp_at (by omega), zp_at (a := a + 1) (by omega)]
    rw [zp_at (a := a + 1) (by omega)] at ih
    unfold grp
    rw [List.range'_succ, List.filter_cons, sa_anew, ← ih]
    by_cases c : anew (L.getD a 0, Hs[a]?) (L.getD (a + 1) 0, Hs[a + 1]?) = true
    · rw [if_pos c, if_pos c]
      show (L.getD a 0, en Hs (a + 1)) :: _ = _
      rw [en_succ]
    · rw [if_neg c, if_neg c]
      cases (List.range' (a + 1 + 1) d).filter (saB L Hs) with
      | nil => rfl
      | cons f r => rfl
theorem res_grp {L Hs : List Int} : res L Hs L.length ((List.range L.length).filter (saB L Hs)) = grp (zp L Hs) := by
  cases e : L.length with
  | zero =>
    have : L = [] := List.length_eq_zero_iff.mp e
    subst this
    rfl
  | succ n =>
    have := res_from (L := L) (Hs := Hs) n 0 (by omega)
    rw [List.drop_zero] at this
    rw [← this, e, List.range_eq_range', List.range'_succ, List.filter_cons, if_pos (show saB L Hs 0 = true from rfl)]
/-- what merged tells -/
theorem merged_ok {ps : List Pr} {L Hs : List Int} (o : ∀ p, p ∈ ps → Ok p) (pL : L.Perm (ps.map (·.1))) (pH : Hs.Perm (ps.filterMap (·.2))) (sL : L.Pairwise (· ≤ ·)) (sH : Hs.Pairwise (· ≤ ·)) :
    Canon (res L Hs L.length ((List.range L.length).filter (saB L Hs))) ∧ ∀ x, sem (res L Hs L.length ((List.range L.length).filter (saB L Hs))) x ↔ sem ps x := by
  rw [res_grp]
  have g := grp_all (zp_ok o pL pH sL sH) (zp_srt sL sH)
  exact ⟨g.1, fun x => (g.2 x).trans (zp_sem o pL pH sL sH x)⟩
/-! both, and the gaps -/
def early (a b : Option Int) : Option Int := match a, b with
  | none, o => o
  | some x, none => some x
  | some x, some y => some (min x y)
def com : List Pr → List Pr → List Pr
  | [], _ => []
  | _ :: _, [] => []
  | p :: a, q :: b =>
    let lo := max p.1 q.1
    let hi := early p.2 q.2
    let rest := if p.2 = hi then com a (q :: b) else com (p :: a) b
    if (∀ h, hi = some h → lo ≤ h) then (lo, hi) :: rest else rest
termination_by a b => a.length + b.length
theorem early_le {a b : Option Int} {x : Int} : (∀ h, early a b = some h → x ≤ h) ↔ (∀ h, a = some h → x ≤ h) ∧ ∀ h, b = some h → x ≤ h := by
  cases a with
  | none => cases b <;> simp [early]
  | some u =>
    cases b with
    | none => simp [early]
    | some v =>
      simp only [early, Option.some.injEq, forall_eq']
      omega
theorem max_le' {a b x : Int} : max a b ≤ x ↔ a ≤ x ∧ b ≤ x := by omega
theorem in_both {p q : Pr} {x : Int} : inP x (max p.1 q.1, early p.2 q.2) ↔ inP x p ∧ inP x q := by
  unfold inP
  rw [max_le', early_le]
  constructor
  · rintro ⟨⟨a, b⟩, c, d⟩
    exact ⟨⟨a, c⟩, b, d⟩
  · rintro ⟨⟨a, c⟩, b, d⟩
    exact ⟨⟨a, b⟩, c, d⟩
theorem com_ok : ∀ (a b : List Pr), Canon a → Canon b → (∀ x, sem (com a b) x ↔ sem a x ∧ sem b x) ∧ ∀ p, p ∈ com a b → Ok p
  | [], b, _, _ => by
    unfold com
    exact ⟨fun x => by simp [sem_nil], fun p h => nomatch h⟩
  | p :: a, [], _, _ => by
    unfold com
    exact ⟨fun x => by simp [sem_nil], fun p h => nomatch h⟩
  | p :: a, q :: b, ca, cb => by
    have key : ∀ rest : List Pr, (∀ x, sem rest x ↔ if p.2 = early p.2 q.2 then sem a x ∧ sem (q :: b) x else sem (p :: a) x ∧ sem b x) → (∀ u, u ∈ rest → Ok u) →
        (∀ x, sem (if (∀ h, early p.2 q.2 = some h → max p.1 q.1 ≤ h) then (max p.1 q.1, early p.2 q.2) :: rest else rest) x ↔ sem (p :: a) x ∧ sem (q :: b) x) ∧
        ∀ u, u ∈ (if (∀ h, early p.2 q.2 = some h → max p.1 q.1 ≤ h) then (max p.1 q.1, early p.2 q.2) :: rest else rest) → Ok u := by
      intro rest hr ho
      have head : ∀ x, sem (if (∀ h, early p.2 q.2 = some h → max p.1 q.1 ≤ h) then (max p.1 q.1, early p.2 q.2) :: rest else rest) x ↔ (inP x p ∧ inP x q) ∨ sem rest x := fun x => by
        by_cases c : ∀ h, early p.2 q.2 = some h → max p.1 q.1 ≤ h
        · rw [if_pos c, sem_cons, in_both]
        · rw [if_neg c]
          constructor
          · exact .inr
          · rintro (i | i)
            · have i := in_both.mpr i
              exact absurd (fun h e => Int.le_trans i.1 (i.2 h e)) c
            · exact i
      refine ⟨fun x => ?_, fun u hu => ?_⟩
      · rw [head x, hr x, sem_cons (p := p) (r := a), sem_cons (p := q) (r := b)]
        by_cases c : p.2 = early p.2 q.2
        · rw [if_pos c]
          have no : inP x p → sem b x → False := fun i s => by
            obtain ⟨h, e, hb⟩ := cb.sep s
            rw [e] at c
            cases ep : p.2 with
            | none => rw [ep] at c; cases c
            | some u =>
              rw [ep] at c
              have c : u = min u h := Option.some.inj c
              have := i.2 u ep
              omega
          constructor
          · rintro (⟨i, j⟩ | ⟨i, j⟩)
            · exact ⟨.inl i, .inl j⟩
            · exact ⟨.inr i, j⟩
          · rintro ⟨i | i, j⟩
            · rcases j with j | j
              · exact .inl ⟨i, j⟩
              · exact (no i j).elim
            · exact .inr ⟨i, j⟩
        · rw [if_neg c]
          have no : sem a x → inP x q → False := fun s i => by
            obtain ⟨h, e, hb⟩ := ca.sep s
            rw [e] at c
            cases eq : q.2 with
            | none => rw [eq] at c; exact c rfl
            | some u =>
              rw [eq] at c
              have c : ¬ h = min h u := fun z => c (congrArg some z)
              have := i.2 u eq
              omega
          constructor
          · rintro (⟨i, j⟩ | ⟨i, j⟩)
            · exact ⟨.inl i, .inl j⟩
            · exact ⟨i, .inr j⟩
          · rintro ⟨i, j | j⟩
            · rcases i with i | i
              · exact .inl ⟨i, j⟩
              · exact (no i j).elim
            · exact .inr ⟨i, j⟩
      · split at hu
        · rename_i c
          rcases List.mem_cons.mp hu with e | e
          · subst e
            exact ⟨by have := ca.ok.1; have := cb.ok.1; show 0 ≤ max p.1 q.1; omega, c⟩
          · exact ho u e
        · exact ho u hu
    unfold com
    by_cases c : p.2 = early p.2 q.2
    · have ih := com_ok a (q :: b) ca.tail cb
      have k := key (com a (q :: b)) (fun x => by rw [if_pos c]; exact ih.1 x) ih.2
      simp only [if_pos c]
      exact k
    · have ih := com_ok (p :: a) b ca cb.tail
      have k := key (com (p :: a) b) (fun x => by rw [if_neg c]; exact ih.1 x) ih.2
      simp only [if_neg c]
      exact k
termination_by a b => a.length + b.length
def gp (lo : Int) : List Pr → List Pr
  | [] => [(lo, none)]
  | p :: r => (if lo < p.1 then [(lo, some (p.1 - 1))] else []) ++ (match p.2 with
    | none => []
    | some u => gp (u + 1) r)
theorem gp_ok : ∀ (l : List Pr) (lo : Int), Canon l → 0 ≤ lo → (∀ x, sem l x → lo ≤ x) → (∀ x, sem (gp lo l) x ↔ lo ≤ x ∧ ¬ sem l x) ∧ ∀ p, p ∈ gp lo l → Ok p
  | [], lo, _, h0, _ => by
    refine ⟨fun x => ?_, fun p hp => ?_⟩
    · show sem [(lo, none)] x ↔ _
      rw [sem_cons]
      simp [sem_nil, inP]
    · rcases List.mem_cons.mp hp with e | e
      · subst e; exact ⟨h0, fun h e => nomatch e⟩
      · cases e
  | p :: r, lo, c, h0, hl => by
    have ok := c.ok
    have l1 := hl p.1 (sem_cons.mpr (.inl (in_low ok)))
    have first : ∀ x, sem (if lo < p.1 then [(lo, some (p.1 - 1))] else []) x ↔ lo ≤ x ∧ x < p.1 := fun x => by
      by_cases k : lo < p.1
      · rw [if_pos k, sem_cons]
        simp only [sem_nil, or_false, inP, Option.some.injEq, forall_eq']
        omega
      · rw [if_neg k]
        simp only [sem_nil, false_iff]
        omega
    have firsto : ∀ u, u ∈ (if lo < p.1 then [(lo, some (p.1 - 1))] else []) → Ok u := fun u hu => by
      split at hu
      · rcases List.mem_cons.mp hu with e | e
        · subst e; exact ⟨h0, fun h e => by cases e; show lo ≤ p.1 - 1; omega⟩
        · cases e
      · cases hu
    unfold gp
    cases e : p.2 with
    | none =>
      have hr : r = [] := by
        cases c with
        | one => rfl
        | cons _ bf _ =>
          obtain ⟨u, hu, _⟩ := bf
          rw [e] at hu; cases hu
      subst hr
      refine ⟨fun x => ?_, fun u hu => ?_⟩
      · rw [sem_append, first x, sem_cons]
        simp only [sem_nil, or_false, inP, e]
        constructor
        · rintro ⟨a, b⟩
          exact ⟨a, fun z => by have := z.1; omega⟩
        · rintro ⟨a, b⟩
          refine ⟨a, ?_⟩
          by_cases z : x < p.1
          · exact z
          · exact absurd ⟨by omega, fun h e => nomatch e⟩ b
      · rcases List.mem_append.mp hu with z | z
        · exact firsto u z
        · cases z
    | some u =>
      have ou := ok.2 u e
      have ih := gp_ok r (u + 1) c.tail (by have := ok.1; omega) fun x s => by
        obtain ⟨h, e', hb⟩ := c.sep s
        rw [e] at e'; cases e'; omega
      refine ⟨fun x => ?_, fun v hv => ?_⟩
      · rw [sem_append, first x, ih.1 x, sem_cons]
        have hin : inP x p ↔ p.1 ≤ x ∧ x ≤ u := by
          unfold inP; rw [e]; simp
        rw [hin]
        constructor
        · rintro (⟨a, b⟩ | ⟨a, b⟩)
          · refine ⟨a, fun z => ?_⟩
            rcases z with z | z
            · omega
            · obtain ⟨h, e', hb⟩ := c.sep z
              rw [e] at e'; cases e'; omega
          · refine ⟨by omega, fun z => ?_⟩
            rcases z with z | z
            · omega
            · exact b z
        · rintro ⟨a, b⟩
          by_cases z : x < p.1
          · exact .inl ⟨a, z⟩
          · refine .inr ⟨?_, fun s => b (.inr s)⟩
            by_cases y : x ≤ u
            · exact absurd (.inl ⟨by omega, y⟩) b
            · omega
      · rcases List.mem_append.mp hv with z | z
        · exact firsto v z
        · exact ih.2 v z
theorem gaps_ok {l : List Pr} (c : Canon l) : (∀ x, sem (gp 0 l) x ↔ 0 ≤ x ∧ ¬ sem l x) ∧ ∀ p, p ∈ gp 0 l → Ok p := gp_ok l 0 c (by omega) fun x s => c.nn s
/-! the gaps stand apart, too: common wants that -/
theorem gp_canon : ∀ (l : List Pr) (lo : Int), Canon l → 0 ≤ lo → (∀ x, sem l x → lo ≤ x) → Canon (gp lo l) ∧ (∀ x, sem (gp lo l) x → lo ≤ x) := by
  intro l lo c h0 hl
  have sem2 : ∀ x, sem (gp lo l) x → lo ≤ x := fun x s => (((gp_ok l lo c h0 hl).1 x).mp s).1
  refine ⟨?_, sem2⟩
  induction l generalizing lo with
  | nil => exact .one ⟨h0, fun h e => nomatch e⟩
  | cons p r ih =>
    have ok := c.ok
    have l1 := hl p.1 (sem_cons.mpr (.inl (in_low ok)))
    unfold gp
    cases e : p.2 with
    | none =>
      by_cases k : lo < p.1
      · rw [if_pos k]; exact .one ⟨h0, fun h e => by cases e; show lo ≤ p.1 - 1; omega⟩
      · rw [if_neg k]; exact .nil
    | some u =>
      have ou := ok.2 u e
      have hl2 : ∀ x, sem r x → u + 1 ≤ x := fun x s => by
        obtain ⟨h, e', hb⟩ := c.sep s
        rw [e] at e'; cases e'; omega
      have i := ih (u + 1) c.tail (by have := ok.1; omega) hl2 fun x s => (((gp_ok r (u + 1) c.tail (by have := ok.1; omega) hl2).1 x).mp s).1
      by_cases k : lo < p.1
      · rw [if_pos k]
        show Canon ((lo, some (p.1 - 1)) :: gp (u + 1) r)
        cases g : gp (u + 1) r with
        | nil => exact .one ⟨h0, fun h e => by cases e; show lo ≤ p.1 - 1; omega⟩
        | cons q t =>
          rw [g] at i
          have q1 : u + 1 ≤ q.1 := (((gp_ok r (u + 1) c.tail (by have := ok.1; omega) hl2).1 q.1).mp (by rw [g]; exact sem_cons.mpr (.inl (in_low i.ok)))).1
          exact .cons ⟨h0, fun h e => by cases e; show lo ≤ p.1 - 1; omega⟩ ⟨p.1 - 1, rfl, by omega⟩ i
      · rw [if_neg k]; exact i
/-! how many -/
open Classical in
noncomputable def card (P : Int → Prop) : Nat → Int
  | 0 => 0
  | n + 1 => card P n + (if P (n : Int) then 1 else 0)
open Classical in
theorem card_or {P Q : Int → Prop} : ∀ n, card (fun x => P x ∨ Q x) n + card (fun x => P x ∧ Q x) n = card P n + card Q n
  | 0 => rfl
  | n + 1 => by
    have := card_or (P := P) (Q := Q) n
    show card _ n + _ + (card _ n + _) = card _ n + _ + (card _ n + _)
    by_cases a : P (n : Int) <;> by_cases b : Q (n : Int) <;> simp only [a, b, or_true, true_or, or_false, and_true, and_false, false_and, if_true, if_false, or_self, and_self] <;> omega
open Classical in
theorem card_congr {P Q : Int → Prop} (h : ∀ x, P x ↔ Q x) (n : Nat) : card P n = card Q n := by
  rw [show P = Q from funext fun x => propext (h x)]
open Classical in
theorem card_none {P : Int → Prop} (h : ∀ x, ¬ P x) : ∀ n, card P n = 0
  | 0 => rfl
  | n + 1 => by
    show card P n + _ = 0
    rw [card_none h n, if_neg (h _)]
    rfl
open Classical in
theorem card_int {l h : Int} (h0 : 0 ≤ l) (hl : l ≤ h) : ∀ n : Nat, card (fun x => l ≤ x ∧ x ≤ h) n = if (n : Int) ≤ l then 0 else (if (n : Int) ≤ h then (n : Int) - l else h + 1 - l)
  | 0 => by rw [if_pos (by omega)]; rfl
  | n + 1 => by
    show card _ n + _ = _
    rw [card_int h0 hl n]
    split <;> split <;> split <;> (try split) <;> (try split) <;> omega
def sumc (l : List Pr) : Int := (l.map fun p => (p.2.getD 0) - p.1 + 1).sum
def Ended (l : List Pr) : Prop := ∀ p, p ∈ l → ∃ h, p.2 = some h
open Classical in
theorem sumc_card : ∀ {l : List Pr}, Canon l → Ended l → ∃ N : Nat, ∀ n : Nat, N ≤ n → sumc l = card (sem l) n
  | [], _, _ => ⟨0, fun n _ => (card_none (fun x => by simp [sem_nil]) n).symm⟩
  | p :: r, c, e => by
    obtain ⟨N, hN⟩ := sumc_card c.tail fun q hq => e q (List.mem_cons_of_mem _ hq)
    obtain ⟨h, hp⟩ := e p List.mem_cons_self
    have ok := c.ok
    have l1 := ok.2 h hp
    refine ⟨N + (h + 1).toNat, fun n hn => ?_⟩
    have k := card_or (P := fun x => inP x p) (Q := sem r) n
    have z : card (fun x => inP x p ∧ sem r x) n = 0 := card_none (fun x ⟨i, s⟩ => (c.rest.mp s).2 i) n
    have i : card (fun x => inP x p) n = h + 1 - p.1 := by
      rw [card_congr (Q := fun x => p.1 ≤ x ∧ x ≤ h) (fun x => by unfold inP; rw [hp]; simp), card_int ok.1 l1 n, if_neg (by omega), if_neg (by omega)]
    rw [card_congr (Q := fun x => inP x p ∨ sem r x) (fun x => sem_cons)]
    have s := hN n (by omega)
    show ((p.2.getD 0) - p.1 + 1) + sumc r = _
    rw [hp]
    show h - p.1 + 1 + sumc r = _
    omega
theorem sumc_law {a b u v : List Pr} (ca : Canon a) (cb : Canon b) (cu : Canon u) (cv : Canon v) (ea : Ended a) (eb : Ended b) (eu : Ended u) (ev : Ended v) (hu : ∀ x, sem u x ↔ sem a x ∨ sem b x) (hv : ∀ x, sem v x ↔ sem a x ∧ sem b x) :
    sumc u + sumc v = sumc a + sumc b := by
  obtain ⟨n1, h1⟩ := sumc_card ca ea
  obtain ⟨n2, h2⟩ := sumc_card cb eb
  obtain ⟨n3, h3⟩ := sumc_card cu eu
  obtain ⟨n4, h4⟩ := sumc_card cv ev
  have k := card_or (P := sem a) (Q := sem b) (n1 + n2 + n3 + n4)
  rw [h1 (n1 + n2 + n3 + n4) (by omega), h2 (n1 + n2 + n3 + n4) (by omega), h3 (n1 + n2 + n3 + n4) (by omega), h4 (n1 + n2 + n3 + n4) (by omega), card_congr hu, card_congr hv]
  exact k
/-- an end, by what is in -/
theorem ended_iff {l : List Pr} (c : Canon l) : Ended l ↔ ∃ N : Int, ∀ x, sem l x → x ≤ N := by
  constructor
  · intro e
    induction l with
    | nil => exact ⟨0, fun x s => (sem_nil.mp s).elim⟩
    | cons p r ih =>
      obtain ⟨N, hN⟩ := ih c.tail fun q hq => e q (List.mem_cons_of_mem _ hq)
      obtain ⟨h, hp⟩ := e p List.mem_cons_self
      refine ⟨max N h, fun x s => ?_⟩
      rcases sem_cons.mp s with i | i
      · have := i.2 h hp; omega
      · have := hN x i; omega
  · rintro ⟨N, hN⟩ p hp
    cases e : p.2 with
    | some h => exact ⟨h, rfl⟩
    | none =>
      have := hN (max (N + 1) p.1) ⟨p, hp, by show p.1 ≤ _; omega, fun h e' => by rw [e] at e'; cases e'⟩
      omega
/-! moved and spread -/
def plus (a b : Option Int) : Option Int := match a, b with
  | some x, some y => some (x + y)
  | _, _ => none
theorem spread_one {p : Pr} {k x : Int} {m : Option Int} (o : Ok p) (hm : ∀ u, m = some u → k ≤ u) : inP x (p.1 + k, plus p.2 m) ↔ ∃ y, inP y p ∧ k ≤ x - y ∧ ∀ u, m = some u → x - y ≤ u := by
  constructor
  · rintro ⟨h1, h2⟩
    have h1 : p.1 + k ≤ x := h1
    cases em : m with
    | none => exact ⟨p.1, in_low o, by omega, fun u e => nomatch e⟩
    | some u =>
      have ku := hm u em
      refine ⟨max p.1 (x - u), ⟨by omega, fun h e => ?_⟩, by omega, fun v e => by cases e; omega⟩
      have := o.2 h e
      have := h2 (h + u) (by rw [em, e]; rfl)
      omega
  · rintro ⟨y, ⟨a, b⟩, c, d⟩
    refine ⟨by show p.1 + k ≤ x; omega, fun h e => ?_⟩
    cases ep : p.2 with
    | none => rw [ep] at e; cases m <;> cases e
    | some w =>
      cases em : m with
      | none => rw [ep, em] at e; cases e
      | some u =>
        rw [ep, em] at e
        cases e
        have := b w ep
        have := d u em
        omega
def spr (l : List Pr) (k : Int) (m : Option Int) : List Pr := l.map fun p => (p.1 + k, plus p.2 m)
theorem spr_ok {k : Int} {m : Option Int} (hk : 0 ≤ k) (hm : ∀ u, m = some u → k ≤ u) : ∀ {l : List Pr}, (∀ p, p ∈ l → Ok p) → (∀ x, sem (spr l k m) x ↔ ∃ y, sem l y ∧ k ≤ x - y ∧ ∀ u, m = some u → x - y ≤ u) ∧ ∀ p, p ∈ spr l k m → Ok p
  | [], _ => ⟨fun x => by simp [spr, sem_nil], fun p h => nomatch h⟩
  | p :: r, o => by
    have ih := spr_ok hk hm (l := r) fun q hq => o q (List.mem_cons_of_mem _ hq)
    have op := o p List.mem_cons_self
    refine ⟨fun x => ?_, fun q hq => ?_⟩
    · show sem ((p.1 + k, plus p.2 m) :: spr r k m) x ↔ _
      rw [sem_cons, ih.1 x, spread_one op hm]
      constructor
      · rintro (⟨y, a, b⟩ | ⟨y, a, b⟩)
        · exact ⟨y, sem_cons.mpr (.inl a), b⟩
        · exact ⟨y, sem_cons.mpr (.inr a), b⟩
      · rintro ⟨y, a, b⟩
        rcases sem_cons.mp a with a | a
        · exact .inl ⟨y, a, b⟩
        · exact .inr ⟨y, a, b⟩
    · rcases List.mem_cons.mp hq with e | e
      · subst e
        refine ⟨by show 0 ≤ p.1 + k; have := op.1; omega, fun h e => ?_⟩
        show p.1 + k ≤ h
        have e : plus p.2 m = some h := e
        cases ep : p.2 with
        | none => rw [ep] at e; cases m <;> cases e
        | some w =>
          cases em : m with
          | none => rw [ep, em] at e; cases e
          | some u =>
            rw [ep, em] at e
            cases e
            have := op.2 w ep
            have := hm u em
            omega
      · exact ih.2 q e
end ST
/-! bool of an own object and of a tuple; classes made by a promise with a star; enumerate of a tuple -/
namespace AF
open PySem PySem.Spec PyProof.Rows L2
open AutoSeq1 (wpAny_loadPart')
theorem meets_bool_any {prog : Program} {w : World} (x : Value) : MeetsIn prog w (Builtin.«bool.__new__» ⟨[.type "bool", x], []⟩) (fun A R s => wpAny (model prog w) A.in1 (truthy x) (fun b s' => R (.ok (.ret (.bool b))) s') (fun e s' => R (.error e) s') s) := by
  intro A R s h
  have f1 := F.conv_sub_bool
  repeat (any_goals (first | (refine wpAny_bind (wpAny_mono h ?_ ?_)) | wp_step))
  · exact fun b s' hR => wpAny_pure hR
  · exact fun _ _ h => h
theorem meets_enumerate_newT (l : Addr) (items : Array Value) (n : Nat) (dct : Option Addr) (sl : Array (Option Value)) :
    Meets (Builtin.«enumerate.__new__» ⟨[.type "enumerate", .ref l], []⟩) (fun _ R s => s.heap.get? l = some { cls := .type "tuple", dict := dct, data := .seq items n, slots := sl } ∧
      R (.ok (.ret (.ref (s.heap.push { cls := .type "tuple_iterator", data := .fields #[.ref l, .int 0 0] }).objs.size)))
        { s with heap := (s.heap.push { cls := .type "tuple_iterator", data := .fields #[.ref l, .int 0 0] }).push { cls := .type "enumerate", data := .fields #[.none, .bool false, .ref s.heap.objs.size, rawInt 0, .none, .none] } }) :=
  .of_wp fun prog w A R s h => by
    obtain ⟨hp, g, d, tk, os⟩ := s; obtain ⟨hl, h⟩ := h
    have hsub := sub_enumerate
    have hL : Heap.IsTuple (Shared.heap ⟨hp, g, d, tk, os⟩) l items := ⟨_, hl, rfl, n, rfl⟩
    wp_walk using wpAny_loadPart' hl
    refine wpAny_stack_any fun st => wpAny_pure ?_
    split
    · rename_i c _ _ _ _ _
      cases (c == Value.type "enumerate")
      · wp_walk using wpAny_loadPart' hl, wpAny_pyIter_tuple hL
        exact ⟨_, rfl, h⟩
      · wp_walk using wpAny_loadPart' hl, wpAny_pyIter_tuple hL
        exact ⟨_, rfl, h⟩
    · wp_walk using wpAny_loadPart' hl, wpAny_pyIter_tuple hL
      exact ⟨_, rfl, h⟩
theorem call_enumerate_tuple {prog : Program} {w : World} {A : Around} {E : Value → Shared → Prop} {s : Shared} {l : Addr} {items : Array Value} {Q : Value → Shared → Prop} (hL : s.heap.IsTuple l items)
    (h : ∀ h', IsEnum h' (s.heap.objs.size + 1) s.heap.objs.size 0 .none → h'.IsTupleIter s.heap.objs.size l 0 → h'.objs.size = s.heap.objs.size + 2 →
      (∀ b o, s.heap.get? b = some o → h'.get? b = some o) → Q (.ref (s.heap.objs.size + 1)) { s with heap := h' }) :
    wpAny (model prog w) A (call (.type "enumerate") [.ref l]) Q E s := by
  obtain ⟨⟨c, dct, dt, sl⟩, hl, hc, n, hd⟩ := hL
  replace hc : c = .type "tuple" := hc
  replace hd : dt = .seq items n := hd
  subst hc hd
  refine callType_new F.called_enumerate (by decide) (F.typeCall_enumerate_1 _) (F.newCall_enumerate_1 _) (fun obj => F.args_object_init_2 obj _) F.entry_enumerate_new
    (meets_enumerate_newT l items n dct sl) ⟨hl, ?_⟩
  have hz : (s.heap.push { cls := .type "tuple_iterator", data := .fields #[.ref l, .int 0 0] }).objs.size = s.heap.objs.size + 1 := Heap.size_push ..
  show _ ∧ _
  rw [hz]
  have he : IsEnum ((s.heap.push { cls := .type "tuple_iterator", data := .fields #[.ref l, .int 0 0] }).push
      { cls := .type "enumerate", data := .fields #[.none, .bool false, .ref s.heap.objs.size, rawInt 0, .none, .none] }) (s.heap.objs.size + 1) s.heap.objs.size 0 .none := by
    have := Heap.get?_push_size (s.heap.push { cls := .type "tuple_iterator", data := .fields #[.ref l, .int 0 0] })
      (o := { cls := .type "enumerate", data := .fields #[.none, .bool false, .ref s.heap.objs.size, rawInt 0, .none, .none] }) rfl
    rw [hz] at this; exact this
  refine ⟨⟨_, he, rfl⟩, h _ he ⟨_, Heap.get?_push_of_some _ (Heap.get?_push_size _ rfl), rfl, rfl⟩ (by rw [Heap.size_push, hz]) fun b o x => Heap.get?_push_of_some _ (Heap.get?_push_of_some _ x)⟩
/-- the tuple at a, each item in a new pair with its place -/
def Iten (K : PySem.W.Frag) (a : Addr) : It :=
  ⟨fun i H => ∃ (xs : List V) (x : V), SqT K H a xs ∧ xs[i]? = some x, fun i H v H' => ∃ T x, v = .ref T ∧ H T = none ∧ H' = upd H T (.tup [.int (i : Nat), x]) ∧ ∀ xs, SqT K H a xs → xs[i]? = some x, fun i H => ∃ xs : List V, SqT K H a xs ∧ xs.length ≤ i⟩
theorem turn_enumT {P : Program} {w : World} {K : PySem.W.Frag} {elts : List Expr} {kk : Nat} {tpos : Pos} (a e it : Addr) :
    Turn P w K (.Tuple elts kk tpos) (Iten K a) [e, it] e (fun i h => (∃ old, IsEnum h e it ((i : Nat) : Int) old) ∧ h.IsTupleIter it a i ∧ e ≠ it) where
  mem := by simp
  obj := fun i h st b hb => by
    obtain ⟨⟨old, he⟩, ⟨o, ho, hc, hd⟩, _⟩ := st
    have e' : b = e ∨ b = it := by simpa using hb
    rcases e' with z | z
    · rw [z]; exact ⟨_, he, fun v q => nomatch q⟩
    · rw [z]; exact ⟨o, ho, fun v q => by rw [hd] at q; cases q⟩
  keep := fun i h h' st k => let ⟨⟨old, he⟩, hi, hne⟩ := st; ⟨⟨old, k e (by simp) _ he⟩, hi.at fun o q => k it (by simp) o q, hne⟩
  item := by
    intro X hP hw hK hc i pins s σ H E I hf st hg
    subst hP hw hK
    obtain ⟨⟨old, he⟩, hit, hne⟩ := st
    obtain ⟨xs, x, hq, hx⟩ := hg
    obtain ⟨its, rv, p, hz⟩ := I.tuple hq
    obtain ⟨u, hu, ru⟩ := rv.get hx
    have hel : e < s.heap.objs.size := Heap.lt_size he
    have hil : it < s.heap.objs.size := by obtain ⟨_, q, _⟩ := hit; exact Heap.lt_size q
    have hap : a ≠ it := by
      intro z
      subst z
      obtain ⟨o1, q1, c1, _⟩ := hit
      have hT : s.heap.IsTuple a its.toArray := p
      obtain ⟨o2, q2, c2, _⟩ := hT
      have ee := q1.symm.trans q2
      injection ee with ee
      subst ee
      rw [c1] at c2
      revert c2
      decide
    have hae : e ≠ a := by
      intro z
      subst z
      have hT : s.heap.IsTuple e its.toArray := p
      obtain ⟨o2, q2, c2, _⟩ := hT
      have ee := he.symm.trans q2
      injection ee with ee
      subst ee
      revert c2
      show ¬ (Value.type "enumerate" = Value.type "tuple")
      decide
    have hlt : i < its.toArray.size := by
      have := (List.getElem?_eq_some_iff.mp hu).1
      simpa using this
    have hmem : e ∉ [it, a] := by
      intro z
      rcases List.mem_cons.mp z with z | z
      · exact hne z
      · exact hae (by simpa using z)
    refine wpAny_pyNext_enum_itemD (A := X.A) (Draws.tuple (A := X.A.in1) (show X.A.in1.handled = none from I.ok.hd hc) it a hap its.toArray) he ⟨hit, p⟩ hlt hne hmem fun u' h' tk hu' ho st' hT hsz hk => ?_
    have eu : u' = u := by
      have := hu'.symm.trans (show its.toArray[i]? = some u by simpa using hu)
      injection this
    subst eu
    refine ⟨_, rfl, wpAny_letOwnedTupleGo_enum (s := { s with heap := h', toks := tk + 1 }) ho fun h'' he' sb => ?_⟩
    have hT2 : h''.get? s.heap.objs.size = some { cls := .type "tuple", data := .seq #[.int i tk, u'] } := (sb.2 _ (Nat.ne_of_gt hel)).trans hT
    have new : ObjOk X.prog X.w (upd H s.heap.objs.size (.tup [.int (i : Nat), x])) h'' s.heap.objs.size (.tup [.int (i : Nat), x]) :=
      ⟨by show 2 ≤ sizeLine; decide, [.int i tk, u'], .cons ⟨_, rfl⟩ (.cons ru .nil), ⟨_, hT2, rfl, _, rfl⟩⟩
    have I1 : Inv X pins σ (upd H s.heap.objs.size (.tup [.int (i : Nat), x])) { s with heap := h'', toks := tk + 1 } :=
      I.turnedNew (ch := [e, it]) (fun b ob hb q => (sb.2 b (fun z => hb (by simp [z]))).trans (hk b ob (fun z => hb (by simp [z])) (fun z => hb (by simp [z])) q)) hf (Nat.le_refl _) new
    refine ⟨.ref s.heap.objs.size, _, I1, rfl, ⟨_, x, rfl, I.hok.fresh (Nat.le_refl _), rfl, fun ys hy => by rw [I.tuple_inj hy hq]; exact hx⟩, ⟨⟨u', ?_⟩, st'.1.at fun o q => (sb.2 it (Ne.symm hne)).trans q, hne⟩, fun b hb => ?_⟩
    · have e1 : ((i + 1 : Nat) : Int) = (i : Int) + 1 := by omega
      rw [e1]; exact he'
    · have hb' : b < s.heap.objs.size := by
        have e' : b = e ∨ b = it := by simpa using hb
        rcases e' with z | z
        · rw [z]; exact hel
        · rw [z]; exact hil
      rw [upd_ne (Nat.ne_of_lt hb')]
      exact (hf b hb).1
  done := by
    intro X hP hw hK hc i pins s σ H E I hf st hg
    subst hP hw hK
    obtain ⟨⟨old, he⟩, hit, hne⟩ := st
    obtain ⟨xs, hq, hx⟩ := hg
    obtain ⟨its, rv, p, hz⟩ := I.tuple hq
    obtain ⟨f0, f1, f2, f3, f4, f5⟩ := hf it (by simp)
    have hl := rv.length
    have hT : s.TypeIs (.ref e) "enumerate" := ⟨_, he, rfl⟩
    unfold pyNext
    refine wpAny_bind (wpAny_attempt (wpAny_callSpecial?_slot (name := Str.ofString "__next__") hT F.slot_enumerate_next
      (wpAny_call_entry F.slot_enumerate_next hT F.entry_enumerate_next ?_ (F.args_enumerate_next_1 _))))
    show wpAny _ _ (field (.ref e) 2 >>= _) _ _ _
    refine wpAny_bind (wpAny_field he rfl (x := .ref it) rfl ?_)
    refine wpAny_bind (wpAny_nextOf_tuple_end (A := X.A.in1) (items := its.toArray) (show X.A.in1.handled = none from I.ok.hd hc) hit p (by simp; omega) fun h' x he' hx' => ?_)
    obtain ⟨o, ho, hc'⟩ := hx'
    refine wpAny_bind (wpAny_isInstance (T := "StopIteration") (b := true) ⟨o, ho, hc'⟩ isSubtype_stop ?_)
    exact wpAny_pure ⟨rfl, I.turned (t' := s.toks) (fun b o hb q => he' b o hb q) f0 f1 f3 f4 f5⟩
  self := fun A i s Q E st h => let ⟨⟨_, he⟩, _⟩ := st; wpAny_pyIter_enum he h
end AF
/-! rules: enumerate of a tuple, bool, classes made by a star, the steps of the loops -/
namespace AF
open PySem PySem.Spec PyProof.Rows L2
def iEnumT (K : PySem.W.Frag) (ta : TA) : TI := fun σ H R => ta σ H fun vs H1 => ∃ a xs, vs = [.ref a] ∧ SqT K H1 a xs ∧ R (Iten K a) H1
theorem pi_enumT {X : Cx} {e : Expr} {ta : TA} {p pos tpos : Pos} {elts : List Expr} {kk : Nat} (hg : Gl X "enumerate") (hm : X.mg "enumerate" = none) (ha : PA X [e] ta) (hs : starEach [e] X.env = [(false, eval e X.env)] := by rfl) :
    PI X (.Tuple elts kk tpos) (.Call (.Name "enumerate" p) [e] [] pos) (iEnumT X.K ta) := by
  refine ⟨fun pins s σ H R I h => ?_⟩
  refine Call_ (ld_blt I hg hm boot_enumerate (PyProof.Rows.callWith_type1 (thn (ha.run pos pins s σ H _ I h) fun us s1 ⟨vs, H1, I1, r1, q1⟩ => ?_) hs rfl))
  obtain ⟨a, xs, ex, hq, q⟩ := q1
  subst ex
  cases r1 with
  | cons r rr =>
    cases rr
    cases r
    obtain ⟨its, rv, p', hz⟩ := I1.tuple hq
    refine call_enumerate_tuple (items := its.toArray) p' fun h' he hit hsz hk => wpAny_pyIter_enum he ?_
    have I2 : Inv X pins σ H1 { s1 with heap := h' } := I1.kept (t' := s1.toks) hk
    refine ⟨s1.heap.objs.size + 1, [s1.heap.objs.size + 1, s1.heap.objs.size], _, _, H1, rfl, I2, turn_enumT a (s1.heap.objs.size + 1) s1.heap.objs.size, ⟨⟨.none, he⟩, hit, Nat.succ_ne_self _⟩, fun b hb => ?_, q⟩
    have e' : b = s1.heap.objs.size + 1 ∨ b = s1.heap.objs.size := by simpa using hb
    have hle : s1.heap.objs.size ≤ b := by
      rcases e' with z | z
      · rw [z]; exact Nat.le_add_right _ _
      · rw [z]; exact Nat.le_refl _
    exact I1.fpOk hle (I1.hok.fresh hle)
/-- bool(x) of a tuple -/
def rBoolT (K : PySem.W.Frag) : List V → Hp → VK → Prop := fun xs H Q => ∃ a ys, xs = [.ref a] ∧ SqT K H a ys ∧ Q (.bl (!ys.isEmpty)) H
theorem cl_boolT {X : Cx} : CallR X (.type "bool") (rBoolT X.K) := by
  intro pins s σ H xs us Q I r h
  obtain ⟨a, ys, rfl, hx, q⟩ := h
  have hl := line63
  obtain ⟨u, rfl, rx⟩ := vals1 r
  cases rx
  obtain ⟨its, rv, pl, hz⟩ := I.tuple hx
  have hlen := rv.length
  refine callType_newIn PySem.F.called_bool PySem.F.newNe_bool (PySem.F.typeCall_bool_1 _) (PySem.F.newCall_bool_1 _) (fun obj => PySem.F.args_object_init_2 obj _) PySem.F.entry_bool_new (meets_bool_any _) ?_
  show wpAny _ _ _ _ _ _
  exact truthy_tuple pl (by simp only [List.size_toArray]; omega) ⟨rfl, .bl (!ys.isEmpty), H, I.tok _, by rw [isEmpty_of rv]; rfl, q⟩
theorem run_fnA {X : Cx} {k : Nat} {f : Addr} {fd : FuncData} {ps : List Str} {sp : Sp} {E : XK} {A : Around} {pins : List (Addr × Obj)} {σ : L2.St} {H : Hp} {s : Shared} {Q : VK} {us : List Value} {vs : List V} (F : FnOk X.prog X.w X.K X.mg X.base (L2.CX X.prog X.w) k f fd ps sp) (hr : Room k A) (hb : Binds X.K fd ps [])
    (e0 : Env0 X.prog X.w X.K X.mg X.base A X.stack s H) (hx : Passes (L2.CX X.prog X.w) X E) (I : L2.Inv X pins σ H s) (r : Vals vs us) (h : sp vs H Q E) : wpAny (model X.prog X.w) A (call (.ref f) us) (EP X pins σ Q) X.xe s := by
  have r2 : Vals vs (us ++ []) := by rw [List.append_nil]; exact r
  have hl : (us ++ []).length = ps.length := by rw [← r2.length]; exact F.len _ _ _ _ h
  refine wpAny_call (codeAny_mono (F.run A X.stack s H ⟨us, []⟩ (us ++ []) vs Q E hr e0 (hb s us I.kIn hl) r2 h) fun r s' hq => ?_)
  cases r with
  | error e => exact hx pins σ H s e s' I hq
  | ok fl =>
    cases fl with
    | ret u => exact I.after hq
    | next => exact False.elim hq
    | brk => exact False.elim hq
    | cont => exact False.elim hq
/-- bool(x) of an instance -/
structure BoolO (K : PySem.W.Frag) (C f : Addr) : Prop where
  at_ : PySem.W.findIn K (.ref C) "__bool__" = some (some (.ref f))
  fn : PySem.W.isFn K (.ref f) = true
def rBoolO (C : Addr) (sp : Sp) (E : XK) : List V → Hp → VK → Prop := fun xs H Q => ∃ a dx fs, xs = [.ref a] ∧ H a = some (.ins C dx fs) ∧ sp [.ref a] H (fun z H' => ∃ b, z = .bl b ∧ Q (.bl b) H') E
theorem cl_boolO {X : Cx} {k : Nat} {f C : Addr} {ps : List Str} {sp : Sp} {E : XK} (B : BoolO X.K C f) (D : Dn X.prog X.w X.K X.mg X.base k f ps sp) (hr : Room (k + 2) X.A) (hx : Passes (L2.CX X.prog X.w) X E) : CallR X (.type "bool") (rBoolO C sp E) := by
  intro pins s σ H xs us Q I r h
  obtain ⟨a, dx, fs, rfl, ha, q⟩ := h
  obtain ⟨fd, F, b⟩ := D.ex
  obtain ⟨u, rfl, rx⟩ := vals1 r
  cases rx
  obtain ⟨mA, O, _⟩ := ins_get I.hok ha
  obtain ⟨od, J, _⟩ := O.look
  obtain ⟨m, hF⟩ := I.fr
  refine callType_newIn PySem.F.called_bool PySem.F.newNe_bool (PySem.F.typeCall_bool_1 _) (PySem.F.newCall_bool_1 _) (fun obj => PySem.F.args_object_init_2 obj _) PySem.F.entry_bool_new (meets_bool_any _) ?_
  show wpAny _ _ _ _ _ _
  have hr2 : Room k X.A.in1.in1 := (show Room (k + 1) X.A.in1 from Room.in1 hr).in1
  refine PySem.W.truthy_K hF I.ok.mod.kin J B.at_ B.fn ?_
  refine wpAny_mono (run_fnA F hr2 b I.env0.in1.in1 hx I (Paired.cons (show RelV (.ref a) (.ref a) from rfl) .nil) q) (fun w s' z => ?_) fun _ _ x => x
  obtain ⟨z', H', I', rz, c, ec, qz⟩ := z
  subst ec
  cases rz
  exact ⟨rfl, .bl c, H', I', rfl, qz⟩
section
variable {X : Cx} {k : Nat} {f C : Addr} {sp : Sp} {E : XK} {x : Str} {e : Expr} {es : List Expr} {te : TE} {t : TA} {p pos sp_ : Pos}
/-- a class whose __init__ keeps a promise (with a star) -/
structure Ms (P : Program) (w : World) (K : PySem.W.Frag) (mg : Str → Option Value) (base : Heap) (k : Nat) (C : Addr) (sp : Sp) : Prop where
  ex : ∃ f, FnR P w K mg base (L2.CX P w) k f sp ∧ Mk K C f
def kMakeS (K : PySem.W.Frag) (C : Addr) (sp : Sp) (E : XK) (Q : VK) (y : V) (H : Hp) : Prop := ∃ a xs, y = .ref a ∧ (SqT K H a xs ∨ SqL K H a xs) ∧ kMake C sp E Q xs H
def tMk (C : Addr) (sp : Sp) (E : XK) (t : TA) : TE := fun σ H Q => t σ H (kMake C sp E Q)
theorem pe_mkR (D : Ms X.prog X.w X.K X.mg X.base k C sp) (hr : Room (k + 1) X.A) (hg : Gl X x) (hm : X.mg x = some (.ref C)) (hx : Passes (L2.CX X.prog X.w) X E) (ha : PA X (e :: es) t) (hdb : (x == ("__debug__" : Str)) = false := by decide)
    (he : starEach (e :: es) X.env = (false, eval e X.env) :: starEach es X.env := by rfl) (hpl : (backTo pos (starEach es X.env)).any (·.1) = false := by rfl) : PE X (.Call (.Name x p) (e :: es) [] pos) (tMk C sp E t) := by
  obtain ⟨f, F, M⟩ := D.ex
  refine ⟨fun pins s σ H Q I h => ?_⟩
  refine wpAny_Call_Name_kw (ld_glob I hg hm ?_ hdb)
  refine PySem.W.callWith_K (h₀ := X.base) I.ok.mod.kin M.kp (thn (ha.run pos pins s σ H _ I h) fun us s1 ⟨vs, H1, I1, r, q⟩ => ⟨I1.kIn, ?_⟩) he hpl
  exact StX.run_makeR M F hr hx I1 r q
theorem pe_mk0 (D : Ms X.prog X.w X.K X.mg X.base k C sp) (hr : Room (k + 1) X.A) (hg : Gl X x) (hm : X.mg x = some (.ref C)) (hx : Passes (L2.CX X.prog X.w) X E) (hdb : (x == ("__debug__" : Str)) = false := by decide) :
    PE X (.Call (.Name x p) [] [] pos) (tMk C sp E tNil) := by
  obtain ⟨f, F, M⟩ := D.ex
  refine ⟨fun pins s σ H Q I h => ?_⟩
  refine wpAny_Call_Name_kw (ld_glob I hg hm ?_ hdb)
  exact PySem.W.callWith_K0 I.kIn M.kp (StX.run_makeR M F hr hx I .nil h)
def tMkS (K : PySem.W.Frag) (C : Addr) (sp : Sp) (E : XK) (te : TE) : TE := fun σ H Q => te σ H (kMakeS K C sp E Q)
theorem pe_mkS (D : Ms X.prog X.w X.K X.mg X.base k C sp) (hr : Room (k + 1) X.A) (hg : Gl X x) (hm : X.mg x = some (.ref C)) (hx : Passes (L2.CX X.prog X.w) X E) (he : PE X e te) (hdb : (x == ("__debug__" : Str)) = false := by decide)
    (hst : starEach [.Starred e sp_] X.env = [(true, eval e X.env)] := by rfl) : PE X (.Call (.Name x p) [.Starred e sp_] [] pos) (tMkS X.K C sp E te) := by
  obtain ⟨f, F, M⟩ := D.ex
  refine ⟨fun pins s σ H Q I h => ?_⟩
  refine wpAny_Call_Name_kw (ld_glob I hg hm ?_ hdb)
  refine PySem.W.callWith_S (h₀ := X.base) I.ok.mod.kin M.kp (thn (he.run pins s σ H _ I h) fun v s1 ⟨y, H1, I1, ry, a, xs, ey, hxs, q⟩ => ?_) hst
  subst ey
  obtain rfl : v = Value.ref a := ry
  exact StX.star_any I1 hxs fun us s2 I2 rv => ⟨I2.kIn, StX.run_makeR M F hr hx I2 rv q⟩
end
/-- def f(p, *v): its promise -/
theorem okStar {P : Program} {w : World} {K : PySem.W.Frag} {mg : Str → Option Value} {base : Heap} {n q : Str} {params : Arguments} {body : List Stmt} {scope : Scope} {f : Addr} {fd : FuncData} {N : List Str} {p1 pv : Str} {k : Nat} {sp : Sp}
    (F : FunD K n q params body scope [] [] f fd) (S : FnScope N [p1, pv] scope)
    (h0 : ∀ (kV doc pm : Value) (an : Option Addr) (cdv ct : Value) (a : Value), bindArgs (PySem.W.fnOf n q params body scope .none kV doc pm an cdv ct) ⟨[a], []⟩ = (newTuple [] >>= fun t => pure [(p1, a), (pv, t)]))
    (h1 : ∀ (kV doc pm : Value) (an : Option Addr) (cdv ct : Value) (a r : Value) (rs : List Value), bindArgs (PySem.W.fnOf n q params body scope .none kV doc pm an cdv ct) ⟨a :: r :: rs, []⟩ = (newTuple (r :: rs) >>= fun t => pure [(p1, a), (pv, t)]))
    (hbody : ∀ (cdv : Value) (A : Around) (outer : List Env) (s : Shared) (H : Hp) (vs : List V) (Q : VK) (E : XK), Room k (A.deeper (envOfC q scope s.heap.objs.size f cdv)) → sp vs H Q E →
      ∃ t, PSs (cxOf (L2.CX P w) P w K mg base N q scope f cdv A outer s H E) body t ∧ t { nx := fun _ H' => Q .non H', rt := Q } (start N vs) H) :
    FnR P w K mg base (L2.CX P w) (k + 1) f (fun vs H Q E => ∃ ws rest, vs = ws ++ rest ∧ ws.length = [p1].length ∧ rest.length ≤ sizeLine ∧ ∀ p, H p = Option.none → sp (ws ++ [V.ref p]) (upd H p (.tup rest)) Q E) := by
  obtain ⟨oc, od, dV, kV, doc, pm, an, cdv, ct, osl, rfl, lk, hcd, hd, _⟩ := F.ex
  have e : dV = .none := by
    rcases hd with ⟨_, e⟩ | ⟨e, _⟩
    · exact e
    · exact absurd rfl e
  subst e
  exact StX.fn_star (ps := [p1]) (pv := pv) lk hcd S StX.cxUp (StX.bind_star1 (B := fun l => bindArgs (PySem.W.fnOf n q params body scope .none kV doc pm an cdv ct) ⟨l, []⟩) (p1 := p1) (pv := pv) (h0 kV doc pm an cdv ct) (h1 kV doc pm an cdv ct)) fun A outer s H vs Q E hr hsp => hbody cdv A outer s H vs Q E hr hsp
/-! the loops, by an own word -/
/-- for .. in enumerate(t), t a tuple that stays: by a word for each place -/
theorem for_enT {K : PySem.W.Frag} {a : Addr} {xs : List V} {g : TG} {tb : TS} {D : Ends} {σ : L2.St} {H : Hp} (Pv : Nat → L2.St → Hp → Prop) (h0 : Pv 0 σ H) (hl : ∀ i σ H, i ≤ xs.length → Pv i σ H → SqT K H a xs)
    (hs : ∀ i x σ H T, xs[i]? = some x → Pv i σ H → H T = none → g (.ref T) σ (upd H T (.tup [.int (i : Nat), x])) fun σ2 H2 => tb { D with nx := Pv (i + 1), ct := Pv (i + 1), bk := D.nx } σ2 H2) (hd : ∀ σ H, Pv xs.length σ H → D.nx σ H) : ForOk (Iten K a) g tb D σ H := by
  refine ⟨fun i m σ H => m = xs.length - i ∧ i ≤ xs.length ∧ Pv i σ H, ⟨xs.length, by simp, Nat.zero_le _, h0⟩, ?_⟩
  rintro i m σ H ⟨rfl, hi, p⟩
  have q := hl i σ H hi p
  by_cases hlt : i < xs.length
  · refine .inr ⟨⟨xs, xs[i], q, by simp [hlt]⟩, Pv (i + 1), fun σ' H' p' => ⟨xs.length - (i + 1), by omega, rfl, hlt, p'⟩, fun x H' y => ?_⟩
    obtain ⟨T, z, rfl, hT, rfl, y⟩ := y
    exact hs i z σ H T (y xs q) p hT
  · have e : i = xs.length := by omega
    subst e
    exact .inl ⟨⟨xs, q, Nat.le_refl _⟩, hd σ H p⟩
theorem for_enL {K : PySem.W.Frag} {a : Addr} {xs : List V} {g : TG} {tb : TS} {D : Ends} {σ : L2.St} {H : Hp} (Pv : Nat → L2.St → Hp → Prop) (h0 : Pv 0 σ H) (hl : ∀ i σ H, i ≤ xs.length → Pv i σ H → SqL K H a xs)
    (hs : ∀ i x σ H T, xs[i]? = some x → Pv i σ H → H T = none → g (.ref T) σ (upd H T (.tup [.int (i : Nat), x])) fun σ2 H2 => tb { D with nx := Pv (i + 1), ct := Pv (i + 1), bk := D.nx } σ2 H2) (hd : ∀ σ H, Pv xs.length σ H → D.nx σ H) : ForOk (Ite K a) g tb D σ H := by
  refine ⟨fun i m σ H => m = xs.length - i ∧ i ≤ xs.length ∧ Pv i σ H, ⟨xs.length, by simp, Nat.zero_le _, h0⟩, ?_⟩
  rintro i m σ H ⟨rfl, hi, p⟩
  have q := hl i σ H hi p
  by_cases hlt : i < xs.length
  · refine .inr ⟨⟨xs, xs[i], q, by simp [hlt]⟩, Pv (i + 1), fun σ' H' p' => ⟨xs.length - (i + 1), by omega, rfl, hlt, p'⟩, fun x H' y => ?_⟩
    obtain ⟨T, z, rfl, hT, rfl, y⟩ := y
    exact hs i z σ H T (y xs q) p hT
  · have e : i = xs.length := by omega
    subst e
    exact .inl ⟨⟨xs, q, Nat.le_refl _⟩, hd σ H p⟩
section
variable {K : PySem.W.Frag} {σ : L2.St} {H : Hp} {Q : VK} {ta : TA} {te td : TE} {g : TG} {tb : TS} {D : Ends} {r : V → List V → Hp → VK → Prop} {T : String} {x : V} {QB : Bool → Hp → Prop} {C : Addr} {sp : Sp} {E : XK}
def kEnT (K : PySem.W.Frag) (g : TG) (tb : TS) (D : Ends) (σ : L2.St) (vs : List V) (H1 : Hp) : Prop := ∃ a xs, vs = [.ref a] ∧ SqT K H1 a xs ∧ ForOk (Iten K a) g tb D σ H1
def kEnL (K : PySem.W.Frag) (g : TG) (tb : TS) (D : Ends) (σ : L2.St) (vs : List V) (H1 : Hp) : Prop := ∃ a xs, vs = [.ref a] ∧ SqL K H1 a xs ∧ ForOk (Ite K a) g tb D σ H1
instance : Step (tFor (iEnumT K ta) g tb D σ H) (ta σ H (kEnT K g tb D σ)) := ⟨fun h => h⟩
instance : Step (tFor (iEnum K ta) g tb D σ H) (ta σ H (kEnL K g tb D σ)) := ⟨fun h => h⟩
def kNotT (K : PySem.W.Frag) (Q : VK) (x : V) (H : Hp) : Prop := ∃ k, TruV K x H k ∧ Q (.bl (!k)) H
instance : Step (tNotT K te σ H Q) (te σ H (kNotT K Q)) := ⟨fun h => h⟩
instance : Step (tMk C sp E ta σ H Q) (ta σ H (kMake C sp E Q)) := ⟨fun h => h⟩
instance : Step (tMkS K C sp E te σ H Q) (te σ H (kMakeS K C sp E Q)) := ⟨fun h => h⟩
end
end AF
/-! sets of counts on the heap -/
namespace AF
open PySem PySem.Spec PyProof.Rows L2
open ST (Pr Ok sem Canon com gp early plus spr saB en sumc Ended)
def ov : Option Int → V
  | none => .non
  | some h => .int h
def Up (H H' : Hp) : Prop := ∀ b o, H b = some o → H' b = some o
def UpX (x : Addr) (H H' : Hp) : Prop := ∀ b o, b ≠ x → H b = some o → H' b = some o
theorem Up.rfl' {H : Hp} : Up H H := fun _ _ h => h
theorem Up.trans {H H1 H2 : Hp} (a : Up H H1) (b : Up H1 H2) : Up H H2 := fun p o h => b p o (a p o h)
theorem Up.new {H : Hp} {p : Addr} {o : HO} (h : H p = none) : Up H (upd H p o) := fun b u e => by
  rw [upd_ne (fun z => by rw [z] at e; rw [h] at e; cases e)]
  exact e
theorem Up.ch {H H' : Hp} (u : Up H H') : Ch [] H H' := fun b o h _ => u b o h
theorem Up.of {H H' : Hp} (c : Ch [] H H') : Up H H' := fun b o h => c b o h (by simp)
theorem Up.toX {H H' : Hp} {x : Addr} (u : Up H H') : UpX x H H' := fun b o _ h => u b o h
theorem UpX.set {H : Hp} {x : Addr} {o : HO} : UpX x H (upd H x o) := fun b u n e => by rw [upd_ne n]; exact e
theorem UpX.trans {H H1 H2 : Hp} {x : Addr} (a : UpX x H H1) (b : UpX x H1 H2) : UpX x H H2 := fun p o n h => b p o n (a p o n h)
theorem UpX.up {H H' : Hp} {x : Addr} (u : UpX x H H') (h : H x = none) : Up H H' := fun b o e => u b o (fun z => by rw [z] at e; rw [h] at e; cases e) e
inductive PrL (H : Hp) : List V → List Pr → Prop where
  | nil : PrL H [] []
  | cons {q : Addr} {vs : List V} {p : Pr} {l : List Pr} (h : H q = some (.tup [.int p.1, ov p.2])) (r : PrL H vs l) : PrL H (.ref q :: vs) (p :: l)
theorem PrL.up {H H' : Hp} (u : Up H H') : ∀ {vs : List V} {l : List Pr}, PrL H vs l → PrL H' vs l
  | _, _, .nil => .nil
  | _, _, .cons h r => .cons (u _ _ h) (r.up u)
theorem PrL.upX {H H' : Hp} {x : Addr} (u : UpX x H H') (hx : ∀ xs, H x ≠ some (.tup xs)) : ∀ {vs : List V} {l : List Pr}, PrL H vs l → PrL H' vs l
  | _, _, .nil => .nil
  | _, _, .cons h r => .cons (u _ _ (fun z => hx _ (by rw [z] at h; exact h)) h) (r.upX u hx)
theorem PrL.len {H : Hp} : ∀ {vs : List V} {l : List Pr}, PrL H vs l → vs.length = l.length
  | _, _, .nil => rfl
  | _, _, .cons _ r => congrArg (· + 1) r.len
theorem PrL.append {H : Hp} : ∀ {vs ws : List V} {l m : List Pr}, PrL H vs l → PrL H ws m → PrL H (vs ++ ws) (l ++ m)
  | _, _, _, _, .nil, b => b
  | _, _, _, _, .cons h r, b => .cons h (r.append b)
theorem PrL.get {H : Hp} : ∀ {vs : List V} {l : List Pr} {i : Nat} {v : V}, PrL H vs l → vs[i]? = some v → ∃ q p, v = .ref q ∧ l[i]? = some p ∧ H q = some (.tup [.int p.1, ov p.2])
  | _, _, 0, _, .cons h _, e => by
    cases e
    exact ⟨_, _, rfl, rfl, h⟩
  | _, _, i + 1, _, .cons _ r, e => r.get (i := i) e
theorem PrL.at_ {H : Hp} : ∀ {vs : List V} {l : List Pr} {i : Nat} {p : Pr}, PrL H vs l → l[i]? = some p → ∃ q, vs[i]? = some (.ref q) ∧ H q = some (.tup [.int p.1, ov p.2])
  | _, _, 0, _, .cons h _, e => by
    cases e
    exact ⟨_, rfl, h⟩
  | _, _, i + 1, _, .cons _ r, e => r.at_ (i := i) e
def Tp (H : Hp) (t : Addr) (l : List Pr) : Prop := ∃ vs, H t = some (.tup vs) ∧ PrL H vs l
def Lp (H : Hp) (t : Addr) (l : List Pr) : Prop := ∃ vs, H t = some (.lst vs) ∧ PrL H vs l
def TL (H : Hp) (t : Addr) (l : List Pr) : Prop := Tp H t l ∨ Lp H t l
theorem Tp.up {H H' : Hp} {t : Addr} {l : List Pr} (u : Up H H') : Tp H t l → Tp H' t l := fun ⟨vs, h, r⟩ => ⟨vs, u _ _ h, r.up u⟩
theorem Lp.up {H H' : Hp} {t : Addr} {l : List Pr} (u : Up H H') : Lp H t l → Lp H' t l := fun ⟨vs, h, r⟩ => ⟨vs, u _ _ h, r.up u⟩
theorem TL.up {H H' : Hp} {t : Addr} {l : List Pr} (u : Up H H') : TL H t l → TL H' t l := fun h => h.imp (Tp.up u) (Lp.up u)
def kp (t : Addr) : List (Str × V) := [("kept", .ref t)]
def Ss (C : Addr) (H : Hp) (x : Addr) (l : List Pr) : Prop := ∃ dx t, H x = some (.ins C dx (kp t)) ∧ Tp H t l
theorem Ss.up {C : Addr} {H H' : Hp} {t : Addr} {l : List Pr} (u : Up H H') : Ss C H t l → Ss C H' t l := fun ⟨dx, t, h, r⟩ => ⟨dx, t, u _ _ h, r.up u⟩
/-- a new set of these counts -/
def NewS (C : Addr) (P : Int → Prop) (n : Nat) (H : Hp) (Q : VK) : Prop := ∀ x H' c, H x = none → Up H H' → Ss C H' x c → Canon c → (∀ y, sem c y ↔ P y) → c.length ≤ n → Q (.ref x) H'
def rIxA (K : PySem.W.Frag) : R2 := fun x y H Q => rIxT K x y H Q ∨ rIxL K x y H Q
theorem ix_any {X : Cx} : IxR X (rIxA X.K) := by
  intro value slice pins s σ H x y v u Q I rx ry h hs
  rcases h with h | h
  · exact ix_tup value slice pins s σ H x y v u Q I rx ry h hs
  · exact ix_list value slice pins s σ H x y v u Q I rx ry h hs
theorem ai_nat {α : Type} {vs : List α} {i : Nat} {v : α} (ev : vs[i]? = some v) : atI vs (i : Int) = some v := by
  obtain ⟨hlt, _⟩ := List.getElem?_eq_some_iff.mp ev
  unfold atI ixN
  rw [if_pos (Int.natCast_nonneg i)]
  simp only [Int.toNat_natCast]
  first
    | rw [if_pos hlt]; exact ev
    | rw [if_pos (by omega)]; exact ev
theorem g_ixA {K : PySem.W.Frag} {H : Hp} {t : Addr} {l : List Pr} {i : Nat} {p : Pr} {Q : VK} (h : TL H t l) (e : l[i]? = some p) (q : ∀ q, H q = some (.tup [.int p.1, ov p.2]) → Q (.ref q) H) : rIxA K (.ref t) (.int (i : Nat)) H Q := by
  rcases h with ⟨vs, h, r⟩ | ⟨vs, h, r⟩
  · obtain ⟨a, ev, hq⟩ := r.at_ e
    exact .inl (g_ixT h (ai_nat ev) (q a hq))
  · obtain ⟨a, ev, hq⟩ := r.at_ e
    exact .inr ⟨t, vs, _, _, rfl, rfl, SqL.of h, ai_nat ev, q a hq⟩
theorem g_lenA {K : PySem.W.Frag} {H : Hp} {t : Addr} {l : List Pr} {Q : VK} (h : TL H t l) (q : Q (.int l.length) H) : rLenQ K [.ref t] H Q := by
  rcases h with ⟨vs, h, r⟩ | ⟨vs, h, r⟩
  · exact g_lent h (by rw [r.len]; exact q)
  · exact g_lenl h (by rw [r.len]; exact q)
theorem tup_any {K : PySem.W.Frag} {H : Hp} {t : Addr} {vs : List V} (h : H t = some (.tup vs)) : SqT K H t vs := SqT.of h
end AF
/-! two names out of a pair; lists of local use -/
namespace AF
open PySem PySem.Spec PyProof.Rows L2
open ST (Pr Ok sem Canon com gp early plus spr saB en sumc Ended)
section
variable {K : PySem.W.Frag} {σ σ1 σ2 : L2.St} {H : Hp} {te : TE} {i j : Nat} {nx : L2.St → Hp → Prop} {rt : VK} {bk ct : L2.St → Hp → Prop} {a : Addr} {u v : V} {Q : VK} {q : L2.St → Hp → Prop}
theorem g_gt2 [h1 : SetI σ i u σ1] [h2 : SetI σ1 j v σ2] (h : H a = some (.tup [u, v])) (k : q σ2 H) : gTup K 2 (gCons (gName i) (gCons (gName j) gNil)) (.ref a) σ H q :=
  ⟨a, [u, v], rfl, SqT.of h, rfl, u, [v], rfl, v, [], rfl, rfl, by
    show q ((σ.set i (some u)).set j (some v)) H
    rw [h1.eq, h2.eq]; exact k⟩
def kUn2 (K : PySem.W.Frag) (i j : Nat) (σ : L2.St) (nx : L2.St → Hp → Prop) (x : V) (H : Hp) : Prop := gTup K 2 (gCons (gName i) (gCons (gName j) gNil)) x σ H nx
instance : Step (tAsg te (gTup K 2 (gCons (gName i) (gCons (gName j) gNil))) ⟨nx, rt, bk, ct⟩ σ H) (te σ H (kUn2 K i j σ nx)) := ⟨fun h => h⟩
theorem g_un2 [h1 : SetI σ i u σ1] [h2 : SetI σ1 j v σ2] (h : H a = some (.tup [u, v])) (k : nx σ2 H) : kUn2 K i j σ nx (.ref a) H := g_gt2 h k
theorem g_l0 {xs : List V} (hn : Nat.ble xs.length 1000 = true) (q : ∀ p, H p = none → Q (.ref p) (upd H p (.lst xs))) : kLst Q xs H := ⟨line_of hn, q⟩
theorem g_t0 {xs : List V} (hn : Nat.ble xs.length 1000 = true) (q : ∀ p, H p = none → Q (.ref p) (upd H p (.tup xs))) : kTup Q xs H := ⟨line_of hn, q⟩
theorem g_isN {x : V} {r : Bool} (e : decide (x = V.non) = r) (q : Q (.bl r) H) : (fun x y H Q => y = V.non ∧ Q (V.bl (decide (x = V.non))) H : R2) x .non H Q := ⟨rfl, by rw [e]; exact q⟩
end
theorem ov_dec {a : Option Int} : decide (ov a = V.non) = a.isNone := by
  cases a <;> simp [ov]
end AF
/-! comprehensions over pairs and places -/
namespace AF
open PySem PySem.Spec PyProof.Rows L2
open ST (Pr Ok sem Canon com gp early plus spr saB en res sumc Ended)
theorem line1000 {n : Nat} (h : n ≤ 1000) : n < sizeLine := by
  have : sizeLine = 16777216 := sizeLine_eq
  omega
section
variable {K : PySem.W.Frag} {tt : TT} {te : TE} {ks : List Nat} {σ σ2 : L2.St} {Q : VK} {H : Hp} {a : Addr} {vs : List V} {l : List Pr} {i j : Nat} {ta : TA}
/-- [e for low, high in pairs if t], what is told is plain -/
theorem g_lcP (f : Pr → Option V) (hT : H a = some (.tup vs)) (hp : PrL H vs l) (hn : l.length ≤ 1000)
    (hb : ∀ p, p ∈ l → ∀ H1 (R : V → Hp → Prop) (N : Hp → Prop), Up H H1 → (∀ y, f p = some y → R y H1) → (f p = none → N H1) →
      wipe (((wipe σ ks).set i (some (.int p.1))).set j (some (ov p.2))) ks = wipe σ ks ∧ tt (((wipe σ ks).set i (some (.int p.1))).set j (some (ov p.2))) H1 fun b H3 => if b = true then te (((wipe σ ks).set i (some (.int p.1))).set j (some (ov p.2))) H3 R else N H3)
    (q : ∀ D H', H D = none → Up H H' → H' D = some (.lst (l.filterMap f)) → Q (.ref D) H') : kLcT K (gTup K 2 (gCons (gName i) (gCons (gName j) gNil))) tt te ks σ Q (.ref a) H := by
  refine ⟨a, rfl, ⟨vs, SqT.of hT⟩, fun D hD => ?_⟩
  have u0 : Up H (upd H D (.lst [])) := Up.new hD
  have hl := hp.len
  refine lc_tup (K := K) (xs := vs) (fun k H' => Up H H' ∧ H' D = some (.lst ((l.take k).filterMap f))) ⟨u0, upd_same⟩ (fun k H' _ p => SqT.of (p.1 _ _ hT)) (fun k x H' hx p => ?_) fun H' p => ?_
  · obtain ⟨uH, hD'⟩ := p
    obtain ⟨qa, pr, rfl, hlk, hq⟩ := hp.get hx
    obtain ⟨hlt, hget⟩ := List.getElem?_eq_some_iff.mp hlk
    have hm : pr ∈ l := hget ▸ List.getElem_mem hlt
    have etk : l.take (k + 1) = l.take k ++ [pr] := by rw [List.take_add_one, hlk]; rfl
    refine ⟨qa, _, rfl, SqT.of (uH _ _ hq), rfl, _, _, rfl, _, _, rfl, rfl, ?_⟩
    refine hb pr hm H' _ _ uH (fun y hy => ?_) fun hy => ?_
    · refine ⟨_, hD', line1000 (Nat.le_trans (List.length_filterMap_le _ _) (by rw [List.length_take]; omega)), ?_, ?_⟩
      · intro b o e
        rw [upd_ne (fun z => by rw [z] at e; rw [hD] at e; cases e)]
        exact uH _ _ e
      · rw [upd_same, etk, List.filterMap_append]
        simp [hy]
    · refine ⟨uH, ?_⟩
      rw [hD', etk, List.filterMap_append]
      simp [hy]
  · obtain ⟨uH, hD'⟩ := p
    refine q D H' hD uH ?_
    rw [hD', hl, List.take_length]
def kLcRg (g : TG) (tt : TT) (te : TE) (ks : List Nat) (σ : L2.St) (Q : VK) (j : Int) (H1 : Hp) : Prop := ∀ D, H1 D = none → ∃ W : Nat → Nat → Hp → Prop, (∃ m, W 0 m (upd H1 D (.lst []))) ∧ ∀ i m H, W i m H →
  ((Itr 0 j.toNat).stop i H ∧ Q (.ref D) H) ∨ ((Itr 0 j.toNat).go i H ∧ ∃ Nx : Hp → Prop, (∀ H', Nx H' → ∃ m', m' < m ∧ W (i + 1) m' H') ∧ ∀ x H', (Itr 0 j.toNat).yld i H x H' → g x (wipe σ ks) H' fun σ2 H2 => wipe σ2 ks = wipe σ ks ∧ tt σ2 H2 fun b H3 =>
    if b = true then te σ2 H3 fun y H4 => ∃ acc, H4 D = some (.lst acc) ∧ acc.length < sizeLine ∧ Nx (upd H4 D (.lst (acc ++ [y]))) else Nx H3)
instance {g : TG} : Step (tLc (iRng1 ta) g tt te ks σ H Q) (ta σ H (kR1 (kLcRg g tt te ks σ Q))) := ⟨fun h => h⟩
/-- [k for k in range(n) if t(k)] -/
theorem g_lcRg (t : Nat → Bool) {n : Nat} (hn : n ≤ 1000)
    (hb : ∀ k, k < n → ∀ H1 (R : Bool → Hp → Prop), Up H H1 → R (t k) H1 → wipe ((wipe σ ks).set i (some (.int k))) ks = wipe σ ks ∧ tt ((wipe σ ks).set i (some (.int k))) H1 R)
    (he : ∀ k, k < n → ((wipe σ ks).set i (some (.int (k : Nat))))[i]? = some (some (.int (k : Nat))))
    (q : ∀ D H', H D = none → Up H H' → H' D = some (.lst (((List.range n).filter t).map fun k => V.int (k : Nat))) → Q (.ref D) H') : kLcRg (gName i) tt (tVar i) ks σ Q (n : Int) H := by
  intro D hD
  have u0 : Up H (upd H D (.lst [])) := Up.new hD
  rw [Int.toNat_natCast]
  refine lc_range (lo := 0) (n := n) (fun k H' => Up H H' ∧ H' D = some (.lst (((List.range k).filter t).map fun k => V.int (k : Nat)))) ⟨u0, upd_same⟩ (fun k H' hk p => ?_) fun H' p => q D H' hD p.1 p.2
  obtain ⟨uH, hD'⟩ := p
  show wipe ((wipe σ ks).set i (some (.int (0 + (k : Int))))) ks = wipe σ ks ∧ _
  rw [Int.zero_add]
  refine hb k hk H' _ uH ?_
  have er : List.range (k + 1) = List.range k ++ [k] := List.range_succ
  cases ht : t k with
  | true =>
    rw [if_pos rfl]
    refine ⟨_, he k hk, _, hD', line1000 ?_, ?_, ?_⟩
    · rw [List.length_map]
      exact Nat.le_trans (List.length_filter_le _ _) (by rw [List.length_range]; omega)
    · intro b o e
      rw [upd_ne (fun z => by rw [z] at e; rw [hD] at e; cases e)]
      exact uH _ _ e
    · rw [upd_same, er, List.filter_append]
      simp [ht]
  | false =>
    rw [if_neg (by decide)]
    refine ⟨uH, ?_⟩
    rw [hD', er, List.filter_append]
    simp [ht]
end
theorem g_iv {b : Bool} {ta tb : VK → Prop} {v : V} {H : Hp} {Q : VK} (h1 : b = true → ∀ Q : VK, Q v H → ta Q) (h2 : b = false → ∀ Q : VK, Q v H → tb Q) (q : Q v H) : if b = true then ta Q else tb Q := by
  cases b with
  | true => rw [if_pos rfl]; exact h1 rfl Q q
  | false => rw [if_neg (by decide)]; exact h2 rfl Q q
theorem Up.setF {H H' : Hp} {p : Addr} {o : HO} (u : Up H H') (h : H p = none) : Up H (upd H' p o) := fun b x e => by
  rw [upd_ne (fun z => by rw [z] at e; rw [h] at e; cases e)]
  exact u _ _ e
theorem PrL.setL {H : Hp} {p : Addr} {ys : List V} {o : HO} {vs : List V} {l : List Pr} (r : PrL H vs l) (h : H p = some (.lst ys)) : PrL (upd H p o) vs l := r.upX UpX.set (fun xs e => by rw [h] at e; cases e)
theorem line2 {n : Nat} (h : n ≤ 2000) : n < sizeLine := by
  have : sizeLine = 16777216 := sizeLine_eq
  omega
instance {i : Nat} {v : V} {σ : L2.St} {H : Hp} {te : TE} {ti : TIp} {nx : L2.St → Hp → Prop} {rt : VK} {bk ct : L2.St → Hp → Prop} [h : SlotI σ i v] : Step (tAug i te ti ⟨nx, rt, bk, ct⟩ σ H) (te σ H fun y H1 => ti v y H1 fun z H2 => nx (σ.set i (some z)) H2) := ⟨fun q => ⟨v, h.at_, q⟩⟩
instance {g : Int → Int → Int} {x y : Int} {H : Hp} {Q : VK} : Step (ipI g (.int x) (.int y) H Q) (Q (.int (g x y)) H) := ⟨fun q => ⟨x, y, rfl, rfl, q⟩⟩
theorem Tp.upX {H H' : Hp} {x t : Addr} {l : List Pr} (u : UpX x H H') (hx : ∀ xs, H x ≠ some (.tup xs)) : Tp H t l → Tp H' t l := fun ⟨vs, h, r⟩ => ⟨vs, u _ _ (fun z => hx _ (by rw [z] at h; exact h)) h, r.upX u hx⟩
theorem UpX.of {H H' : Hp} {x : Addr} (c : Ch [x] H H') : UpX x H H' := fun b o n h => c b o h (by simp [n])
/-- two ways that come together: W is what both lead to *-/
theorem g_meet {b : Bool} {t u : TS} {nx : L2.St → Hp → Prop} {rt : VK} {bk ct : L2.St → Hp → Prop} {σ : L2.St} {H : Hp} (W : L2.St → Hp → Prop) (h1 : b = true → ∀ nx' : L2.St → Hp → Prop, (∀ σ H, W σ H → nx' σ H) → t ⟨nx', rt, bk, ct⟩ σ H) (h2 : b = false → ∀ nx' : L2.St → Hp → Prop, (∀ σ H, W σ H → nx' σ H) → u ⟨nx', rt, bk, ct⟩ σ H)
    (q : ∀ σ H, W σ H → nx σ H) : if b = true then t ⟨nx, rt, bk, ct⟩ σ H else u ⟨nx, rt, bk, ct⟩ σ H := by
  cases b with
  | true => rw [if_pos rfl]; exact h1 rfl nx q
  | false => rw [if_neg (by decide)]; exact h2 rfl nx q
def gpn (b : Option Int) (r : List Pr) : List Pr := match b with
  | none => []
  | some u => gp (u + 1) r
theorem g_eqO {x y : Option Int} {H : Hp} {Q : VK} (q : Q (.bl (decide (x = y))) H) : rEq (ov x) (ov y) H Q := by
  have e : decide (ov x = ov y) = decide (x = y) := by
    cases x <;> cases y <;> simp [ov]
  refine ⟨?_, by rw [e]; exact q⟩
  cases x <;> cases y <;> rfl
/-- the rest of com behind a step *-/
def comr (p q : Pr) (a b : List Pr) : List Pr := if p.2 = early p.2 q.2 then com a (q :: b) else com (p :: a) b
theorem com_yes {p q : Pr} {a b : List Pr} (c : ∀ h, early p.2 q.2 = some h → max p.1 q.1 ≤ h) : com (p :: a) (q :: b) = (max p.1 q.1, early p.2 q.2) :: comr p q a b := by
  conv => lhs; unfold com
  simp only []
  rw [if_pos c]
  rfl
theorem com_no {p q : Pr} {a b : List Pr} (c : ¬ ∀ h, early p.2 q.2 = some h → max p.1 q.1 ≤ h) : com (p :: a) (q :: b) = comr p q a b := by
  conv => lhs; unfold com
  simp only []
  rw [if_neg c]
  rfl
theorem com_nil2 {a : List Pr} : com a [] = [] := by
  cases a <;> (unfold com; rfl)
theorem com_nil1 {b : List Pr} : com [] b = [] := by
  unfold com; rfl
theorem g_tYes {te : TE} {R : V → Hp → Prop} {N : Hp → Prop} {σ : L2.St} {H : Hp} (h : te σ H R) : tYes σ H fun b H3 => if b = true then te σ H3 R else N H3 := by
  show if (true : Bool) = true then te σ H R else N H
  rw [if_pos rfl]
  exact h
theorem res_at {L Hs : List Int} {n : Nat} : ∀ {st : List Nat} {k s : Nat}, st[k]? = some s → (res L Hs n st)[k]? = some (L.getD s 0, en Hs (st[k + 1]?.getD n))
  | [s], 0, _, e => by
    cases e
    rfl
  | s :: s' :: r, 0, _, e => by
    cases e
    rfl
  | [s], k + 1, _, e => by cases e
  | s :: s' :: r, k + 1, x, e => by
    have z := res_at (L := L) (Hs := Hs) (n := n) (st := s' :: r) (k := k) (s := x) e
    simpa [res] using z
theorem res_len {L Hs : List Int} {n : Nat} : ∀ {st : List Nat}, (res L Hs n st).length = st.length
  | [] => rfl
  | [_] => rfl
  | s :: s' :: r => by
    show (res L Hs n (s' :: r)).length + 1 = _
    rw [res_len]
    rfl
theorem fil_lt {n : Nat} {t : Nat → Bool} {k s : Nat} (e : ((List.range n).filter t)[k]? = some s) : s < n := by
  have := List.mem_of_getElem? e
  rw [List.mem_filter, List.mem_range] at this
  exact this.1
theorem fil_pos {n : Nat} {t : Nat → Bool} {k s : Nat} (e : ((List.range n).filter t)[k + 1]? = some s) : 1 ≤ s := by
  obtain ⟨h1, e1⟩ := List.getElem?_eq_some_iff.mp e
  have p : ((List.range n).filter t).Pairwise (· < ·) := List.Pairwise.filter _ List.pairwise_lt_range
  have := List.pairwise_iff_getElem.mp p k (k + 1) (by omega) h1 (by omega)
  omega
theorem com_len : ∀ (a b : List Pr), (com a b).length ≤ a.length + b.length
  | [], b => by unfold com; simp
  | _ :: _, [] => by unfold com; simp
  | p :: a, q :: b => by
    have h1 := com_len a (q :: b)
    have h2 := com_len (p :: a) b
    unfold com
    simp only [List.length_cons] at h1 h2 ⊢
    by_cases c1 : p.2 = early p.2 q.2 <;> by_cases c2 : (∀ h, early p.2 q.2 = some h → max p.1 q.1 ≤ h)
    · rw [if_pos c1, if_pos c2]; simp only [List.length_cons]; omega
    · rw [if_pos c1, if_neg c2]; omega
    · rw [if_neg c1, if_pos c2]; simp only [List.length_cons]; omega
    · rw [if_neg c1, if_neg c2]; omega
termination_by a b => a.length + b.length
theorem gp_len : ∀ (l : List Pr) (lo : Int), (gp lo l).length ≤ l.length + 1 := by
  intro l
  induction l with
  | nil => intro lo; unfold gp; simp
  | cons p r ih =>
    intro lo
    obtain ⟨a, b⟩ := p
    have h0 : (if lo < a then [((lo, some (a - 1)) : Pr)] else []).length ≤ 1 := by split <;> simp
    cases b with
    | none =>
      show ((if lo < a then [((lo, some (a - 1)) : Pr)] else []) ++ []).length ≤ _
      rw [List.append_nil, List.length_cons]
      omega
    | some u =>
      show ((if lo < a then [((lo, some (a - 1)) : Pr)] else []) ++ gp (u + 1) r).length ≤ _
      have := ih (u + 1)
      rw [List.length_append, List.length_cons]
      omega
end AF
/-! equal tuples of pairs; comprehensions that make pairs *-/
namespace AF
open PySem PySem.Spec PyProof.Rows L2
open ST (Pr Ok sem Canon com gp early plus spr saB en res sumc Ended)
def od : Option Int → PyData
  | none => .none
  | some i => .int i
def prD (p : Pr) : PyData := .tuple [.int p.1, od p.2]
theorem od_can (o : Option Int) : (od o).canLay0 = true := by cases o <;> rfl
theorem od_dep (o : Option Int) : (od o).depth = 0 := by cases o <;> rfl
theorem prD_can (p : Pr) : (prD p).canLay0 = true := by
  show ((PyData.int p.1).canLay0 && ((od p.2).canLay0 && true)) = true
  rw [od_can]; rfl
theorem prD_dep (p : Pr) : (prD p).depth = 1 := by
  show max (PyData.int p.1).depth (max (od p.2).depth 0) + 1 = 1
  rw [od_dep]; rfl
theorem all_can : ∀ l : List Pr, PyData.canLayAll0 (l.map prD) = true
  | [] => rfl
  | p :: r => by
    show ((prD p).canLay0 && PyData.canLayAll0 (r.map prD)) = true
    rw [prD_can, all_can r]; rfl
theorem all_dep : ∀ l : List Pr, PyData.depthAll (l.map prD) ≤ 1
  | [] => Nat.zero_le _
  | p :: r => by
    show max (prD p).depth (PyData.depthAll (r.map prD)) ≤ 1
    have := all_dep r
    rw [prD_dep]; omega
theorem tupD (l : List Pr) : SeqAt.shaped (.tuple (l.map prD)) = true := by
  show ((PyData.tuple (l.map prD)).canLay0 && decide ((PyData.tuple (l.map prD)).depth ≤ 64)) = true
  have h1 : (PyData.tuple (l.map prD)).canLay0 = true := all_can l
  have h2 : (PyData.tuple (l.map prD)).depth ≤ 64 := by
    have := all_dep l
    show PyData.depthAll (l.map prD) + 1 ≤ 64
    omega
  rw [h1, decide_eq_true h2]; rfl
theorem od_eqv (x y : Option Int) : PyData.eqv (od x) (od y) = decide (x = y) := by
  cases x <;> cases y
  · rfl
  · simp [od, PyData.eqv]
  · simp [od, PyData.eqv]
  · rename_i a b
    show (a == b) = decide (some a = some b)
    simp only [Option.some.injEq]
    rfl
theorem prD_eqv (p q : Pr) : PyData.eqv (prD p) (prD q) = decide (p = q) := by
  obtain ⟨a, b⟩ := p
  obtain ⟨c, d⟩ := q
  show ((a == c) && (PyData.eqv (od b) (od d) && true)) = _
  rw [od_eqv, Bool.and_true, Bool.eq_iff_iff]
  simp
theorem all_eqv : ∀ l m : List Pr, PyData.eqvAll (l.map prD) (m.map prD) = decide (l = m)
  | [], [] => rfl
  | [], _ :: _ => by simp [PyData.eqvAll]
  | _ :: _, [] => by simp [PyData.eqvAll]
  | p :: r, q :: t => by
    show (PyData.eqv (prD p) (prD q) && PyData.eqvAll (r.map prD) (t.map prD)) = _
    rw [prD_eqv, all_eqv r t, Bool.eq_iff_iff]
    simp
theorem dp_ov {K : PySem.W.Frag} {H : Hp} : ∀ o : Option Int, Dp K H (ov o) (od o)
  | none => .non
  | some i => .int i
theorem dp_all {K : PySem.W.Frag} {H : Hp} : ∀ {vs : List V} {l : List Pr}, PrL H vs l → DpAll K H vs (l.map prD)
  | _, _, .nil => .nil
  | _, _, .cons h r => .cons (dp_tup h (.cons (.int _) (.cons (dp_ov _) .nil))) (dp_all r)
theorem g_eqP {K : PySem.W.Frag} {H : Hp} {s t : Addr} {a b : List Pr} {Q : VK} (ha : Tp H s a) (hb : Tp H t b) (q : Q (.bl (decide (a = b))) H) : rEqD K (.ref s) (.ref t) H Q := by
  obtain ⟨vs, hs, rs⟩ := ha
  obtain ⟨ws, ht, rt⟩ := hb
  exact ⟨.tuple (a.map prD), .tuple (b.map prD), dp_tup hs (dp_all rs), dp_tup ht (dp_all rt), tupD a, tupD b, by
    rw [show PyData.eqv (.tuple (a.map prD)) (.tuple (b.map prD)) = PyData.eqvAll (a.map prD) (b.map prD) from rfl, all_eqv]
    exact q⟩
/-- [(.., ..) for low, high in pairs] -/
theorem g_lcA {K : PySem.W.Frag} {te : TE} {ks : List Nat} {σ : L2.St} {Q : VK} {H : Hp} {a : Addr} {vs : List V} {l : List Pr} {i j : Nat} (f : Pr → Pr) (hT : H a = some (.tup vs)) (hp : PrL H vs l) (hn : l.length ≤ 1000)
    (hb : ∀ p, p ∈ l → ∀ H1 (R : V → Hp → Prop), Up H H1 → (∀ q H2, Up H1 H2 → H2 q = some (.tup [.int (f p).1, ov (f p).2]) → R (.ref q) H2) →
      wipe (((wipe σ ks).set i (some (.int p.1))).set j (some (ov p.2))) ks = wipe σ ks ∧ te (((wipe σ ks).set i (some (.int p.1))).set j (some (ov p.2))) H1 R)
    (q : ∀ D H', H D = none → Up H H' → Lp H' D (l.map f) → Q (.ref D) H') : kLcT K (gTup K 2 (gCons (gName i) (gCons (gName j) gNil))) tYes te ks σ Q (.ref a) H := by
  refine ⟨a, rfl, ⟨vs, SqT.of hT⟩, fun D hD => ?_⟩
  have u0 : Up H (upd H D (.lst [])) := Up.new hD
  have hl := hp.len
  refine lc_tup (K := K) (xs := vs) (fun k H' => Up H H' ∧ ∃ acc, H' D = some (.lst acc) ∧ PrL H' acc ((l.take k).map f)) ⟨u0, [], upd_same, .nil⟩ (fun k H' _ p => SqT.of (p.1 _ _ hT)) (fun k x H' hx p => ?_) fun H' p => ?_
  · obtain ⟨uH, acc, hD', hacc⟩ := p
    obtain ⟨qa, pr, rfl, hlk, hq⟩ := hp.get hx
    obtain ⟨hlt, hget⟩ := List.getElem?_eq_some_iff.mp hlk
    have hm : pr ∈ l := hget ▸ List.getElem_mem hlt
    have etk : l.take (k + 1) = l.take k ++ [pr] := by rw [List.take_add_one, hlk]; rfl
    refine ⟨qa, _, rfl, SqT.of (uH _ _ hq), rfl, _, _, rfl, _, _, rfl, rfl, ?_⟩
    have z := hb pr hm H' (fun y H4 => ∃ acc, H4 D = some (.lst acc) ∧ acc.length < sizeLine ∧ (Up H (upd H4 D (.lst (acc ++ [y]))) ∧ ∃ acc', upd H4 D (.lst (acc ++ [y])) D = some (.lst acc') ∧ PrL (upd H4 D (.lst (acc ++ [y]))) acc' ((l.take (k + 1)).map f))) uH (fun q H2 u2 hq2 => ?_)
    · exact ⟨z.1, g_tYes z.2⟩
    · have hD2 := u2 _ _ hD'
      refine ⟨acc, hD2, line1000 ?_, Up.setF (uH.trans u2) hD, _, upd_same, ?_⟩
      · rw [hacc.len, List.length_map, List.length_take]; omega
      · rw [etk, List.map_append]
        exact ((hacc.up u2).append (PrL.cons hq2 .nil)).setL hD2
  · obtain ⟨uH, acc, hD', hacc⟩ := p
    rw [hl, List.take_length] at hacc
    exact q D H' hD uH ⟨acc, hD', hacc⟩
theorem com_empty {a b : List Pr} (ok : ∀ p, p ∈ com a b → Ok p) : com a b = [] ↔ ∀ x, ¬ sem (com a b) x := by
  constructor
  · intro e x h
    rw [e] at h
    exact ST.sem_nil.mp h
  · intro h
    cases e : com a b with
    | nil => rfl
    | cons p r =>
      rw [e] at h ok
      exact absurd ⟨p, List.mem_cons_self, ST.in_low (ok p List.mem_cons_self)⟩ (h p.1)
end AF
/-! own membership, lists turned round, comprehensions whose tests make new objects, lists of numbers compared *-/
namespace AF
open PySem PySem.Spec PyProof.Rows L2
open ST (Pr Ok sem Canon com gp early plus spr saB en res sumc Ended)
/-- an own __contains__ -/
structure CoO (K : PySem.W.Frag) (C f : Addr) : Prop where
  at_ : PySem.W.findIn K (.ref C) "__contains__" = some (some (.ref f))
  fn : PySem.W.isFn K (.ref f) = true
def rInO (C : Addr) (sp : Sp) (E : XK) : R2 := fun x y H Q => ∃ a dx fs, y = .ref a ∧ H a = some (.ins C dx fs) ∧ sp [.ref a, x] H (fun z H' => ∃ b, z = .bl b ∧ Q (.bl b) H') E
theorem op_inO {X : Cx} {k : Nat} {f C : Addr} {ps : List Str} {sp : Sp} {E : XK} (D : Dn X.prog X.w X.K X.mg X.base k f ps sp) (B : CoO X.K C f) (hr : Room k X.A) (hx : Passes (L2.CX X.prog X.w) X E) : OpR X (compareOp .In) (rInO C sp E) := by
  intro pins s σ H x y v u Q I rx ry h
  obtain ⟨a, dx, fs, rfl, ha, q⟩ := h
  cases ry
  obtain ⟨fd, F, b⟩ := D.ex
  obtain ⟨mA, J, _⟩ := ins_get I.hok ha
  obtain ⟨od, J, _⟩ := J.look
  obtain ⟨m, hF⟩ := I.fr
  refine PySem.W.in_K hF I.ok.mod.kin J B.at_ B.fn ?_
  refine thn (run_fn (us := [.ref a, v]) (vs := [.ref a, x]) F hr b .nil hx I (.cons rfl (.cons rx .nil)) q) fun r s' z => ?_
  obtain ⟨z', H', I', rz, c, ec, qz⟩ := z
  subst ec
  cases rz
  exact wpAny_truthy_bool ⟨.bl c, H', I', rfl, qz⟩
theorem op_inOK {X : Cx} {P : Program} {w : World} {K : PySem.W.Frag} {mg : Str → Option Value} {base : Heap} {k : Nat} {f C : Addr} {ps : List Str} {sp : Sp} (D : Dn P w K mg base k f ps sp) (B : CoO K C f) (hr : Room k X.A) (h1 : X.prog = P := by rfl) (h2 : X.w = w := by rfl) (h3 : X.K = K := by rfl) (h4 : X.mg = mg := by rfl) (h5 : X.base = base := by rfl) :
    OpR X (compareOp .In) (rInO C sp E0) := by
  subst h1 h2 h3 h4 h5
  exact op_inO D B hr passL
/-! xs[::-1] -/
def tRev (K : PySem.W.Frag) (te : TE) (ts : TO) : TE := fun σ H Q => te σ H fun x H1 => ts σ H1 fun i H2 => i = some (-1) ∧ ∃ a xs, x = .ref a ∧ SqL K H2 a xs ∧ ∀ p, H2 p = none → Q (.ref p) (upd H2 p (.lst xs.reverse))
theorem pe_rev {X : Cx} {e st : Expr} {te : TE} {ts : TO} {p2 pos : Pos} (he : PE X e te) (hs : PO X (some st) ts) : PE X (.Subscript e (.Slice none none (some st) p2) pos) (tRev X.K te ts) := by
  refine ⟨fun pins s σ H Q I h => ?_⟩
  refine Subscript_ (thn (he.run pins s σ H _ I h) fun v s1 ⟨x, H1, I1, r1, q1⟩ => ?_)
  refine wpAny_Slice ?_
  rw [evalPart_none]
  refine wpAny_pure (wpAny_pure ?_)
  refine thn (hs.run pins s1 σ H1 _ I1 q1) fun vs s2 ⟨i, H2, I2, ps, q2⟩ => ?_
  obtain ⟨rfl, a, xs, rfl, hx, q⟩ := q2
  have I4 : Inv X pins σ H2 { s2 with heap := s2.heap.push { cls := .type "slice", data := .fields #[.none, .none, vs] } } := I2.kept (t' := s2.toks) fun b ob q => Heap.get?_push_of_some _ q
  cases r1
  obtain ⟨its, r, ht, hz⟩ := I4.list hx
  have hlen := r.length
  show wpAny (model X.prog X.w) X.A (subscriptTail e (.Slice none none (some st) p2) (.ref a) (.ref s2.heap.objs.size)) (EP X pins σ Q) X.xe { s2 with heap := s2.heap.push { cls := .type "slice", data := .fields #[.none, .none, vs] } }
  refine tail_any (ops := [.ref a, .ref s2.heap.objs.size]) ht.isList.typeIs slot_list_getitem.lookup (wpAny_getItem_list_slice ht.isList (Heap.IsSliceOf.new ..) .none .none ps (by decide) ?_ (by rw [List.size_toArray] <;> omega)) (by with_unfolding_all rfl)
  rw [PySem.W.krv_pick]
  refine ⟨.ref _, _, I4.laid (t' := s2.toks) (o := .lst xs.reverse) (fun b ob q => Heap.get?_push_of_some _ q) (Nat.le_refl _) ?_, rfl, q _ ?_⟩
  · exact ⟨by rw [List.length_reverse]; omega, _, 0, r.reverse, Heap.get?_push_size _ rfl⟩
  · exact I4.hok.fresh (Nat.le_refl _)

/-! comprehensions whose tests make new objects -/
section
variable {K : PySem.W.Frag} {tt : TT} {te : TE} {ks : List Nat} {σ σ2 : L2.St} {Q : VK} {H : Hp} {a : Addr} {vs : List V} {l : List Pr} {i j : Nat} {ta : TA}
/-- [k for k in range(lo, lo + n) if t(k)] -/
theorem lc_rgU (t : Nat → Bool) {lo : Int} {n : Nat} (hn : n ≤ 1000)
    (hb : ∀ k, k < n → ∀ H1 (R : Bool → Hp → Prop), Up H H1 → (∀ H2, Up H1 H2 → R (t k) H2) → wipe ((wipe σ ks).set i (some (.int (lo + (k : Nat))))) ks = wipe σ ks ∧ tt ((wipe σ ks).set i (some (.int (lo + (k : Nat))))) H1 R)
    (he : ∀ k, k < n → ((wipe σ ks).set i (some (.int (lo + (k : Nat)))))[i]? = some (some (.int (lo + (k : Nat)))))
    (q : ∀ D H', H D = none → Up H H' → H' D = some (.lst (((List.range n).filter t).map fun k => V.int (lo + (k : Nat)))) → Q (.ref D) H') (D : Addr) (hD : H D = none) :
    ∃ W : Nat → Nat → Hp → Prop, (∃ m, W 0 m (upd H D (.lst []))) ∧ ∀ i' m H, W i' m H →
      ((Itr lo n).stop i' H ∧ Q (.ref D) H) ∨ ((Itr lo n).go i' H ∧ ∃ Nx : Hp → Prop, (∀ H', Nx H' → ∃ m', m' < m ∧ W (i' + 1) m' H') ∧ ∀ x H', (Itr lo n).yld i' H x H' → (gName i) x (wipe σ ks) H' fun σ2 H2 => wipe σ2 ks = wipe σ ks ∧ tt σ2 H2 fun b H3 =>
        if b = true then (tVar i) σ2 H3 fun y H4 => ∃ acc, H4 D = some (.lst acc) ∧ acc.length < sizeLine ∧ Nx (upd H4 D (.lst (acc ++ [y]))) else Nx H3) := by
  have u0 : Up H (upd H D (.lst [])) := Up.new hD
  refine lc_range (lo := lo) (n := n) (fun k H' => Up H H' ∧ H' D = some (.lst (((List.range k).filter t).map fun k => V.int (lo + (k : Nat))))) ⟨u0, upd_same⟩ (fun k H' hk p => ?_) fun H' p => q D H' hD p.1 p.2
  obtain ⟨uH, hD'⟩ := p
  show wipe ((wipe σ ks).set i (some (.int (lo + (k : Int))))) ks = wipe σ ks ∧ _
  refine hb k hk H' _ uH fun H2 u2 => ?_
  have er : List.range (k + 1) = List.range k ++ [k] := List.range_succ
  have hD2 := u2 _ _ hD'
  cases ht : t k with
  | true =>
    rw [if_pos rfl]
    refine ⟨_, he k hk, _, hD2, line1000 ?_, ?_, ?_⟩
    · rw [List.length_map]
      exact Nat.le_trans (List.length_filter_le _ _) (by rw [List.length_range]; omega)
    · exact Up.setF (uH.trans u2) hD
    · rw [upd_same, er, List.filter_append]
      simp [ht]
  | false =>
    rw [if_neg (by decide)]
    refine ⟨uH.trans u2, ?_⟩
    rw [hD2, er, List.filter_append]
    simp [ht]
theorem g_lcRgU (t : Nat → Bool) {n : Nat} (hn : n ≤ 1000)
    (hb : ∀ k, k < n → ∀ H1 (R : Bool → Hp → Prop), Up H H1 → (∀ H2, Up H1 H2 → R (t k) H2) → wipe ((wipe σ ks).set i (some (.int (k : Nat)))) ks = wipe σ ks ∧ tt ((wipe σ ks).set i (some (.int (k : Nat)))) H1 R)
    (he : ∀ k, k < n → ((wipe σ ks).set i (some (.int (k : Nat))))[i]? = some (some (.int (k : Nat))))
    (q : ∀ D H', H D = none → Up H H' → H' D = some (.lst (((List.range n).filter t).map fun k => V.int (k : Nat))) → Q (.ref D) H') : kLcRg (gName i) tt (tVar i) ks σ Q (n : Int) H := by
  intro D hD
  rw [Int.toNat_natCast]
  have z : ∀ k : Nat, (0 : Int) + (k : Nat) = (k : Nat) := fun k => Int.zero_add _
  exact lc_rgU (lo := 0) t hn (fun k hk => by rw [z]; exact hb k hk) (fun k hk => by rw [z]; exact he k hk) (fun D H' hD u h => q D H' hD u (by rw [h]; congr 2; exact List.map_congr_left fun k _ => by rw [z])) D hD
def kLcRg2 (g : TG) (tt : TT) (te : TE) (ks : List Nat) (σ : L2.St) (Q : VK) (lo hi : Int) (H1 : Hp) : Prop := ∀ D, H1 D = none → ∃ W : Nat → Nat → Hp → Prop, (∃ m, W 0 m (upd H1 D (.lst []))) ∧ ∀ i m H, W i m H →
  ((Itr lo (hi - lo).toNat).stop i H ∧ Q (.ref D) H) ∨ ((Itr lo (hi - lo).toNat).go i H ∧ ∃ Nx : Hp → Prop, (∀ H', Nx H' → ∃ m', m' < m ∧ W (i + 1) m' H') ∧ ∀ x H', (Itr lo (hi - lo).toNat).yld i H x H' → g x (wipe σ ks) H' fun σ2 H2 => wipe σ2 ks = wipe σ ks ∧ tt σ2 H2 fun b H3 =>
    if b = true then te σ2 H3 fun y H4 => ∃ acc, H4 D = some (.lst acc) ∧ acc.length < sizeLine ∧ Nx (upd H4 D (.lst (acc ++ [y]))) else Nx H3)
instance {g : TG} : Step (tLc (iRng2 ta) g tt te ks σ H Q) (ta σ H (kR2 (kLcRg2 g tt te ks σ Q))) := ⟨fun h => h⟩
theorem g_lcRg2 (t : Nat → Bool) {lo hi : Int} {n : Nat} (en : (hi - lo).toNat = n) (hn : n ≤ 1000)
    (hb : ∀ k, k < n → ∀ H1 (R : Bool → Hp → Prop), Up H H1 → (∀ H2, Up H1 H2 → R (t k) H2) → wipe ((wipe σ ks).set i (some (.int (lo + (k : Nat))))) ks = wipe σ ks ∧ tt ((wipe σ ks).set i (some (.int (lo + (k : Nat))))) H1 R)
    (he : ∀ k, k < n → ((wipe σ ks).set i (some (.int (lo + (k : Nat)))))[i]? = some (some (.int (lo + (k : Nat)))))
    (q : ∀ D H', H D = none → Up H H' → H' D = some (.lst (((List.range n).filter t).map fun k => V.int (lo + (k : Nat)))) → Q (.ref D) H') : kLcRg2 (gName i) tt (tVar i) ks σ Q lo hi H := by
  intro D hD
  rw [en]
  exact lc_rgU t hn hb he q D hD
/-- [n for n in numbers if t(n)] -/
theorem g_lcI (t : Int → Bool) {ns : List Int} (hT : H a = some (.lst (ns.map V.int))) (hn : ns.length ≤ 1000)
    (hb : ∀ k, k ∈ ns → ∀ H1 (R : Bool → Hp → Prop), Up H H1 → (∀ H2, Up H1 H2 → R (t k) H2) → wipe ((wipe σ ks).set i (some (.int k))) ks = wipe σ ks ∧ tt ((wipe σ ks).set i (some (.int k))) H1 R)
    (he : ∀ k : Int, ((wipe σ ks).set i (some (.int k)))[i]? = some (some (.int k)))
    (q : ∀ D H', H D = none → Up H H' → H' D = some (.lst ((ns.filter t).map V.int)) → Q (.ref D) H') : kLcL K (gName i) tt (tVar i) ks σ Q (.ref a) H := by
  refine ⟨a, rfl, ⟨_, SqL.of hT⟩, fun D hD => ?_⟩
  have u0 : Up H (upd H D (.lst [])) := Up.new hD
  refine lc_list (K := K) (xs := ns.map V.int) (fun k H' => Up H H' ∧ H' D = some (.lst (((ns.take k).filter t).map V.int))) ⟨u0, upd_same⟩ (fun k H' _ p => SqL.of (p.1 _ _ hT)) (fun k x H' hx p => ?_) fun H' p => ?_
  · obtain ⟨uH, hD'⟩ := p
    rw [List.getElem?_map] at hx
    cases e : ns[k]? with
    | none => rw [e] at hx; cases hx
    | some z =>
      rw [e] at hx
      cases hx
      have etk : ns.take (k + 1) = ns.take k ++ [z] := by rw [List.take_add_one, e]; rfl
      refine hb z (List.mem_of_getElem? e) H' _ uH fun H2 u2 => ?_
      have hD2 := u2 _ _ hD'
      cases ht : t z with
      | true =>
        rw [if_pos rfl]
        refine ⟨_, he z, _, hD2, line1000 ?_, Up.setF (uH.trans u2) hD, ?_⟩
        · rw [List.length_map]
          exact Nat.le_trans (List.length_filter_le _ _) (by rw [List.length_take]; omega)
        · rw [upd_same, etk, List.filter_append]
          simp [ht]
      | false =>
        rw [if_neg (by decide)]
        refine ⟨uH.trans u2, ?_⟩
        rw [hD2, etk, List.filter_append]
        simp [ht]
  · obtain ⟨uH, hD'⟩ := p
    rw [List.length_map, List.take_length] at hD'
    exact q D H' hD uH hD'
/-- [c for low, high in a list of pairs if t(low, high)], c plain -/
theorem g_lcPL (f : Pr → Option V) (hT : H a = some (.lst vs)) (hp : PrL H vs l) (hn : l.length ≤ 1000)
    (hb : ∀ p, p ∈ l → ∀ H1 (R : V → Hp → Prop) (N : Hp → Prop), Up H H1 → (∀ y, f p = some y → R y H1) → (f p = none → N H1) →
      wipe (((wipe σ ks).set i (some (.int p.1))).set j (some (ov p.2))) ks = wipe σ ks ∧ tt (((wipe σ ks).set i (some (.int p.1))).set j (some (ov p.2))) H1 fun b H3 => if b = true then te (((wipe σ ks).set i (some (.int p.1))).set j (some (ov p.2))) H3 R else N H3)
    (q : ∀ D H', H D = none → Up H H' → H' D = some (.lst (l.filterMap f)) → Q (.ref D) H') : kLcL K (gTup K 2 (gCons (gName i) (gCons (gName j) gNil))) tt te ks σ Q (.ref a) H := by
  refine ⟨a, rfl, ⟨vs, SqL.of hT⟩, fun D hD => ?_⟩
  have u0 : Up H (upd H D (.lst [])) := Up.new hD
  have hl := hp.len
  refine lc_list (K := K) (xs := vs) (fun k H' => Up H H' ∧ H' D = some (.lst ((l.take k).filterMap f))) ⟨u0, upd_same⟩ (fun k H' _ p => SqL.of (p.1 _ _ hT)) (fun k x H' hx p => ?_) fun H' p => ?_
  · obtain ⟨uH, hD'⟩ := p
    obtain ⟨qa, pr, rfl, hlk, hq⟩ := hp.get hx
    obtain ⟨hlt, hget⟩ := List.getElem?_eq_some_iff.mp hlk
    have hm : pr ∈ l := hget ▸ List.getElem_mem hlt
    have etk : l.take (k + 1) = l.take k ++ [pr] := by rw [List.take_add_one, hlk]; rfl
    refine ⟨qa, _, rfl, SqT.of (uH _ _ hq), rfl, _, _, rfl, _, _, rfl, rfl, ?_⟩
    refine hb pr hm H' _ _ uH (fun y hy => ?_) fun hy => ?_
    · refine ⟨_, hD', line1000 (Nat.le_trans (List.length_filterMap_le _ _) (by rw [List.length_take]; omega)), Up.setF uH hD, ?_⟩
      rw [upd_same, etk, List.filterMap_append]
      simp [hy]
    · refine ⟨uH, ?_⟩
      rw [hD', etk, List.filterMap_append]
      simp [hy]
  · obtain ⟨uH, hD'⟩ := p
    refine q D H' hD uH ?_
    rw [hD', hl, List.take_length]
/-- [pair for pair in pairs if t(pair)] -/
theorem g_lcPN (t : Pr → Bool) (hT : H a = some (.lst vs)) (hp : PrL H vs l) (hn : l.length ≤ 1000)
    (hb : ∀ p q, p ∈ l → ∀ H1 (R : Bool → Hp → Prop), Up H H1 → H1 q = some (.tup [.int p.1, ov p.2]) → R (t p) H1 → wipe ((wipe σ ks).set i (some (.ref q))) ks = wipe σ ks ∧ tt ((wipe σ ks).set i (some (.ref q))) H1 R)
    (he : ∀ k : Addr, ((wipe σ ks).set i (some (.ref k)))[i]? = some (some (.ref k)))
    (q : ∀ D H', H D = none → Up H H' → Lp H' D (l.filter t) → Q (.ref D) H') : kLcL K (gName i) tt (tVar i) ks σ Q (.ref a) H := by
  refine ⟨a, rfl, ⟨_, SqL.of hT⟩, fun D hD => ?_⟩
  have u0 : Up H (upd H D (.lst [])) := Up.new hD
  have hl := hp.len
  refine lc_list (K := K) (xs := vs) (fun k H' => Up H H' ∧ ∃ acc, H' D = some (.lst acc) ∧ PrL H' acc ((l.take k).filter t)) ⟨u0, [], upd_same, .nil⟩ (fun k H' _ p => SqL.of (p.1 _ _ hT)) (fun k x H' hx p => ?_) fun H' p => ?_
  · obtain ⟨uH, acc, hD', hacc⟩ := p
    obtain ⟨qa, pr, rfl, hlk, hq⟩ := hp.get hx
    obtain ⟨hlt, hget⟩ := List.getElem?_eq_some_iff.mp hlk
    have hm : pr ∈ l := hget ▸ List.getElem_mem hlt
    have etk : l.take (k + 1) = l.take k ++ [pr] := by rw [List.take_add_one, hlk]; rfl
    have hq' := uH _ _ hq
    refine hb pr qa hm H' _ uH hq' ?_
    cases ht : t pr with
    | true =>
      rw [if_pos rfl]
      refine ⟨_, he qa, acc, hD', line1000 ?_, Up.setF uH hD, _, upd_same, ?_⟩
      · rw [hacc.len]
        exact Nat.le_trans (List.length_filter_le _ _) (by rw [List.length_take]; omega)
      · rw [etk, List.filter_append, show List.filter t [pr] = [pr] by simp [ht]]
        exact (hacc.append (PrL.cons hq' .nil)).setL hD'
    | false =>
      rw [if_neg (by decide)]
      refine ⟨uH, acc, hD', ?_⟩
      rw [etk, List.filter_append, show List.filter t [pr] = [] by simp [ht], List.append_nil]
      exact hacc
  · obtain ⟨uH, acc, hD', hacc⟩ := p
    rw [hl, List.take_length] at hacc
    exact q D H' hD uH ⟨acc, hD', hacc⟩
end
/-! lists of numbers compared -/
theorem int_can : ∀ l : List Int, PyData.canLayAll0 (l.map PyData.int) = true
  | [] => rfl
  | p :: r => by
    show ((PyData.int p).canLay0 && PyData.canLayAll0 (r.map PyData.int)) = true
    rw [int_can r]; rfl
theorem int_dep : ∀ l : List Int, PyData.depthAll (l.map PyData.int) ≤ 0
  | [] => Nat.zero_le _
  | p :: r => by
    show max (PyData.int p).depth (PyData.depthAll (r.map PyData.int)) ≤ 0
    have := int_dep r
    have e : (PyData.int p).depth = 0 := rfl
    omega
theorem lstI (l : List Int) : SeqAt.shaped (.list (l.map PyData.int)) = true := by
  show ((PyData.list (l.map PyData.int)).canLay0 && decide ((PyData.list (l.map PyData.int)).depth ≤ 64)) = true
  have h1 : (PyData.list (l.map PyData.int)).canLay0 = true := int_can l
  have h2 : (PyData.list (l.map PyData.int)).depth ≤ 64 := by
    have := int_dep l
    show PyData.depthAll (l.map PyData.int) + 1 ≤ 64
    omega
  rw [h1, decide_eq_true h2]; rfl
theorem int_eqv : ∀ l m : List Int, PyData.eqvAll (l.map PyData.int) (m.map PyData.int) = decide (l = m)
  | [], [] => rfl
  | [], _ :: _ => by simp [PyData.eqvAll]
  | _ :: _, [] => by simp [PyData.eqvAll]
  | p :: r, q :: t => by
    show ((p == q) && PyData.eqvAll (r.map PyData.int) (t.map PyData.int)) = _
    rw [int_eqv r t, Bool.eq_iff_iff]
    simp
theorem dp_ints {K : PySem.W.Frag} {H : Hp} : ∀ l : List Int, DpAll K H (l.map V.int) (l.map PyData.int)
  | [] => .nil
  | i :: r => .cons (.int i) (dp_ints r)
theorem g_eqIs {K : PySem.W.Frag} {H : Hp} {s t : Addr} {a b : List Int} {Q : VK} (ha : H s = some (.lst (a.map V.int))) (hb : H t = some (.lst (b.map V.int))) (q : Q (.bl (decide (a = b))) H) : rEqD K (.ref s) (.ref t) H Q :=
  ⟨.list (a.map PyData.int), .list (b.map PyData.int), dp_lst ha (dp_ints a), dp_lst hb (dp_ints b), lstI a, lstI b, by
    rw [show PyData.eqv (.list (a.map PyData.int)) (.list (b.map PyData.int)) = PyData.eqvAll (a.map PyData.int) (b.map PyData.int) from rfl, int_eqv]
    exact q⟩
theorem g_neIs {K : PySem.W.Frag} {H : Hp} {s t : Addr} {a b : List Int} {Q : VK} (ha : H s = some (.lst (a.map V.int))) (hb : H t = some (.lst (b.map V.int))) (q : Q (.bl (!decide (a = b))) H) : rNeD K (.ref s) (.ref t) H Q :=
  ⟨.list (a.map PyData.int), .list (b.map PyData.int), dp_lst ha (dp_ints a), dp_lst hb (dp_ints b), lstI a, lstI b, by
    rw [show PyData.eqv (.list (a.map PyData.int)) (.list (b.map PyData.int)) = PyData.eqvAll (a.map PyData.int) (b.map PyData.int) from rfl, int_eqv]
    exact q⟩
theorem lstP (l : List Pr) : SeqAt.shaped (.list (l.map prD)) = true := by
  show ((PyData.list (l.map prD)).canLay0 && decide ((PyData.list (l.map prD)).depth ≤ 64)) = true
  have h1 : (PyData.list (l.map prD)).canLay0 = true := all_can l
  have h2 : (PyData.list (l.map prD)).depth ≤ 64 := by
    have := all_dep l
    show PyData.depthAll (l.map prD) + 1 ≤ 64
    omega
  rw [h1, decide_eq_true h2]; rfl
theorem g_eqLp {K : PySem.W.Frag} {H : Hp} {s t : Addr} {a b : List Pr} {Q : VK} (ha : Lp H s a) (hb : Lp H t b) (q : Q (.bl (decide (a = b))) H) : rEqD K (.ref s) (.ref t) H Q := by
  obtain ⟨vs, hs, rs⟩ := ha
  obtain ⟨ws, ht, rt⟩ := hb
  exact ⟨.list (a.map prD), .list (b.map prD), dp_lst hs (dp_all rs), dp_lst ht (dp_all rt), lstP a, lstP b, by
    rw [show PyData.eqv (.list (a.map prD)) (.list (b.map prD)) = PyData.eqvAll (a.map prD) (b.map prD) from rfl, all_eqv]
    exact q⟩
/-! rules within a block: the facts' K by name -/
section
variable {X : Cx} {K : PySem.W.Frag} {tg l : Expr} {tl : TE}
theorem pi_listK (hl : PE X l tl) (hK : X.K = K := by rfl) : PI X tg l (iList K tl) := hK ▸ pi_list hl
theorem op_eqDK (hu : X.A.units + 64 < cLine) (hK : X.K = K := by rfl) : OpR X (compareOp .Eq) (rEqD K) := hK ▸ op_eqD hu
theorem op_neDK (hu : X.A.units + 64 < cLine) (hK : X.K = K := by rfl) : OpR X (compareOp .NotEq) (rNeD K) := hK ▸ op_neD hu
theorem op_notIn_seqK (hK : X.K = K := by rfl) : OpR X (compareOp .NotIn) (rIn K true) := hK ▸ op_notIn_seq
end
theorem g_any {K : PySem.W.Frag} {a : Addr} {H : Hp} {Q : VK} {bs : List Bool} (h : SqL K H a (bs.map V.bl)) (q : Q (.bl (bs.any id)) H) : rAny K [.ref a] H Q := ⟨a, bs, rfl, h, q⟩
end AF
/-! classes made by keywords; dict comprehensions over a tuple; a comprehension over texts *-/
namespace AF
open PySem PySem.Spec PyProof.Rows L2
/-- a class whose __init__ takes keywords alone -/
structure Mw (P : Program) (w : World) (K : PySem.W.Frag) (mg : Str → Option Value) (base : Heap) (k : Nat) (C : Addr) (ks : List Str) (gV : List V → List V → List V) (sp : Sp) : Prop where
  ex : ∃ f fd ps, ∃ g : List Value → List Value → List Value, FnOk P w K mg base (L2.CX P w) k f fd ps sp ∧ Mk K C f ∧ KBn K fd ps 1 ks g gV
section
variable {X : Cx} {k : Nat} {C : Addr} {ks : List Str} {sp : Sp} {E : XK} {x : Str} {p pos : Pos} {kws : List Keyword} {tk : TA} {gV : List V → List V → List V}
def tMw (C : Addr) (m : Nat) (sp : Sp) (gV : List V → List V → List V) (E : XK) (tk : TA) : TE := fun σ H Q => tk σ H fun zs H2 => zs.length = m ∧ ∀ x dx, H2 x = none → H2 dx = none → dx ≠ x →
  sp (gV [.ref x] zs) (upd (upd H2 dx (.own x)) x (.ins C dx [])) (fun v H3 => v = .non ∧ Q (.ref x) H3) E
theorem pe_mw (D : Mw X.prog X.w X.K X.mg X.base k C ks gV sp) (hr : Room (k + 1) X.A) (hg : Gl X x) (hm : X.mg x = some (.ref C)) (hx : Passes (L2.CX X.prog X.w) X E) (hkw : PK X kws tk)
    (hall : (backToKw pos (keywordEach kws X.env)).all (·.1.isSome) = true := by rfl) (hks : (backToKw pos (keywordEach kws X.env)).filterMap (·.1) = ks := by rfl) (hdb : (x == ("__debug__" : Str)) = false := by decide)
    (hpl : ((backTo pos (starEach [] X.env)).any (·.1) || (backToKw pos (keywordEach kws X.env)).any (·.1.isNone)) = false := by rfl) :
    PE X (.Call (.Name x p) [] kws pos) (tMw C ks.length sp gV E tk) := by
  obtain ⟨f, fd, ps, g, F, M, hb⟩ := D.ex
  have z := pe_makeK0 (pos := pos) (p := p) M F hr hg hm hb hx hkw hall hks hdb hpl
  exact ⟨fun pins s σ H Q I h => z.run pins s σ H Q I (show tMakeK C 0 ks.length sp gV E tNil tk σ H Q from by
    show tk σ H _
    refine cast ?_ h
    unfold tMw
    congr 1
    funext zs H2
    simp)⟩
end
def kMw (C : Addr) (m : Nat) (sp : Sp) (gV : List V → List V → List V) (E : XK) (Q : VK) (zs : List V) (H2 : Hp) : Prop := zs.length = m ∧ ∀ x dx, H2 x = none → H2 dx = none → dx ≠ x →
  sp (gV [.ref x] zs) (upd (upd H2 dx (.own x)) x (.ins C dx [])) (fun v H3 => v = .non ∧ Q (.ref x) H3) E
instance {C : Addr} {m : Nat} {sp : Sp} {gV : List V → List V → List V} {E : XK} {tk : TA} {σ : L2.St} {H : Hp} {Q : VK} : Step (tMw C m sp gV E tk σ H Q) (tk σ H (kMw C m sp gV E Q)) := ⟨fun h => h⟩
/-- {mark: .. for mark in t}, t a tuple that is written -/
def kDcT (K : PySem.W.Frag) (g : TG) (tt : TT) (tk tv : TE) (vs : List Nat) (σ : L2.St) (Q : VK) (x : V) (H1 : Hp) : Prop := ∃ a, x = .ref a ∧ (∃ xs, SqT K H1 a xs) ∧ ∀ D, H1 D = none → ∃ W : Nat → Nat → Hp → Prop, (∃ m, W 0 m (upd H1 D (.dK []))) ∧ ∀ i m H, W i m H →
  ((Itt K a).stop i H ∧ Q (.ref D) H) ∨ ((Itt K a).go i H ∧ ∃ Nx : Hp → Prop, (∀ H', Nx H' → ∃ m', m' < m ∧ W (i + 1) m' H') ∧ ∀ x H', (Itt K a).yld i H x H' → g x (wipe σ vs) H' fun σ2 H2 => wipe σ2 vs = wipe σ vs ∧ tt σ2 H2 fun b H3 =>
    if b = true then tk σ2 H3 fun y H4 => tv σ2 H4 fun z H5 => ∃ kvs k, y = kV k ∧ H5 D = some (.dK kvs) ∧ kvs.length < sizeLine ∧ Nx (upd H5 D (.dK (putK kvs k z))) else Nx H3)
instance {K : PySem.W.Frag} {g : TG} {tt : TT} {tk tv td : TE} {vs : List Nat} {σ : L2.St} {H : Hp} {Q : VK} : Step (tDc (iTup K td) g tt tk tv vs σ H Q) (td σ H (kDcT K g tt tk tv vs σ Q)) := ⟨fun h => h⟩
section
variable {K : PySem.W.Frag} {tt : TT} {te tk tv : TE} {ks : List Nat} {σ σ2 : L2.St} {Q : VK} {H : Hp} {a : Addr} {vs : List V} {i j : Nat} {ls : List Str}
/-- .. whatever is told -/
theorem tYes_if {σ : L2.St} {H : Hp} {A B : Hp → Prop} (h : A H) : tYes σ H fun b H3 => if b = true then A H3 else B H3 := by
  show if (true : Bool) = true then A H else B H
  rw [if_pos rfl]
  exact h
theorem putK_len {kvs : List (Key × V)} {k : Key} {v : V} : (putK kvs k v).length ≤ kvs.length + 1 := by
  unfold putK
  split
  · rw [List.length_map]; omega
  · rw [List.length_append]; exact Nat.le_refl _
theorem g_dcAny (hT : ∀ H', SqT K H' a (ls.map V.str)) (hn : ls.length ≤ 100)
    (hb : ∀ s, s ∈ ls → ∀ H1 (R : V → V → Hp → Prop), Up H H1 → (∀ z, R (.str s) z H1) → wipe ((wipe σ ks).set i (some (.str s))) ks = wipe σ ks ∧ tk ((wipe σ ks).set i (some (.str s))) H1 fun y H4 => tv ((wipe σ ks).set i (some (.str s))) H4 fun z H5 => R y z H5)
    (q : ∀ D H', H D = none → Up H H' → Q (.ref D) H') : kDcT K (gName i) tYes tk tv ks σ Q (.ref a) H := by
  refine ⟨a, rfl, ⟨_, hT H⟩, fun D hD => ?_⟩
  have u0 : Up H (upd H D (.dK [])) := Up.new hD
  refine dc_tup (K := K) (xs := ls.map V.str) (fun k H' => Up H H' ∧ ∃ kvs, H' D = some (.dK kvs) ∧ kvs.length ≤ k ∧ k ≤ ls.length) ⟨u0, [], upd_same, Nat.zero_le _, Nat.zero_le _⟩ (fun k H' _ p => hT H') (fun k x H' hx p => ?_) fun H' p => q D H' hD p.1
  obtain ⟨uH, kvs, hD', hk, hkl⟩ := p
  rw [List.getElem?_map] at hx
  cases e : ls[k]? with
  | none => rw [e] at hx; cases hx
  | some s =>
    rw [e] at hx
    cases hx
    have hlt : k < ls.length := (List.getElem?_eq_some_iff.mp e).1
    have z := hb s (List.mem_of_getElem? e) H' (fun y z H5 => ∃ kvs k', y = kV k' ∧ H5 D = some (.dK kvs) ∧ kvs.length < sizeLine ∧ (Up H (upd H5 D (.dK (putK kvs k' z))) ∧ ∃ kvs', upd H5 D (.dK (putK kvs k' z)) D = some (.dK kvs') ∧ kvs'.length ≤ k + 1 ∧ k + 1 ≤ ls.length)) uH (fun z => ?_)
    · refine ⟨z.1, ?_⟩
      exact tYes_if z.2
    · refine ⟨kvs, .inr s, rfl, hD', line1000 (by omega), Up.setF uH hD, _, upd_same, ?_, hlt⟩
      have := putK_len (kvs := kvs) (k := .inr s) (v := z)
      omega
/-- [t(mark) for mark in texts] *-/
theorem g_lcS (f : Str → V) (hT : H a = some (.tup (ls.map V.str))) (hn : ls.length ≤ 100)
    (hb : ∀ s, s ∈ ls → ∀ H1 (R : V → Hp → Prop), Up H H1 → R (f s) H1 → wipe ((wipe σ ks).set i (some (.str s))) ks = wipe σ ks ∧ te ((wipe σ ks).set i (some (.str s))) H1 R)
    (q : ∀ D H', H D = none → Up H H' → H' D = some (.lst (ls.map f)) → Q (.ref D) H') : kLcT K (gName i) tYes te ks σ Q (.ref a) H := by
  refine ⟨a, rfl, ⟨_, SqT.of hT⟩, fun D hD => ?_⟩
  have u0 : Up H (upd H D (.lst [])) := Up.new hD
  refine lc_tup (K := K) (xs := ls.map V.str) (fun k H' => Up H H' ∧ H' D = some (.lst ((ls.take k).map f))) ⟨u0, upd_same⟩ (fun k H' _ p => SqT.of (p.1 _ _ hT)) (fun k x H' hx p => ?_) fun H' p => ?_
  · obtain ⟨uH, hD'⟩ := p
    rw [List.getElem?_map] at hx
    cases e : ls[k]? with
    | none => rw [e] at hx; cases hx
    | some s =>
      rw [e] at hx
      cases hx
      have etk : ls.take (k + 1) = ls.take k ++ [s] := by rw [List.take_add_one, e]; rfl
      have z := hb s (List.mem_of_getElem? e) H' (fun y H4 => ∃ acc, H4 D = some (.lst acc) ∧ acc.length < sizeLine ∧ (Up H (upd H4 D (.lst (acc ++ [y]))) ∧ upd H4 D (.lst (acc ++ [y])) D = some (.lst ((ls.take (k + 1)).map f)))) uH ⟨_, hD', line1000 (by rw [List.length_map, List.length_take]; omega), Up.setF uH hD, by rw [upd_same, etk, List.map_append]; rfl⟩
      exact ⟨z.1, g_tYes z.2⟩
  · obtain ⟨uH, hD'⟩ := p
    rw [List.length_map, List.take_length] at hD'
    exact q D H' hD uH hD'
/-- [mark for mark in texts if t(mark)] *-/
theorem g_lcSt (t : Str → Bool) (hT : H a = some (.tup (ls.map V.str))) (hn : ls.length ≤ 100)
    (hb : ∀ s, s ∈ ls → ∀ H1 (R : Bool → Hp → Prop), Up H H1 → R (t s) H1 → wipe ((wipe σ ks).set i (some (.str s))) ks = wipe σ ks ∧ tt ((wipe σ ks).set i (some (.str s))) H1 R)
    (he : ∀ s : Str, ((wipe σ ks).set i (some (.str s)))[i]? = some (some (.str s)))
    (q : ∀ D H', H D = none → Up H H' → H' D = some (.lst ((ls.filter t).map V.str)) → Q (.ref D) H') : kLcT K (gName i) tt (tVar i) ks σ Q (.ref a) H := by
  refine ⟨a, rfl, ⟨_, SqT.of hT⟩, fun D hD => ?_⟩
  have u0 : Up H (upd H D (.lst [])) := Up.new hD
  refine lc_tup (K := K) (xs := ls.map V.str) (fun k H' => Up H H' ∧ H' D = some (.lst (((ls.take k).filter t).map V.str))) ⟨u0, upd_same⟩ (fun k H' _ p => SqT.of (p.1 _ _ hT)) (fun k x H' hx p => ?_) fun H' p => ?_
  · obtain ⟨uH, hD'⟩ := p
    rw [List.getElem?_map] at hx
    cases e : ls[k]? with
    | none => rw [e] at hx; cases hx
    | some s =>
      rw [e] at hx
      cases hx
      have etk : ls.take (k + 1) = ls.take k ++ [s] := by rw [List.take_add_one, e]; rfl
      refine hb s (List.mem_of_getElem? e) H' _ uH ?_
      cases ht : t s with
      | true =>
        rw [if_pos rfl]
        refine ⟨_, he s, _, hD', line1000 ?_, Up.setF uH hD, ?_⟩
        · rw [List.length_map]
          exact Nat.le_trans (List.length_filter_le _ _) (by rw [List.length_take]; omega)
        · rw [upd_same, etk, List.filter_append]
          simp [ht]
      | false =>
        rw [if_neg (by decide)]
        refine ⟨uH, ?_⟩
        rw [hD', etk, List.filter_append]
        simp [ht]
  · obtain ⟨uH, hD'⟩ := p
    rw [List.length_map, List.take_length] at hD'
    exact q D H' hD uH hD'
end
theorem inV_strs {i : Str} {ns : List Str} : inV (.str i) (ns.map V.str) = decide (i ∈ ns) := by
  unfold inV
  rw [List.any_map, Bool.eq_iff_iff, List.any_eq_true, decide_eq_true_iff]
  constructor
  · rintro ⟨y, hy, h⟩
    have e : y = i := beq_iff_eq.mp h
    rw [← e]; exact hy
  · intro h
    exact ⟨i, h, beq_iff_eq.mpr rfl⟩
theorem flat_strs (ns : List Str) : (ns.map V.str).all flatV = true := by
  rw [List.all_map, List.all_eq_true]
  intro _ _; rfl
theorem g_inS {K : PySem.W.Frag} {i : Str} {a : Addr} {ns : List Str} {H : Hp} {Q : VK} (h : SqL K H a (ns.map V.str) ∨ SqT K H a (ns.map V.str)) (q : Q (.bl (decide (i ∈ ns))) H) : rIn K false (.str i) (.ref a) H Q :=
  ⟨a, _, rfl, h, rfl, flat_strs ns, by rw [inV_strs]; exact q⟩
theorem g_ninS {K : PySem.W.Frag} {i : Str} {a : Addr} {ns : List Str} {H : Hp} {Q : VK} (h : SqL K H a (ns.map V.str) ∨ SqT K H a (ns.map V.str)) (q : Q (.bl (!decide (i ∈ ns))) H) : rIn K true (.str i) (.ref a) H Q :=
  ⟨a, _, rfl, h, rfl, flat_strs ns, by rw [inV_strs]; exact q⟩
section
variable {X : Cx} {K : PySem.W.Frag} {tg l : Expr} {tl : TE}
theorem pi_tupK (hl : PE X l tl) (hK : X.K = K := by rfl) : PI X tg l (iTup K tl) := hK ▸ pi_tup hl
end
end AF
/-! {**x, **y}; f(**d); def f(self, **d) -/
namespace AF
open PySem PySem.Spec PyProof.Rows
section
variable {prog : Program} {w : World} {KT : Type} [DecidableEq KT] {knd : KeyKind prog w KT} {A : Around} {E : Value → Shared → Prop} {s : Shared}
theorem put_pairs {d : Addr} {cur : List (KT × Value)} {k : KT} {kv v : Value} {Q : Unit → Shared → Prop} (ik : knd.is k kv = true) (D : s.heap.DictOf knd d cur) (z : cur.length ≤ sizeLine)
    (q : ∀ h', h'.DictOf knd d (stored cur k v) → Heap.SameBut d s.heap h' → Q () { s with heap := h' }) : wpAny (model prog w) A (dictPut d (knd.hash k) kv v) Q E s := by
  obtain ⟨ob, ents, eph, gd, cd, dd, kd, pd, nd⟩ := D
  have sz : ents.size ≤ sizeLine := by
    have e1 := pd.length
    rw [Array.length_toList] at e1
    omega
  unfold dictPut
  refine wpAny_bind (wpAny_dictFind_of ik gd dd kd ?_)
  have fi : (ents.findIdx? fun e => knd.is k e.key) = cur.findIdx? fun x => decide (x.1 = k) := by
    have e2 := pd.findIdx k
    rw [← e2]
    cases ents
    simp
  generalize hx : (ents.findIdx? fun e => knd.is k e.key) = r
  rw [hx] at fi
  cases r with
  | some i =>
    have old : (cur.any fun x => decide (x.1 = k)) = true := any_of_findIdx_some fi.symm
    have e3 : stored cur k v = _ := if_pos old
    refine wpAny_updateDict gd dd (q _ ⟨_, _, eph, Heap.get?_update_self _ gd (Obj.isFreed_of_dict (Obj.data_mapDict dd _)), cd.mapDict _, Obj.data_mapDict dd _, kd.modify _ _, ?_, ?_⟩ (Heap.SameBut.update ..))
    · rw [e3]
      have hl : (ents.toList.findIdx? fun e => knd.is k e.key) = some i := by
        rw [← hx]
        cases ents
        simp
      have := pd.modify nd hl v
      cases ents
      simpa using this
    · rw [e3, keys_map_store]
      exact nd
  | none =>
    have new : k ∉ cur.map (·.1) := not_mem_of_findIdx_none fi.symm
    have e4 : ¬ (cur.any fun x => decide (x.1 = k)) = true := fun z => by
      obtain ⟨x, hx1, hx2⟩ := List.any_eq_true.mp z
      exact new (List.mem_map.mpr ⟨x, hx1, of_decide_eq_true hx2⟩)
    have e3 : stored cur k v = _ := if_neg e4
    refine wpAny_updateDictKeys (hz := sz) gd dd (q _ ⟨_, _, eph + 1, Heap.get?_update_self _ gd (Obj.isFreed_of_dict (Obj.data_mapDictKeys dd _)), cd.mapDictKeys _, Obj.data_mapDictKeys dd _, kd.push ik _, ?_, ?_⟩ (Heap.SameBut.update ..))
    · rw [e3]
      have := pd.append ik (knd.hash k) v
      cases ents
      simpa using this
    · rw [e3, List.map_append, List.nodup_append]
      refine ⟨nd, by simp, fun a ha b hb => ?_⟩
      have hb' : b = k := by simpa using hb
      intro e
      exact new (by rw [← hb', ← e]; exact ha)
theorem merge_maps {d o : Addr} {cur more : List (KT × Value)} {u : Bool} {Q : Unit → Shared → Prop} (nr : ∀ k a, knd.is k (.ref a) = false) (ne : d ≠ o) (ns : (o == sysModules) = false) (D : s.heap.DictOf knd d cur) (O : s.heap.DictOf knd o more)
    (z : cur.length + more.length ≤ sizeLine) (fr : u = true → ((cur ++ more).map (·.1)).Nodup)
    (q : ∀ h', h'.DictOf knd d (merged cur more) → h'.DictOf knd o more → Heap.SameBut d s.heap h' → Q () { s with heap := h' }) : wpAny (model prog w) A (mergeMapping d (.ref o) u) Q E s := by
  obtain ⟨oo, eso, epo, go, co, doo, ko, po, no⟩ := id O
  have hlen : more.length = eso.size := by rw [← po.length, Array.length_toList]
  have nd' := fr
  unfold mergeMapping
  refine wpAny_bind (wpAny_isInstance O.typeIs isSubtype_dict_dict ?_)
  rw [if_pos rfl]
  refine wpAny_bind (wpAny_specialOf O.typeIs F.slot_dict_iter.lookup (wpAny_bind (wpAny_pure ?_)))
  have e0 : (some (Value.builtin "dict.__iter__") == some (Value.builtin "dict.__iter__")) = true := beq_self_eq_true _
  rw [e0]
  dsimp only
  rw [if_neg (by rw [ns]; exact Bool.false_ne_true)]
  obtain ⟨od, esd, epd, gd, cd, dd, kd, pd, nd⟩ := id D
  refine wpAny_bind (wpAny_dictEntries gd dd ?_)
  have main : ∀ jp : Sem Unit, jp = (do
      let l ← dictEntries o
      let epoch ← dictEpoch o
      forIn (List.range l.size) PUnit.unit fun i (_ : PUnit) => (do
        let l' ← dictEntries o
        match l'[i]? with
          | some e => do
            holding [e.key, e.val] (if u = true then do
                let f ← dictFind d e.key e.hash
                if f.isSome = true then do
                    rule "dict.merge.duplicate-key"
                    let x ← newExc (Value.type "KeyError") [e.key]
                    let _r ← (raiseNew x : Sem PUnit)
                    dictPut d e.hash e.key e.val
                  else dictPut d e.hash e.key e.val
              else dictPut d e.hash e.key e.val)
            let ep' ← dictEpoch o
            if (ep' != epoch) = true then do
                (unsupported "dict.changed-during-merge" : Sem PUnit)
                pure (ForInStep.yield PUnit.unit)
              else pure (ForInStep.yield PUnit.unit)
          | _ => do
            (unsupported "dict.changed-during-merge" : Sem PUnit)
            pure (ForInStep.yield PUnit.unit) : Sem (ForInStep PUnit))
      pure ()) → wpAny (model prog w) A jp Q E s := by
    intro jp ej
    subst ej
    refine wpAny_bind (wpAny_dictEntries go doo (wpAny_bind (wpAny_dictEpoch go doo (wpAny_bind ?_))))
    let J : List Nat → PUnit → Shared → Prop := fun rest _ s' => ∃ h' i, s' = { s with heap := h' } ∧ rest = (List.range eso.size).drop i ∧ i ≤ eso.size ∧ h'.DictOf knd d (merged cur (more.take i)) ∧ h'.get? o = some oo ∧ Heap.SameBut d s.heap h'
    refine wpAny_forIn_list _ J _ (fun x rest b s' hJ => ?_) (fun b s' hJ => ?_) _ _ ⟨s.heap, 0, rfl, rfl, Nat.zero_le _, by simpa [merged] using D, go, Heap.SameBut.refl _ _⟩
    · obtain ⟨h', i, rfl, hr, hi, hd', go', sb⟩ := hJ
      have lt : i < eso.size := by
        rcases Nat.lt_or_ge i eso.size with h | h
        · exact h
        · rw [List.drop_eq_nil_of_le (by simpa using h)] at hr
          cases hr
      have hx : x = i ∧ rest = (List.range eso.size).drop (i + 1) := by
        rw [List.drop_eq_getElem_cons (by simpa using lt)] at hr
        injection hr with h1 h2
        exact ⟨by simpa using h1, h2⟩
      obtain ⟨ex, er⟩ := hx
      subst ex
      obtain ⟨kv, hkv⟩ : ∃ kv, more[x]? = some kv := ⟨more[x]'(by rw [hlen]; exact lt), List.getElem?_eq_getElem _⟩
      obtain ⟨k, v⟩ := kv
      obtain ⟨ik, iv⟩ := po.get? (e := eso[x]) (by simp [lt]) hkv
      obtain ⟨k2, ik2, hh⟩ := ko eso[x] (Array.getElem_mem lt)
      have ek : k2 = k := knd.inj _ _ _ ik2 ik
      subst ek
      have zz : (merged cur (more.take x)).length ≤ sizeLine := by
        have e1 := merged_length_le cur (more.take x)
        have e2 : (more.take x).length ≤ more.length := by rw [List.length_take]; omega
        omega
      refine wpAny_bind (wpAny_dictEntries go' doo ?_)
      rw [Array.getElem?_eq_getElem lt]
      dsimp only
      rw [hh, iv]
      have put : wpAny (model prog w) A (dictPut d (knd.hash k2) eso[x].key v) (fun _ s2 => wpAny (model prog w) A (do
            let ep' ← dictEpoch o
            if (ep' != epo) = true then do
                (unsupported "dict.changed-during-merge" : Sem PUnit)
                pure (ForInStep.yield PUnit.unit)
              else pure (ForInStep.yield PUnit.unit)) (fun r s'' => match r with | .yield b' => J rest b' s'' | .done b' => False) E s2) E { s with heap := h' } := by
        refine put_pairs ik hd' zz fun h2 hd2 sb2 => ?_
        have go2 : h2.get? o = some oo := (sb2.2 o (Ne.symm ne)).trans go'
        refine wpAny_bind (wpAny_dictEpoch go2 doo ?_)
        rw [if_neg (by simp)]
        exact wpAny_pure ⟨h2, x + 1, rfl, er, lt, by rw [merged_take_succ cur more x (k2, v) hkv]; exact hd2, go2, sb.trans sb2⟩
      refine wpAny_bind (wpAny_holding ?_)
      cases u with
      | false =>
        rw [if_neg Bool.false_ne_true]
        exact wpAny_mono put (fun r s2 h => wpAny_mono h (fun r s3 h2 => by cases r with | yield b' => exact h2 | done b' => exact h2.elim) fun _ _ h => h) fun _ _ h => h
      | true =>
        have nu := fr rfl
        have em : merged cur (more.take x) = cur ++ more.take x := by
          refine merged_append_of_fresh _ _ (List.Nodup.sublist ?_ nu)
          exact List.Sublist.map _ (List.Sublist.append (List.Sublist.refl _) (List.take_sublist _ _))
        have nk : k2 ∉ (merged cur (more.take x)).map (·.1) := by
          rw [em]
          intro hm
          have e5 : cur ++ more = (cur ++ more.take x) ++ ((k2, v) :: more.drop (x + 1)) := by
            rw [List.append_assoc]
            congr 1
            have lt2 : x < more.length := by rw [hlen]; exact lt
            have e6 : more[x]'lt2 = (k2, v) := by
              rw [List.getElem?_eq_getElem lt2] at hkv
              exact Option.some.inj hkv
            rw [← e6, ← List.drop_eq_getElem_cons lt2, List.take_append_drop]
          rw [e5, List.map_append, List.nodup_append] at nu
          exact nu.2.2 _ hm _ (by rw [List.map_cons]; exact List.mem_cons_self) rfl
        obtain ⟨od2, es2, ep2, gd2, cd2, dd2, kd2, pd2, nd2⟩ := id hd'
        rw [if_pos rfl]
        refine wpAny_bind (wpAny_dictFind_of ik gd2 dd2 kd2 ?_)
        have none_ : (es2.findIdx? fun e => knd.is k2 e.key) = none := by
          have e2 := pd2.findIdx k2
          have e7 : (es2.findIdx? fun e => knd.is k2 e.key) = es2.toList.findIdx? fun e => knd.is k2 e.key := by
            cases es2
            simp
          rw [e7, e2, List.findIdx?_eq_none_iff]
          intro y hy
          exact decide_eq_false fun e => nk (List.mem_map.mpr ⟨y, hy, e⟩)
        rw [none_, if_neg (by simp)]
        exact wpAny_mono put (fun r s2 h => wpAny_mono h (fun r s3 h2 => by cases r with | yield b' => exact h2 | done b' => exact h2.elim) fun _ _ h => h) fun _ _ h => h
    · obtain ⟨h', i, rfl, hr, hi, hd', go', sb⟩ := hJ
      have e : i = eso.size := by
        rcases Nat.lt_or_ge i eso.size with h | h
        · rw [List.drop_eq_getElem_cons (by simpa using h)] at hr
          cases hr
        · exact Nat.le_antisymm hi h
      refine wpAny_pure (q h' ?_ ⟨oo, eso, epo, go', co, doo, ko, po, no⟩ sb)
      rw [e, ← hlen, List.take_length] at hd'
      exact hd'
  split
  · refine wpAny_bind (wpAny_dictEntries go doo ?_)
    refine wpAny_bind ?_
    rw [← Array.forIn_toList]
    have loop : ∀ l : List DictEntry, (∀ e, e ∈ l → e ∈ eso) → ∀ (f : DictEntry → PUnit → Sem (ForInStep PUnit)), (∀ e, (∀ a, e.key ≠ .ref a) → f e PUnit.unit = pure (ForInStep.yield PUnit.unit)) →
        ∀ P : PUnit → Shared → Prop, P PUnit.unit s → wpAny (model prog w) A (forIn l PUnit.unit f) P E s := by
      intro l
      induction l with
      | nil =>
        intro _ f hf P p
        rw [List.forIn_nil]
        exact wpAny_pure p
      | cons e l ih =>
        intro hl f hf P p
        rw [List.forIn_cons, hf e (fun a ea => ?_)]
        · refine wpAny_bind (wpAny_pure ?_)
          exact ih (fun x hx => hl x (List.mem_cons_of_mem _ hx)) f hf P p
        · obtain ⟨k', hk', _⟩ := ko e (hl e List.mem_cons_self)
          rw [ea, nr] at hk'
          cases hk'
    refine loop _ (fun e he => by simpa using he) _ (fun e he => ?_) _ (main _ rfl)
    split
    · rename_i a ea
      exact absurd ea (he a)
    · rfl
  · exact main _ rfl
end
end AF
namespace AF
open PySem PySem.Spec PyProof.Rows L2
theorem mix_noref (P : Program) (w : World) (k : Key) (a : Addr) : (mixKind P w).is k (.ref a) = false := by
  cases h : (mixKind P w).is k (.ref a) with
  | false => rfl
  | true =>
    rcases keyIs_shape h with ⟨i, t, _, e⟩ | ⟨x, t, _, e⟩
    · cases e
    · cases e
section
variable {X : Cx} {pins : List (Addr × Obj)} {σ : L2.St} {H : Hp} {s : Shared} {A : Around} {E : Value → Shared → Prop}
/-- one dict's pairs into another one -/
theorem d_into {d o : Addr} {cur more : List (Key × V)} {u : Bool} {Q : Unit → Shared → Prop} (I : Inv X pins σ H s) (ed : H d = some (.dK cur)) (eo : Rd H o (.dK more)) (ne : d ≠ o) (z : cur.length + more.length ≤ sizeLine)
    (fr : u = true → ((cur ++ more).map (·.1)).Nodup) (q : ∀ s', Inv X pins σ (upd H d (.dK (mergeK cur more))) s' → Q () s') : wpAny (model X.prog X.w) A (mergeMapping d (.ref o) u) Q E s := by
  obtain ⟨z1, hd1, vs1, r1, dd1⟩ := dk_of I.hok ed
  obtain ⟨z2, hd2, vs2, r2, dd2⟩ := dk_rd I.hok eo
  have keys : ∀ {kvs : List (Key × V)} {vs : List (Key × Value)}, KV kvs vs → kvs.map (·.1) = vs.map (·.1) := by
    intro kvs vs r
    unfold KV at r
    induction r with
    | nil => rfl
    | @cons p q ps qs h t ih => rw [List.map_cons, List.map_cons, ih, h.1]
  refine merge_maps (mix_noref X.prog X.w) ne hd2 dd1 dd2 (by rw [← r1.length, ← r2.length]; exact z) (fun hu => ?_) fun h' k1 k2 sb => ?_
  · have := fr hu
    rw [List.map_append, keys r1, keys r2, ← List.map_append] at this
    exact this
  · have he : ∃ q, h'.get? d = some q := let ⟨q, _, _, hq, _⟩ := k1; ⟨q, hq⟩
    have hz : (mergeK cur more).length ≤ sizeLine := Nat.le_trans (length_mergeK more cur) z
    exact q _ (d_write (t' := s.toks) I (by rw [ed]; exact True.intro) sb he (dk_new hz hd1 (r2.merge r1) k1))
/-- {**x, **y} -/
def tTwo (t1 t2 : TE) : TE := fun σ H Q => ∀ p, H p = none → t1 σ (upd H p (.dK [])) fun x H1 => ∃ a k1, x = .ref a ∧ Rd H1 a (.dK k1) ∧ p ≠ a ∧ k1.length ≤ sizeLine ∧ H1 p = some (.dK []) ∧
  t2 σ (upd H1 p (.dK (mergeK [] k1))) fun y H2 => ∃ b k2, y = .ref b ∧ Rd H2 b (.dK k2) ∧ p ≠ b ∧ k1.length + k2.length ≤ sizeLine ∧ H2 p = some (.dK (mergeK [] k1)) ∧ Q (.ref p) (upd H2 p (.dK (mergeK (mergeK [] k1) k2)))
theorem pe_two {e1 e2 : Expr} {t1 t2 : TE} {pos : Pos} (h1 : PE X e1 t1) (h2 : PE X e2 t2) : PE X (.Dict [none, none] [e1, e2] pos) (tTwo t1 t2) := by
  refine ⟨fun pins s σ H Q I q => ?_⟩
  have hn := I.hok.fresh (Nat.le_refl s.heap.objs.size)
  have I1 := I.laid (a := s.heap.objs.size) (o := .dK []) (h' := s.heap.push { cls := .type "dict", data := .dict #[] }) (t' := s.toks) (fun _ _ q => Heap.get?_push_of_some _ q) (Nat.le_refl _) (dk_empty s.heap I.big)
  unfold eval
  refine wpAny_bind (wpAny_standAt ?_)
  unfold dictDisplay
  simp only [evalEachOpt, evalOpt, evalEach, List.map_cons, List.map_nil, List.zip_cons_cons, List.zip_nil_right, List.forIn_cons, List.forIn_nil, List.isEmpty_nil, if_true]
  refine wpAny_bind (wpAny_bind (wpAny_bind (wpAny_pure ?_)))
  dsimp only
  refine wpAny_bind (wpAny_alloc ?_)
  refine wpAny_bind (wpAny_holding (wpAny_bind (thn (h1.run pins _ σ _ _ I1 (q _ hn)) fun u s1 ⟨x, H1, J1, rx, a, k1, ex, ea, na, z1, ep, q1⟩ => wpAny_bind (wpAny_standAt (wpAny_pure ?_)))))
  subst ex
  obtain rfl : u = Value.ref a := rx
  refine wpAny_bind (wpAny_onRaise (wpAny_tryCatch (wpAny_onRaise (wpAny_holding (d_into J1 ep ea na (by rw [List.length_nil, Nat.zero_add]; exact z1) (fun z => nomatch z) fun s2 J2 => ?_)))))
  refine wpAny_pure ?_
  dsimp only
  refine wpAny_bind (wpAny_bind ?_)
  simp only [List.isEmpty_nil, if_true]
  refine wpAny_pure ?_
  dsimp only
  refine wpAny_bind (wpAny_pure ?_)
  refine wpAny_bind (wpAny_holding (wpAny_bind (thn (h2.run pins _ σ _ _ J2 q1) fun u2 s3 ⟨y, H2, J3, ry, b, k2, ey, eb, nb, z2, ep2, q2⟩ => wpAny_bind (wpAny_standAt (wpAny_pure ?_)))))
  subst ey
  obtain rfl : u2 = Value.ref b := ry
  have z3 : (mergeK [] k1).length + k2.length ≤ sizeLine := by
    have h3 := length_mergeK k1 []
    rw [List.length_nil] at h3
    omega
  refine wpAny_bind (wpAny_onRaise (wpAny_tryCatch (wpAny_onRaise (wpAny_holding (d_into J3 ep2 eb nb z3 (fun z => nomatch z) fun s4 J4 => ?_)))))
  refine wpAny_pure ?_
  dsimp only
  refine wpAny_pure ?_
  dsimp only
  refine wpAny_bind ?_
  simp only [List.isEmpty_nil, if_true]
  refine wpAny_pure ?_
  dsimp only
  exact wpAny_pure ⟨.ref s.heap.objs.size, _, J4, rfl, q2⟩
end
end AF
namespace AF
open PySem PySem.Spec PyProof.Rows L2
/-- f(**d): the call itself -/
theorem dstar_call {M : Model} {A : Around} {E : Value → Shared → Prop} {s : Shared} {K : PySem.W.Frag} {f : Value} {t : Sem Value} {pos : Pos} {Q : Value → Shared → Prop} (hk : PySem.W.keepIn K f = true)
    (h : wpAny M A (evalArgs f true [] [(none, t)]) (fun a s1 => K.In s1.heap ∧ wpAny M A (call f ([] ++ a.pos) a.kw) Q E s1) E s) : wpAny M A (callWith pos f [] [] [(none, t)]) Q E s := by
  unfold callWith
  refine wpAny_bind (wpAny_holding (wpAny_mono h (fun a s1 h1 => wpAny_bind (wpAny_standAt ?_)) fun _ _ x => x))
  obtain ⟨kp, hkp, L⟩ := PySem.W.keeps_K (M := M) hk _ h1.1
  have st : (([] : List (Bool × Sem Value)).any (·.1) || ([(none, t)] : List (Option Str × Sem Value)).any (·.1.isNone)) = true := rfl
  simp only [st]
  refine wpAny_bind (L.here ?_)
  have last : ∀ {m : Sem Value}, wpAny M A m Q E s1 → wpAny M A (m >>= fun r => holding [r] point >>= fun _ => pure r) Q E s1 :=
    fun hm => wpAny_bind (wpAny_mono hm (fun r s2 hr => wpAny_bind (wpAny_holding (wpAny_point (wpAny_pure hr)))) fun _ _ x => x)
  rcases hkp with e | e | e <;> subst e <;> dsimp only
  · refine last ?_
    unfold callMarked
    exact Calls.wpAny_keep h1.2
  · exact last (wpAny_operating h1.2)
  · exact last (wpAny_operating h1.2)
theorem mergeK_app : ∀ {more acc : List (Key × V)}, ((acc ++ more).map (·.1)).Nodup → mergeK acc more = acc ++ more := by
  intro more
  induction more with
  | nil => intro acc _; simp [mergeK]
  | cons p r ih =>
    intro acc h
    have e : putK acc p.1 p.2 = acc ++ [p] := by
      unfold putK
      rw [if_neg]
      intro z
      obtain ⟨y, hy, e⟩ := List.any_eq_true.mp z
      rw [List.map_append, List.nodup_append] at h
      exact h.2.2 y.1 (List.mem_map.mpr ⟨y, hy, rfl⟩) p.1 (by rw [List.map_cons]; exact List.mem_cons_self) (by simpa using e)
    show mergeK (putK acc p.1 p.2) r = _
    rw [e, ih (by simpa using h), List.append_assoc]
    rfl
theorem mergeK_new {kvs : List (Key × V)} (h : ((([] : List (Key × V)) ++ kvs).map (fun q : Key × V => q.1)).Nodup) : mergeK [] kvs = kvs := mergeK_app h
theorem kv_zip : ∀ {ks : List Str} {vs : List V} {rs : List (Key × Value)}, ks.length = vs.length → KV ((ks.map Sum.inr).zip vs) rs → ∃ ws : List Value, rs = (ks.map Sum.inr).zip ws ∧ Vals vs ws ∧ ks.length = ws.length := by
  intro ks
  induction ks with
  | nil =>
    intro vs rs h r
    cases vs with
    | nil => cases r; exact ⟨[], rfl, .nil, rfl⟩
    | cons v vs => cases h
  | cons k ks ih =>
    intro vs rs h r
    cases vs with
    | nil => cases h
    | cons v vs =>
      cases r with
      | @cons a b as bs hh t =>
        obtain ⟨ws, e, r2, l⟩ := ih (by simpa using h) t
        obtain ⟨b1, b2⟩ := b
        obtain ⟨h1, h2⟩ := hh
        have h1' : b1 = Sum.inr k := h1.symm
        subst h1'
        exact ⟨b2 :: ws, by rw [e]; rfl, .cons h2 r2, by rw [List.length_cons, List.length_cons, l]⟩
section
variable {X : Cx} {pins : List (Addr × Obj)} {σ : L2.St} {H : Hp} {s : Shared} {A : Around} {E : Value → Shared → Prop}
/-- the keywords of a dict whose keys are texts -/
theorem kws_in {f : Value} {d : Addr} {ks : List Str} {ws : List Value} {P : Program} {w : World} {Q : List (Str × Value) → Shared → Prop} (D : s.heap.DictOf (mixKind P w) d ((ks.map Sum.inr).zip ws)) (hl : ks.length = ws.length)
    (q : Q (ks.zip ws) s) : wpAny (model P w) A (keywordsIn f d) Q E s := by
  obtain ⟨ob, ents, eph, gd, cd, dd, kd, pd, nd⟩ := D
  unfold keywordsIn
  refine wpAny_bind (wpAny_dictEntries gd dd ?_)
  refine wpAny_bind ?_
  rw [← Array.forIn_toList]
  have loop : ∀ (l : List DictEntry) (ks : List Str) (ws : List Value) (acc : List (Str × Value)) (f : DictEntry → List (Str × Value) → Sem (ForInStep (List (Str × Value)))) (P2 : List (Str × Value) → Shared → Prop),
      Pairs (mixKind P w) l ((ks.map Sum.inr).zip ws) → ks.length = ws.length → (∀ e acc x t, e.key = .str x t → f e acc = pure (ForInStep.yield (acc ++ [(x, e.val)]))) → P2 (acc ++ ks.zip ws) s → wpAny (model P w) A (forIn l acc f) P2 E s := by
    intro l
    induction l with
    | nil =>
      intro ks ws acc f P2 p hl hf h
      rw [List.forIn_nil]
      refine wpAny_pure ?_
      cases ks with
      | nil => simpa using h
      | cons k ks =>
        cases ws with
        | nil => simpa using h
        | cons v ws => cases p
    | cons e l ih =>
      intro ks ws acc f P2 p hl hf h
      cases ks with
      | nil => cases p
      | cons k ks =>
        cases ws with
        | nil => cases p
        | cons v ws =>
          cases p with
          | cons h1 h2 h3 =>
            rcases keyIs_shape (show keyIs (Sum.inr k) e.key = true from h1) with ⟨i, t, z, _⟩ | ⟨x, t, z, e2⟩
            · cases z
            · have z2 : k = x := Sum.inr.inj z
              subst z2
              rw [List.forIn_cons, hf e acc k t e2]
              refine wpAny_bind (wpAny_pure ?_)
              refine ih ks ws _ f P2 h3 (by simpa using hl) hf ?_
              have h2' : e.val = v := h2
              rw [h2', List.append_assoc]
              exact h
  refine loop _ ks ws [] _ _ pd hl (fun e acc x t he => ?_) ?_
  · dsimp only
    rw [he]
  · dsimp only
    exact wpAny_pure q
/-- f(**d)'s arguments: a new dict with the pairs -/
theorem args_dstar {f : Value} {e : Expr} {pos : Pos} {te : TE} {ks : List Str} {Q : Args → Shared → Prop} {R : Addr → V → Hp → Prop} (he : PE X e te) (I : Inv X pins σ H s) (h : ∀ p, H p = none → te σ (upd H p (.dK [])) (R p))
    (hR : ∀ p x H1, R p x H1 → ∃ a vs, x = .ref a ∧ Rd H1 a (.dK ((ks.map Sum.inr).zip vs)) ∧ ks.length = vs.length ∧ p ≠ a ∧ ks.Nodup ∧ H1 p = some (.dK []) ∧
      ∀ ws s', Inv X pins σ (upd H1 p (.dK ((ks.map Sum.inr).zip vs))) s' → Vals vs ws → Q ⟨[], ks.zip ws⟩ s') :
    wpAny (model X.prog X.w) X.A (evalArgs f true [] [(none, (do let v ← eval e X.env; standAt pos; pure v))]) Q X.xe s := by
  have hn := I.hok.fresh (Nat.le_refl s.heap.objs.size)
  have I1 := I.laid (a := s.heap.objs.size) (o := .dK []) (h' := s.heap.push { cls := .type "dict", data := .dict #[] }) (t' := s.toks) (fun _ _ q => Heap.get?_push_of_some _ q) (Nat.le_refl _) (dk_empty s.heap I.big)
  unfold evalArgs
  refine wpAny_bind ?_
  unfold spliced
  refine wpAny_pure (wpAny_bind (wpAny_pure ?_))
  dsimp only [List.nil_append, Option.toList]
  refine wpAny_holding ?_
  rw [if_neg (by simp)]
  unfold mergedKeywords
  refine wpAny_bind (wpAny_bind (wpAny_alloc ?_))
  refine wpAny_bind (wpAny_holding (wpAny_bind ?_))
  rw [List.forIn_cons]
  refine wpAny_bind (wpAny_bind (wpAny_pure ?_))
  refine wpAny_bind (wpAny_bind (thn (he.run pins _ σ _ _ I1 (h _ hn)) fun u s1 ⟨x, H1, J1, rx, q0⟩ => wpAny_bind (wpAny_standAt (wpAny_pure ?_))))
  obtain ⟨a, vs, ex, ea, lk, ne, nd, ep, q1⟩ := hR _ _ _ q0
  subst ex
  obtain rfl : u = Value.ref a := rx
  have mk : ((ks.map Sum.inr).zip vs).map (·.1) = (ks.map Sum.inr : List Key) := by
    rw [List.map_fst_zip]
    rw [List.length_map]
    exact Nat.le_of_eq lk
  have ndk : ((([] : List (Key × V)) ++ (ks.map Sum.inr).zip vs).map (fun q : Key × V => q.1)).Nodup := by
    rw [List.nil_append]
    refine (congrArg List.Nodup mk).mpr ?_
    exact List.Pairwise.map _ (fun a b h e => h (Sum.inr.inj e)) nd
  obtain ⟨z, _⟩ := dk_rd J1.hok ea
  refine wpAny_bind (wpAny_onRaise (wpAny_holding (wpAny_tryCatch (wpAny_onRaise (d_into J1 ep ea ne (by rw [List.length_nil, Nat.zero_add]; exact z) (fun _ => ndk) fun s2 J2 => ?_)))))
  refine wpAny_pure ?_
  dsimp only
  rw [List.forIn_nil]
  refine wpAny_pure ?_
  rw [if_pos (show ([] : List (Str × Sem Value)).isEmpty = true from rfl)]
  refine wpAny_pure (wpAny_pure (wpAny_bind (wpAny_pure (wpAny_bind (wpAny_holding ?_)))))
  rw [mergeK_new ndk] at J2
  obtain ⟨z2, hd2, rs, rr, dd⟩ := dk_of J2.hok upd_same
  obtain ⟨ws, er, rw_, lw⟩ := kv_zip lk rr
  subst er
  exact kws_in dd lw (wpAny_pure (q1 ws s2 J2 rw_))
end
end AF
namespace AF
open PySem PySem.Spec PyProof.Rows L2
/-- C(**e) -/
def tMwS (C : Addr) (ks : List Str) (sp : Sp) (gV : List V → List V → List V) (E : XK) (te : TE) : TE := fun σ H Q => ∀ p, H p = none → te σ (upd H p (.dK [])) fun x H1 => ∃ a vs, x = .ref a ∧ Rd H1 a (.dK ((ks.map Sum.inr).zip vs)) ∧ ks.length = vs.length ∧ p ≠ a ∧ ks.Nodup ∧ H1 p = some (.dK []) ∧
  ∀ y dx, upd H1 p (.dK ((ks.map Sum.inr).zip vs)) y = none → upd H1 p (.dK ((ks.map Sum.inr).zip vs)) dx = none → dx ≠ y →
    sp (gV [.ref y] vs) (upd (upd (upd H1 p (.dK ((ks.map Sum.inr).zip vs))) dx (.own y)) y (.ins C dx [])) (fun v H3 => v = .non ∧ Q (.ref y) H3) E
theorem pe_mwS {X : Cx} {CX : CXT} {k : Nat} {C f : Addr} {fd : FuncData} {ps ks : List Str} {sp : Sp} {E : XK} {x : Str} {p pos kp : Pos} {e : Expr} {te : TE} {g : List Value → List Value → List Value} {gV : List V → List V → List V} (M : Mk X.K C f) (F : FnOk X.prog X.w X.K X.mg X.base CX k f fd ps sp) (hb : KBn X.K fd ps 1 ks g gV)
    (hr : Room (k + 1) X.A) (hg : Gl X x) (hm : X.mg x = some (.ref C)) (hx : Passes CX X E) (he : PE X e te) (hdb : (x == ("__debug__" : Str)) = false := by decide) :
    PE X (.Call (.Name x p) [] [⟨none, e, kp⟩] pos) (tMwS C ks sp gV E te) := by
  refine ⟨fun pins s σ H Q I h => ?_⟩
  refine wpAny_Call_Name_kw (ld_glob I hg hm ?_ hdb)
  show wpAny _ _ (callWith pos (.ref C) [] [] [(none, (do let v ← eval e X.env; standAt pos; pure v))]) _ _ s
  refine dstar_call (K := X.K) M.kp (args_dstar (ks := ks) he I h fun p x H1 ⟨a, vs, ex, ea, lk, ne, nd, ep, q⟩ => ⟨a, vs, ex, ea, lk, ne, nd, ep, fun ws s' J rw => ⟨J.kIn, ?_⟩⟩)
  exact run_makeK (n := 0) (us := []) (vs := []) M F hr hb hx J .nil rw rfl lk.symm q
/-- def f(self, **d): called without keywords *-/
theorem okKwd {P : Program} {w : World} {K : PySem.W.Frag} {mg : Str → Option Value} {base : Heap} {n q : Str} {params : Arguments} {body : List Stmt} {scope : Scope} {f : Addr} {fd : FuncData} {N : List Str} {p1 pd : Str} {k : Nat} {sp : Sp}
    (F : FunD K n q params body scope [] [] f fd) (S : FnScope N [p1, pd] scope)
    (h0 : ∀ (kV doc pm : Value) (an : Option Addr) (cdv ct : Value) (a : Value), bindArgs (PySem.W.fnOf n q params body scope .none kV doc pm an cdv ct) ⟨[a], []⟩ = ((alloc ({ cls := .type "dict", data := .dict #[] } : Obj) : Sem Addr) >>= fun d => pure [(p1, a), (pd, Value.ref d)]))
    (hbody : ∀ (cdv : Value) (A : Around) (outer : List Env) (s : Shared) (H : Hp) (vs : List V) (Q : VK) (E : XK), Room k (A.deeper (envOfC q scope s.heap.objs.size f cdv)) → sp vs H Q E →
      ∃ t, PSs (cxOf (L2.CX P w) P w K mg base N q scope f cdv A outer s H E) body t ∧ t { nx := fun _ H' => Q .non H', rt := Q } (start N vs) H) :
    FnR P w K mg base (L2.CX P w) (k + 1) f (fun vs H Q E => ∃ v, vs = [v] ∧ ∀ d, H d = Option.none → sp [v, .ref d] (upd H d (.dK [])) Q E) := by
  obtain ⟨oc, od, dV, kV, doc, pm, an, cdv, ct, osl, rfl, lk, hcd, hd, _⟩ := F.ex
  have e : dV = .none := by
    rcases hd with ⟨_, e⟩ | ⟨e, _⟩
    · exact e
    · exact absurd rfl e
  subst e
  intro A outer s H us vs Q E hr e0 r hsp
  obtain ⟨v, ev, hq⟩ := hsp
  subst ev
  obtain ⟨u, eu, ru⟩ := vals1 r
  subst eu
  have hn : H s.heap.objs.size = Option.none := e0.hok.fresh (Nat.le_refl _)
  refine StX.run_bnd (ps := [p1, pd]) lk hcd S hr e0 (G := fun xs H2 => ∃ d, H d = Option.none ∧ xs = [v, .ref d] ∧ H2 = upd H d (.dK [])) (fun A' Ex Q' h => ?_) fun s2 H2 xs ⟨d, hd, ex, eH⟩ hr' => ?_
  · rw [h0]
    refine wpAny_bind (wpAny_alloc (wpAny_pure ?_))
    have e1 := StX.env0_laid (u := .dK []) (o := ({ cls := .type "dict", data := .dict #[] } : Obj)) e0 (dk_empty _ (StX.env0_big e0))
    have un := StX.un_laid (fs := frs outer) (s := s) (o := ({ cls := .type "dict", data := .dict #[] } : Obj)) (u := .dK []) hn
    exact h _ _ [v, .ref s.heap.objs.size] [u, .ref s.heap.objs.size] e1 un rfl (fun e s' => StX.cxUp outer s H _ _ E e s' un (fun b o q => Heap.get?_push_of_some _ q) rfl) (.cons ru (.cons rfl .nil)) rfl ⟨_, hn, rfl, rfl⟩
  · subst ex eH
    exact hbody cdv A outer s2 _ _ Q E hr' (hq d hd)
/-- o.m(), m with **d -/
theorem pe_methR0 {X : Cx} {k : Nat} {C f : Addr} {m : Str} {sp : Sp} {E : XK} {o : Expr} {ta : TE} {apos pos : Pos} {pl : Sem Bool} (he : PE X o ta) (c : Cls X.K C) (hm : Meth X.K C m f) (F : FnR X.prog X.w X.K X.mg X.base (L2.CX X.prog X.w) k f sp) (hr : Room k X.A) (hx : Passes (L2.CX X.prog X.w) X E)
    (ht : eval (.Call (.Attribute o m apos) [] [] pos) X.env = (do
      let ov ← eval o X.env
      standAt apos.atName
      let (f, first) ← holding [ov] (getMethod ov m pl)
      callWith pos f first (backTo pos (starEach [] X.env)) (backToKw pos (keywordEach [] X.env))) := by rfl) :
    PE X (.Call (.Attribute o m apos) [] [] pos) (tMeth C m sp [] E ta tNil) := by
  refine ⟨fun pins s σ H Q I h => ?_⟩
  refine PySem.W.methodCall_KW (pl := pl) (thn (he.run pins s σ H _ I h) fun u s1 ⟨x, H1, I1, rx, a, dx, fs, ex, ea, l, q⟩ => ?_) ht
  subst ex
  obtain rfl : u = Value.ref a := rx
  refine getmeth_ok I1 ea c hm l ?_
  exact PySem.W.callWith_K0 (first := [.ref a]) I1.kIn hm.kp (wpAny_call (run_fnR (vs := [.ref a]) F hr hx I1 (.cons (show RelV (.ref a) (.ref a) from rfl) .nil) q))
end AF
namespace AF
open PySem PySem.Spec PyProof.Rows L2
/-- a name stored into a dict of texts and numbers -/
theorem ns_pairs {P : Program} {w : World} {A : Around} {E : Value → Shared → Prop} {s : Shared} {d : Addr} {cur : List (Key × Value)} {x : Str} {v : Value} {Q : Unit → Shared → Prop} (D : s.heap.DictOf (mixKind P w) d cur)
    (q : ∀ h' tk, h'.DictOf (mixKind P w) d (stored cur (.inr x) v) → Heap.SameBut d s.heap h' → Q () { s with heap := h', toks := tk }) : wpAny (model P w) A (nsSet d x v) Q E s := by
  obtain ⟨ob, ents, eph, gd, cd, dd, kd, pd, nd⟩ := D
  have noRef : ents.any (·.refKey) = false := by
    rw [Array.any_eq_false']
    intro e he
    obtain ⟨k, hk, _⟩ := kd e he
    rcases keyIs_shape hk with ⟨i, t, _, z⟩ | ⟨y, t, _, z⟩ <;> simp [DictEntry.refKey, z]
  unfold nsSet strHash
  refine wpAny_bind (wpAny_bind (wpAny_askSetting (wpAny_pure ?_)))
  refine wpAny_bind (wpAny_mkText ?_)
  refine wpAny_bind (wpAny_loadPart gd ?_)
  rw [dd]
  dsimp only
  rw [if_neg (by rw [aRefKeyMayBeTheName_eq]; unfold aRefKeyMayBeTheNameByArray; rw [noRef, Bool.and_false]; exact Bool.false_ne_true)]
  refine wpAny_updatePart gd (q _ _ ?_ (Heap.SameBut.update ..))
  have ik : (mixKind P w).is (.inr x) (.str x s.toks) = true := by
    show Value.isStrOf x (.str x s.toks) = true
    simp [Value.isStrOf]
  have same : (fun e : DictEntry => e.key.isStr x) = fun e => (mixKind P w).is (.inr x) e.key := by
    funext e
    show e.key.isStr x = Value.isStrOf x e.key
    cases e.key <;> rfl
  have fi : (ents.findIdx? fun e => (mixKind P w).is (.inr x) e.key) = cur.findIdx? fun y => decide (y.1 = .inr x) := by
    have e2 := pd.findIdx (.inr x)
    rw [← e2]
    cases ents
    simp
  obtain ⟨c, d0, dt, sl⟩ := ob
  have dd' : dt = Data.dict ents eph := dd
  subst dd'
  generalize hx : (ents.findIdx? fun e => (mixKind P w).is (.inr x) e.key) = r
  have hx2 : (ents.findIdx? fun e => e.key.isStr x) = r := by rw [same]; exact hx
  rw [hx] at fi
  cases r with
  | some i =>
    have old : (cur.any fun y => decide (y.1 = .inr x)) = true := any_of_findIdx_some fi.symm
    have e3 : stored cur (.inr x) v = _ := if_pos old
    have e5 : Obj.putName x (if x.cps.isEmpty = true then 0 else reduceHash (w.params.strHash x.cps)) (.str x s.toks) v ⟨c, d0, .dict ents eph, sl⟩ = ⟨c, d0, .dict (ents.modify i fun e => { e with val := v }) eph, sl⟩ := by
      rw [Obj.putName_eq]
      unfold Obj.putNameByArray
      dsimp only
      rw [hx2]
    refine ⟨⟨c, d0, .dict (ents.modify i fun e => { e with val := v }) eph, sl⟩, _, eph, ?_, (by obtain ⟨a, b, c⟩ := cd; exact ⟨a, b, c⟩), rfl, kd.modify _ _, ?_, ?_⟩
    · rw [← e5]
      exact Heap.get?_update_self _ gd (show Obj.isFreed _ = false from (congrArg Obj.isFreed e5).trans rfl)
    · rw [e3]
      have hl : (ents.toList.findIdx? fun e => (mixKind P w).is (.inr x) e.key) = some i := by
        rw [← hx]
        cases ents
        simp
      have := pd.modify nd hl v
      cases ents
      simpa using this
    · rw [e3, keys_map_store]
      exact nd
  | none =>
    have new : (Sum.inr x : Key) ∉ cur.map (·.1) := not_mem_of_findIdx_none fi.symm
    have e4 : ¬ (cur.any fun y => decide (y.1 = .inr x)) = true := fun z => by
      obtain ⟨y, hy1, hy2⟩ := List.any_eq_true.mp z
      exact new (List.mem_map.mpr ⟨y, hy1, of_decide_eq_true hy2⟩)
    have e3 : stored cur (.inr x) v = _ := if_neg e4
    have e5 : Obj.putName x (if x.cps.isEmpty = true then 0 else reduceHash (w.params.strHash x.cps)) (.str x s.toks) v ⟨c, d0, .dict ents eph, sl⟩ = ⟨c, d0, .dict (ents.push ⟨(mixKind P w).hash (.inr x), .str x s.toks, v⟩) (eph + 1), sl⟩ := by
      rw [Obj.putName_eq]
      unfold Obj.putNameByArray
      dsimp only
      rw [hx2]
      rfl
    refine ⟨⟨c, d0, .dict (ents.push ⟨(mixKind P w).hash (.inr x), .str x s.toks, v⟩) (eph + 1), sl⟩, _, eph + 1, ?_, (by obtain ⟨a, b, c⟩ := cd; exact ⟨a, b, c⟩), rfl, kd.push ik _, ?_, ?_⟩
    · rw [← e5]
      exact Heap.get?_update_self _ gd (show Obj.isFreed _ = false from (congrArg Obj.isFreed e5).trans rfl)
    · rw [e3]
      have := pd.append ik ((mixKind P w).hash (.inr x)) v
      cases ents
      simpa using this
    · rw [e3, List.map_append, List.nodup_append]
      refine ⟨nd, by simp, fun a ha b hb => ?_⟩
      have hb' : b = .inr x := by simpa using hb
      intro e
      exact new (by rw [← hb', ← e]; exact ha)
end AF
namespace AF
open PySem PySem.Spec PyProof.Rows L2
/-- what a def promises that is called with keywords ks (it may make objects while it binds) -/
def FnQ (P : Program) (w : World) (K : PySem.W.Frag) (mg : Str → Option Value) (base : Heap) (k : Nat) (f : Addr) (ks : List Str) (sp : List V → List V → Hp → VK → XK → Prop) : Prop :=
  ∀ (A : Around) (outer : List Env) (s : Shared) (H : Hp) (us ws : List Value) (vs zs : List V) (Q : VK) (E : XK), Room k A → Env0 P w K mg base A outer s H → Vals vs us → Vals zs ws → zs.length = ks.length → sp vs zs H Q E →
    codeAny (model P w) A (.call (.ref f) ⟨us, ks.zip ws⟩) (CR (L2.CX P w) outer P w H s Q E) s
theorem kw_fill {P : Program} {w : World} {A : Around} {E : Value → Shared → Prop} {d : Addr} : ∀ (ks : List Str) (ws : List Value) (acc : List (Key × Value)) (s : Shared) (Q : PUnit → Shared → Prop), ks.length = ws.length → ((acc ++ (ks.map Sum.inr).zip ws).map (fun q : Key × Value => q.1)).Nodup → s.heap.DictOf (mixKind P w) d acc →
    (∀ h' tk, h'.DictOf (mixKind P w) d (acc ++ (ks.map Sum.inr).zip ws) → Heap.SameBut d s.heap h' → Q PUnit.unit { s with heap := h', toks := tk }) →
    wpAny (model P w) A (forIn (ks.zip ws) PUnit.unit fun (x : Str × Value) (_ : PUnit) => (do nsSet d x.1 x.2; pure (ForInStep.yield PUnit.unit) : Sem (ForInStep PUnit))) Q E s
  | [], [], acc, s, Q, _, _, D, q => by
    rw [List.zip_nil_left, List.forIn_nil]
    have z := q s.heap s.toks (by simpa using D) (Heap.SameBut.refl _ _)
    exact wpAny_pure z
  | [], _ :: _, _, _, _, h, _, _, _ => nomatch h
  | _ :: _, [], _, _, _, h, _, _, _ => nomatch h
  | k :: ks, v :: ws, acc, s, Q, h, nd, D, q => by
    rw [List.zip_cons_cons, List.forIn_cons]
    refine wpAny_bind (wpAny_bind (ns_pairs D fun h' tk D' sb => wpAny_pure ?_))
    have nk : stored acc (Sum.inr k) v = acc ++ [(Sum.inr k, v)] := by
      refine if_neg fun z => ?_
      obtain ⟨y, hy1, hy2⟩ := List.any_eq_true.mp z
      rw [List.map_append, List.nodup_append] at nd
      exact nd.2.2 y.1 (List.mem_map.mpr ⟨y, hy1, rfl⟩) (Sum.inr k) (by simp) (of_decide_eq_true hy2)
    rw [nk] at D'
    refine kw_fill ks ws (acc ++ [(Sum.inr k, v)]) _ Q (by simpa using h) (by simpa using nd) D' fun h2 tk2 D2 sb2 => ?_
    have e : acc ++ ((k :: ks).map Sum.inr).zip (v :: ws) = acc ++ [(Sum.inr k, v)] ++ (ks.map Sum.inr).zip ws := by simp
    exact q h2 tk2 (by rw [e]; exact D2) (sb.trans sb2)
theorem env0_up {P : Program} {w : World} {K : PySem.W.Frag} {mg : Str → Option Value} {base : Heap} {A : Around} {outer : List Env} {s : Shared} {H : Hp} {u : HO} {h' : Heap} {tk : Nat} (e0 : Env0 P w K mg base A outer s H) (kp : ∀ b x, s.heap.get? b = some x → h'.get? b = some x)
    (sz : s.heap.objs.size ≤ h'.objs.size) (new : ObjOk P w (upd H s.heap.objs.size u) h' s.heap.objs.size u) : Env0 P w K mg base A outer { s with heap := h', toks := tk } (upd H s.heap.objs.size u) := by
  refine ⟨e0.frames, e0.mod, fun b x e => ⟨kp b x (e0.bs b x e).1, ?_⟩, Nat.le_trans e0.bsz sz, Heap.FunFrames.of_keeps (fun b x e _ => ⟨x, kp b x e, rfl⟩) e0.funs, fun b hb => ?_, e0.hok.laid kp (Nat.le_refl _) new, e0.bare⟩
  · have lt := Heap.lt_size (e0.bs b x e).1
    rw [upd_ne (Nat.ne_of_lt lt)]
    exact (e0.bs b x e).2
  · obtain ⟨_, x, hx, _⟩ := e0.funs.mem hb
    have lt := Heap.lt_size hx
    rw [upd_ne (Nat.ne_of_lt lt)]
    exact e0.frf b hb
theorem kv_of : ∀ {ks : List Str} {zs : List V} {ws : List Value}, Vals zs ws → KV ((ks.map Sum.inr : List Key).zip zs) ((ks.map Sum.inr).zip ws)
  | [], _, _, _ => .nil
  | _ :: _, _, _, .nil => .nil
  | k :: ks, _, _, .cons a r => .cons ⟨rfl, a⟩ (kv_of r)
/-- def f(self, **d) *-/
theorem okKwdQ {P : Program} {w : World} {K : PySem.W.Frag} {mg : Str → Option Value} {base : Heap} {n q : Str} {params : Arguments} {body : List Stmt} {scope : Scope} {f : Addr} {fd : FuncData} {N : List Str} {p1 pd : Str} {k : Nat} {sp : Sp} {ks : List Str}
    (F : FunD K n q params body scope [] [] f fd) (S : FnScope N [p1, pd] scope) (nd : ks.Nodup) (few : ks.length ≤ 100)
    (h0 : ∀ (kV doc pm : Value) (an : Option Addr) (cdv ct : Value) (a : Value) (ws : List Value), ws.length = ks.length → bindArgs (PySem.W.fnOf n q params body scope .none kV doc pm an cdv ct) ⟨[a], ks.zip ws⟩ = ((alloc ({ cls := .type "dict", data := .dict #[] } : Obj) : Sem Addr) >>= fun d =>
      (forIn (ks.zip ws) PUnit.unit fun (x : Str × Value) (_ : PUnit) => (do nsSet d x.1 x.2; pure (ForInStep.yield PUnit.unit) : Sem (ForInStep PUnit))) >>= fun _ => pure [(p1, a), (pd, Value.ref d)]))
    (hbody : ∀ (cdv : Value) (A : Around) (outer : List Env) (s : Shared) (H : Hp) (vs : List V) (Q : VK) (E : XK), Room k (A.deeper (envOfC q scope s.heap.objs.size f cdv)) → sp vs H Q E →
      ∃ t, PSs (cxOf (L2.CX P w) P w K mg base N q scope f cdv A outer s H E) body t ∧ t { nx := fun _ H' => Q .non H', rt := Q } (start N vs) H) :
    FnQ P w K mg base (k + 1) f ks (fun vs zs H Q E => ∃ v, vs = [v] ∧ ∀ d, H d = Option.none → sp [v, .ref d] (upd H d (.dK ((ks.map Sum.inr).zip zs))) Q E) := by
  obtain ⟨oc, od, dV, kV, doc, pm, an, cdv, ct, osl, rfl, lk, hcd, hd, _⟩ := F.ex
  have e : dV = .none := by
    rcases hd with ⟨_, e⟩ | ⟨e, _⟩
    · exact e
    · exact absurd rfl e
  subst e
  intro A outer s H us ws vs zs Q E hr e0 r rz lz hsp
  obtain ⟨v, ev, hq⟩ := hsp
  subst ev
  obtain ⟨u, eu, ru⟩ := vals1 r
  subst eu
  have lw : ws.length = ks.length := rz.length.symm.trans lz
  have hn : H s.heap.objs.size = Option.none := e0.hok.fresh (Nat.le_refl _)
  refine StX.run_bnd (ps := [p1, pd]) lk hcd S hr e0 (G := fun xs H2 => ∃ d, H d = Option.none ∧ xs = [v, .ref d] ∧ H2 = upd H d (.dK ((ks.map Sum.inr).zip zs))) (fun A' Ex Q' h => ?_) fun s2 H2 xs ⟨d, hd, ex, eH⟩ hr' => ?_
  · rw [h0 _ _ _ _ _ _ _ _ lw]
    refine wpAny_bind (wpAny_alloc (wpAny_bind ?_))
    have ndk : ((([] : List (Key × Value)) ++ (ks.map Sum.inr).zip ws).map (fun q : Key × Value => q.1)).Nodup := by
      rw [List.nil_append]
      have mk : ((ks.map Sum.inr : List Key).zip ws).map (fun q : Key × Value => q.1) = ks.map Sum.inr := by
        rw [List.map_fst_zip]
        rw [List.length_map]
        exact Nat.le_of_eq lw.symm
      refine (congrArg List.Nodup mk).mpr ?_
      exact List.Pairwise.map _ (fun a b h e => h (Sum.inr.inj e)) nd
    refine kw_fill (P := P) (w := w) ks ws [] _ _ lw.symm ndk (Heap.DictOf.new s.heap) fun h' tk D sb => wpAny_pure ?_
    have kp : ∀ b x, s.heap.get? b = some x → h'.get? b = some x := fun b x e => (sb.2 b (Nat.ne_of_lt (Heap.lt_size e))).trans (Heap.get?_push_of_some _ e)
    have szs : s.heap.objs.size ≤ h'.objs.size := by
      obtain ⟨_, _, _, hg, _⟩ := D
      exact Nat.le_of_lt (Heap.lt_size hg)
    have big := StX.env0_big e0
    have lzip : ((ks.map Sum.inr : List Key).zip zs).length ≤ sizeLine := by
      rw [List.length_zip, List.length_map]
      have := line1000 (show ks.length ≤ 1000 by omega)
      omega
    have new : ObjOk P w (upd H s.heap.objs.size (.dK ((ks.map Sum.inr).zip zs))) h' s.heap.objs.size (.dK ((ks.map Sum.inr).zip zs)) := dk_new lzip (beq_eq_false_iff_ne.mpr (Ne.symm (Nat.ne_of_lt big))) (kv_of rz) D
    have e1 := env0_up (tk := tk) e0 kp szs new
    have un : Un (frs outer) [] H (upd H s.heap.objs.size (.dK ((ks.map Sum.inr).zip zs))) s.heap h' := Un.laid kp (Nat.le_refl _) hn
    exact h _ _ [v, .ref s.heap.objs.size] [u, .ref s.heap.objs.size] e1 un rfl (fun e s' => StX.cxUp outer s H _ _ E e s' un kp rfl) (.cons ru (.cons rfl .nil)) rfl ⟨_, hn, rfl, rfl⟩
  · subst ex eH
    exact hbody cdv A outer s2 _ _ Q E hr' (hq d hd)
/-- o.m(k = v, ..), m with **d *-/
def tMeQ (C : Addr) (m : Str) (n : Nat) (sp : List V → List V → Hp → VK → XK → Prop) (E : XK) (ta : TE) (tk : TA) : TE := fun σ H Q => ta σ H fun x H1 => ∃ a dx fs, x = .ref a ∧ H1 a = some (.ins C dx fs) ∧ fs.lookup m = none ∧ tk σ H1 fun zs H2 => zs.length = n ∧ sp [x] zs H2 Q E
theorem pe_methQ {X : Cx} {k : Nat} {C f : Addr} {m : Str} {ks : List Str} {sp : List V → List V → Hp → VK → XK → Prop} {E : XK} {o : Expr} {ta : TE} {tk : TA} {kws : List Keyword} {apos pos : Pos} {pl : Sem Bool} (he : PE X o ta) (c : Cls X.K C) (hm : Meth X.K C m f) (F : FnQ X.prog X.w X.K X.mg X.base k f ks sp)
    (hr : Room k X.A) (hx : Passes (L2.CX X.prog X.w) X E) (hkw : PK X kws tk) (hall : (backToKw pos (keywordEach kws X.env)).all (·.1.isSome) = true := by rfl) (hks : (backToKw pos (keywordEach kws X.env)).filterMap (·.1) = ks := by rfl)
    (hpl : ((backTo pos (starEach [] X.env)).any (·.1) || (backToKw pos (keywordEach kws X.env)).any (·.1.isNone)) = false := by rfl)
    (ht : eval (.Call (.Attribute o m apos) [] kws pos) X.env = (do
      let ov ← eval o X.env
      standAt apos.atName
      let (f, first) ← holding [ov] (getMethod ov m pl)
      callWith pos f first (backTo pos (starEach [] X.env)) (backToKw pos (keywordEach kws X.env))) := by rfl) :
    PE X (.Call (.Attribute o m apos) [] kws pos) (tMeQ C m ks.length sp E ta tk) := by
  refine ⟨fun pins s σ H Q I h => ?_⟩
  refine PySem.W.methodCall_KW (pl := pl) (thn (he.run pins s σ H _ I h) fun u s1 ⟨x, H1, I1, rx, a, dx, fs, ex, ea, l, q⟩ => ?_) ht
  subst ex
  obtain rfl : u = Value.ref a := rx
  refine getmeth_ok I1 ea c hm l ?_
  refine PySem.W.callWith_KW0 (first := [.ref a]) (h₀ := X.base) I.ok.mod.kin hm.kp hall ?_ hpl
  refine thn (hkw.run pos pins s1 σ H1 _ I1 q) fun ws s2 ⟨zs, H2, I2, rz, l2, q2⟩ => ⟨I2.kIn, ?_⟩
  rw [hks]
  refine wpAny_call (codeAny_mono (F X.A X.stack s2 H2 [.ref a] ws [.ref a] zs Q E hr I2.env0 (.cons (show RelV (.ref a) (.ref a) from rfl) .nil) rz l2 q2) fun r s3 hq => ?_)
  cases r with
  | error e => exact hx pins σ H2 s2 e s3 I2 hq
  | ok fl =>
    cases fl with
    | ret u => exact I2.after hq
    | next => exact False.elim hq
    | brk => exact False.elim hq
    | cont => exact False.elim hq
end AF
namespace AF
open PySem PySem.Spec PyProof.Rows L2
def kMeQ (C : Addr) (m : Str) (n : Nat) (sp : List V → List V → Hp → VK → XK → Prop) (E : XK) (tk : TA) (σ : L2.St) (Q : VK) (x : V) (H1 : Hp) : Prop := ∃ a dx fs, x = .ref a ∧ H1 a = some (.ins C dx fs) ∧ fs.lookup m = none ∧ tk σ H1 fun zs H2 => zs.length = n ∧ sp [x] zs H2 Q E
instance {C : Addr} {m : Str} {n : Nat} {sp : List V → List V → Hp → VK → XK → Prop} {E : XK} {ta : TE} {tk : TA} {σ : L2.St} {H : Hp} {Q : VK} : Step (tMeQ C m n sp E ta tk σ H Q) (ta σ H (kMeQ C m n sp E tk σ Q)) := ⟨fun h => h⟩
/-- such a method as a fact *-/
structure Qn (P : Program) (w : World) (K : PySem.W.Frag) (mg : Str → Option Value) (base : Heap) (k : Nat) (C : Addr) (m : Str) (ks : List Str) (sp : List V → List V → Hp → VK → XK → Prop) : Prop where
  ex : ∃ f, FnQ P w K mg base k f ks sp ∧ Meth K C m f
  cl : Cls K C
theorem pe_mq {X : Cx} {k : Nat} {C : Addr} {m : Str} {ks : List Str} {sp : List V → List V → Hp → VK → XK → Prop} {E : XK} {o : Expr} {ta : TE} {tk : TA} {kws : List Keyword} {apos pos : Pos} {pl : Sem Bool} (D : Qn X.prog X.w X.K X.mg X.base k C m ks sp) (hr : Room k X.A) (hx : Passes (L2.CX X.prog X.w) X E) (he : PE X o ta) (hkw : PK X kws tk)
    (hall : (backToKw pos (keywordEach kws X.env)).all (·.1.isSome) = true := by rfl) (hks : (backToKw pos (keywordEach kws X.env)).filterMap (·.1) = ks := by rfl)
    (hpl : ((backTo pos (starEach [] X.env)).any (·.1) || (backToKw pos (keywordEach kws X.env)).any (·.1.isNone)) = false := by rfl)
    (ht : eval (.Call (.Attribute o m apos) [] kws pos) X.env = (do
      let ov ← eval o X.env
      standAt apos.atName
      let (f, first) ← holding [ov] (getMethod ov m pl)
      callWith pos f first (backTo pos (starEach [] X.env)) (backToKw pos (keywordEach kws X.env))) := by rfl) :
    PE X (.Call (.Attribute o m apos) [] kws pos) (tMeQ C m ks.length sp E ta tk) := by
  obtain ⟨f, F, M⟩ := D.ex
  exact pe_methQ he D.cl M F hr hx hkw hall hks hpl ht
/-- C(**e) by a fact *-/
theorem pe_mws {X : Cx} {k : Nat} {C : Addr} {ks : List Str} {sp : Sp} {E : XK} {x : Str} {p pos kp : Pos} {e : Expr} {te : TE} {gV : List V → List V → List V} (D : Mw X.prog X.w X.K X.mg X.base k C ks gV sp)
    (hr : Room (k + 1) X.A) (hg : Gl X x) (hm : X.mg x = some (.ref C)) (hx : Passes (L2.CX X.prog X.w) X E) (he : PE X e te) (hdb : (x == ("__debug__" : Str)) = false := by decide) :
    PE X (.Call (.Name x p) [] [⟨none, e, kp⟩] pos) (tMwS C ks sp gV E te) := by
  obtain ⟨f, fd, ps, g, F, M, hb⟩ := D.ex
  exact pe_mwS M F hb hr hg hm hx he hdb
/-- a loop over a dict's keys, by a word for each place *-/
theorem g_keysP {j : Nat} {tb : TS} {nx bk ct : L2.St → Hp → Prop} {rt : VK} {σ : L2.St} {H : Hp} {d : Addr} {o : Obj} {kvs : List (Key × V)} (Pv : Nat → L2.St → Hp → Prop) (hd : H d = some (.frz o (.dK kvs))) (h0 : Pv 0 σ H) (hl : ∀ i σ H, Pv i σ H → H d = some (.frz o (.dK kvs)))
    (hs : ∀ i k v σ H, kvs[i]? = some (k, v) → Pv i σ H → tb ⟨Pv (i + 1), rt, nx, Pv (i + 1)⟩ (σ.set j (some (kV k))) H) (he : ∀ σ H, Pv kvs.length σ H → nx σ H) : kKs (gName j) tb ⟨nx, rt, bk, ct⟩ σ (.ref d) H := by
  refine ⟨d, o, rfl, .inl ⟨kvs, hd, fun i m σ H => m = kvs.length - i ∧ i ≤ kvs.length ∧ Pv i σ H, ⟨kvs.length, by simp, Nat.zero_le _, h0⟩, ?_⟩⟩
  rintro i m σ H ⟨rfl, hi, p⟩
  have hf := hl i σ H p
  by_cases lt : i < kvs.length
  · refine .inr ⟨⟨hf, lt⟩, fun σ' H' => Pv (i + 1) σ' H', fun σ' H' p' => ⟨kvs.length - (i + 1), by omega, rfl, lt, p'⟩, fun x H' y => ?_⟩
    obtain ⟨rfl, k, v, e, rfl⟩ := y
    exact hs i k v σ _ e p
  · have e : i = kvs.length := by omega
    subst e
    exact .inl ⟨⟨hf, Nat.le_refl _⟩, he σ H p⟩
/-! dicts of the same names, compared -/
theorem value_zip : ∀ {ks : List Str} {ws : List Value} {i : Nat} {k : Str} {v : Value}, ks.Nodup → ks[i]? = some k → ws[i]? = some v → valueAt ((ks.map Sum.inr : List Key).zip ws) (.inr k) = some v
  | [], _, _, _, _, _, h, _ => by cases h
  | _ :: _, [], _, _, _, _, _, h => by cases h
  | a :: ks, b :: ws, 0, k, v, _, h1, h2 => by
    cases h1
    cases h2
    simp [valueAt]
  | a :: ks, b :: ws, i + 1, k, v, nd, h1, h2 => by
    have h1' : ks[i]? = some k := h1
    have h2' : ws[i]? = some v := h2
    have ne : a ≠ k := fun z => by
      subst z
      exact (List.nodup_cons.mp nd).1 (List.mem_of_getElem? h1')
    have ih := value_zip (List.nodup_cons.mp nd).2 h1' h2'
    unfold valueAt at ih ⊢
    rw [List.map_cons, List.zip_cons_cons, List.find?_cons_of_neg]
    · exact ih
    · simpa using ne
theorem hitsM {K : PySem.W.Frag} {X : Cx} {pins : List (Addr × Obj)} {σ : L2.St} {H : Hp} {s : Shared} (hK : X.K = K) (I : Inv X pins σ H s) {A : Around} (hu : A.units + 60 < cLine) {vb : List (Key × Value)} : ∀ {ks : List Str} {l1 l2 : List V} {d1 d2 : List PyData} {w1 w2 : List Value}, DpAll K H l1 d1 → DpAll K H l2 d2 → Vals l1 w1 → Vals l2 w2 →
    ks.length = l1.length → ks.length = l2.length → PyData.canLayAll0 d1 = true → PyData.canLayAll0 d2 = true → PyData.depthAll d1 ≤ 59 → (∀ (i : Nat) (k : Str) (v : Value), ks[i]? = some k → w2[i]? = some v → valueAt vb (.inr k) = some v) → PySem.W.KeqHits A s vb ((ks.map Sum.inr).zip w1) (PyData.eqvAll d1 d2) := by
  subst hK
  intro ks
  induction ks with
  | nil =>
    intro l1 l2 d1 d2 w1 w2 p1 p2 r1 r2 e1 e2 _ _ _ _
    cases l1 with
    | cons _ _ => cases e1
    | nil =>
      cases l2 with
      | cons _ _ => cases e2
      | nil =>
        cases p1
        cases p2
        exact .nil
  | cons k ks ih =>
    intro l1 l2 d1 d2 w1 w2 p1 p2 r1 r2 e1 e2 c1 c2 dp hv
    cases l1 with
    | nil => cases e1
    | cons x l1 =>
      cases l2 with
      | nil => cases e2
      | cons y l2 =>
        cases p1 with
        | cons q1 p1 =>
          cases p2 with
          | cons q2 p2 =>
            cases r1 with
            | cons s1 r1 =>
              cases r2 with
              | cons s2 r2 =>
                obtain ⟨as, R1⟩ := Dp.reads I _ _ _ q1 s1
                obtain ⟨bs, R2⟩ := Dp.reads I _ _ _ q2 s2
                have c1' := Bool.and_eq_true_iff.mp c1
                have c2' := Bool.and_eq_true_iff.mp c2
                have dp' := Nat.max_le.mp dp
                have eqh := SeqAt.eqAt_reads _ _ A s _ _ _ _ R1 R2 c1'.1 c2'.1 (Nat.lt_of_le_of_lt (Nat.add_le_add_left (Nat.le_trans (Nat.min_le_left _ _) dp'.1) _) (by omega))
                exact .hit (hv 0 _ _ rfl rfl) eqh (ih p1 p2 r1 r2 (by simpa using e1) (by simpa using e2) c1'.2 c2'.2 dp'.2 fun i k v h1 h2 => hv (i + 1) k v h1 h2)
def rEqM (K : PySem.W.Frag) : R2 := fun x y H Q => ∃ (a b : Addr) (ks : List Str) (l1 l2 : List V) (d1 d2 : List PyData), x = .ref a ∧ y = .ref b ∧ Rd H a (.dK ((ks.map Sum.inr).zip l1)) ∧ Rd H b (.dK ((ks.map Sum.inr).zip l2)) ∧ ks.length = l1.length ∧ ks.length = l2.length ∧ ks.Nodup ∧
  DpAll K H l1 d1 ∧ DpAll K H l2 d2 ∧ PyData.canLayAll0 d1 = true ∧ PyData.canLayAll0 d2 = true ∧ PyData.depthAll d1 ≤ 59 ∧ Q (.bl (PyData.eqvAll d1 d2)) H
def rNeM (K : PySem.W.Frag) : R2 := fun x y H Q => ∃ (a b : Addr) (ks : List Str) (l1 l2 : List V) (d1 d2 : List PyData), x = .ref a ∧ y = .ref b ∧ Rd H a (.dK ((ks.map Sum.inr).zip l1)) ∧ Rd H b (.dK ((ks.map Sum.inr).zip l2)) ∧ ks.length = l1.length ∧ ks.length = l2.length ∧ ks.Nodup ∧
  DpAll K H l1 d1 ∧ DpAll K H l2 d2 ∧ PyData.canLayAll0 d1 = true ∧ PyData.canLayAll0 d2 = true ∧ PyData.depthAll d1 ≤ 59 ∧ Q (.bl (!PyData.eqvAll d1 d2)) H
theorem op_eqM {X : Cx} (hu : X.A.units + 64 < cLine) : OpR X (compareOp .Eq) (rEqM X.K) := by
  intro pins s σ H x y v u Q I rx ry h
  obtain ⟨a, b, ks, l1, l2, d1, d2, rfl, rfl, ea, eb, n1, n2, nd, p1, p2, c1, c2, dp, q⟩ := h
  obtain rfl : v = Value.ref a := rx
  obtain rfl : u = Value.ref b := ry
  obtain ⟨_, ya, va, ra, da⟩ := dk_rd I.hok ea
  obtain ⟨_, yb, vb, rb, db⟩ := dk_rd I.hok eb
  obtain ⟨w1, e1, r1, m1⟩ := kv_zip n1 ra
  obtain ⟨w2, e2, r2, m2⟩ := kv_zip n2 rb
  subst e1 e2
  have hl : ((ks.map Sum.inr : List Key).zip w1).length = ((ks.map Sum.inr : List Key).zip w2).length := by
    rw [List.length_zip, List.length_zip, ← m1, ← m2]
  exact PySem.W.keq_eq (knd := mixKind X.prog X.w) (r := PyData.eqvAll d1 d2) ya yb da db (by omega) (fun _ => hitsM rfl I (show X.A.in1.units + 60 < cLine from by show X.A.units + 1 + 60 < cLine; omega) p1 p2 r1 r2 n1 n2 c1 c2 dp fun i k v h1 h2 => value_zip nd h1 h2) (fin_bl I q (by simp [hl]))
theorem op_neM {X : Cx} (hu : X.A.units + 64 < cLine) : OpR X (compareOp .NotEq) (rNeM X.K) := by
  intro pins s σ H x y v u Q I rx ry h
  obtain ⟨a, b, ks, l1, l2, d1, d2, rfl, rfl, ea, eb, n1, n2, nd, p1, p2, c1, c2, dp, q⟩ := h
  obtain rfl : v = Value.ref a := rx
  obtain rfl : u = Value.ref b := ry
  obtain ⟨_, ya, va, ra, da⟩ := dk_rd I.hok ea
  obtain ⟨_, yb, vb, rb, db⟩ := dk_rd I.hok eb
  obtain ⟨w1, e1, r1, m1⟩ := kv_zip n1 ra
  obtain ⟨w2, e2, r2, m2⟩ := kv_zip n2 rb
  subst e1 e2
  have hl : ((ks.map Sum.inr : List Key).zip w1).length = ((ks.map Sum.inr : List Key).zip w2).length := by
    rw [List.length_zip, List.length_zip, ← m1, ← m2]
  exact PySem.W.keq_ne (knd := mixKind X.prog X.w) (r := PyData.eqvAll d1 d2) ya yb da db (by omega) (fun _ => hitsM rfl I (show X.A.in1.units + 60 < cLine from by show X.A.units + 1 + 60 < cLine; omega) p1 p2 r1 r2 n1 n2 c1 c2 dp fun i k v h1 h2 => value_zip nd h1 h2) (fin_bl I q (by simp [hl]))
theorem ty_kt {K : PySem.W.Frag} {H : Hp} {a : Addr} {xs : List V} (h : KT K a xs) : TyX K H (.ref a) (.type "tuple") := by
  obtain ⟨o, its, n, e, c, _⟩ := h
  exact .kTuple e c
/-- d.update(e) *-/
def rUpd : V → List V → Hp → VK → Prop := fun x vs H Q => ∃ (a b : Addr) (k1 k2 : List (Key × V)), x = .ref a ∧ vs = [.ref b] ∧ H a = some (.dK k1) ∧ Rd H b (.dK k2) ∧ a ≠ b ∧ k1.length + k2.length ≤ sizeLine ∧ Q .non (upd H a (.dK (mergeK k1 k2)))
theorem mt_update {X : Cx} : MtM X "dict.update" rUpd := by
  intro pins s σ H x vs v us Q I rx rv h
  obtain ⟨a, b, k1, k2, rfl, rfl, ea, eb, ne, z, q⟩ := h
  cases rx
  obtain ⟨u, rfl, ru⟩ := rv.one
  cases ru
  obtain ⟨z1, hd1, vs1, r1, dd1⟩ := dk_of I.hok ea
  obtain ⟨z2, hd2, vs2, r2, dd2⟩ := dk_rd I.hok eb
  refine call_meetsIn PySem.F.slot_dict_update dd1.typeIs PySem.F.entry_dict_update (PySem.F.args_dict_update_2 _ _) (meets_dict_update (mixKind X.prog X.w) a b ne hd2) ⟨vs1, vs2, dd1, dd2, by rw [← r1.length, ← r2.length]; exact z, fun h' d1 d2 sb => ?_⟩
  have he : ∃ q, h'.get? a = some q := let ⟨q, _, _, hq, _⟩ := d1; ⟨q, hq⟩
  exact ⟨.non, _, d_write (t' := s.toks) I (by rw [ea]; exact True.intro) sb he (dk_new (Nat.le_trans (length_mergeK k2 k1) z) hd1 (r2.merge r1) d1), rfl, q⟩
/-- [t(name) for name in a list of texts] *-/
theorem g_lcSL {K : PySem.W.Frag} {te : TE} {ks : List Nat} {σ : L2.St} {Q : VK} {H : Hp} {a : Addr} {i : Nat} {ls : List Str} (f : Str → V) (hT : H a = some (.lst (ls.map V.str))) (hn : ls.length ≤ 100)
    (hb : ∀ s, s ∈ ls → ∀ H1 (R : V → Hp → Prop), Up H H1 → R (f s) H1 → wipe ((wipe σ ks).set i (some (.str s))) ks = wipe σ ks ∧ te ((wipe σ ks).set i (some (.str s))) H1 R)
    (q : ∀ D H', H D = none → Up H H' → H' D = some (.lst (ls.map f)) → Q (.ref D) H') : kLcL K (gName i) tYes te ks σ Q (.ref a) H := by
  refine ⟨a, rfl, ⟨_, SqL.of hT⟩, fun D hD => ?_⟩
  have u0 : Up H (upd H D (.lst [])) := Up.new hD
  refine lc_list (K := K) (xs := ls.map V.str) (fun k H' => Up H H' ∧ H' D = some (.lst ((ls.take k).map f))) ⟨u0, upd_same⟩ (fun k H' _ p => SqL.of (p.1 _ _ hT)) (fun k x H' hx p => ?_) fun H' p => ?_
  · obtain ⟨uH, hD'⟩ := p
    rw [List.getElem?_map] at hx
    cases e : ls[k]? with
    | none => rw [e] at hx; cases hx
    | some s =>
      rw [e] at hx
      cases hx
      have etk : ls.take (k + 1) = ls.take k ++ [s] := by rw [List.take_add_one, e]; rfl
      have z := hb s (List.mem_of_getElem? e) H' (fun y H4 => ∃ acc, H4 D = some (.lst acc) ∧ acc.length < sizeLine ∧ (Up H (upd H4 D (.lst (acc ++ [y]))) ∧ upd H4 D (.lst (acc ++ [y])) D = some (.lst ((ls.take (k + 1)).map f)))) uH ⟨_, hD', line1000 (by rw [List.length_map, List.length_take]; omega), Up.setF uH hD, by rw [upd_same, etk, List.map_append]; rfl⟩
      exact ⟨z.1, g_tYes z.2⟩
  · obtain ⟨uH, hD'⟩ := p
    rw [List.length_map, List.take_length] at hD'
    exact q D H' hD uH hD'
/-- o[i] = v by an own __setitem__ *-/
structure SetI17 (K : PySem.W.Frag) (C f : Addr) : Prop where
  nq : PySem.W.noSeq K C = true
  hs : PySem.W.findIn K (.ref C) "__setitem__" = some (some (.ref f))
  hf : PySem.W.isFn K (.ref f) = true
def siB (K : PySem.W.Frag) (C f : Addr) : Bool := PySem.W.noSeq K C && (He.eqO (PySem.W.findIn K (.ref C) "__setitem__") (some (some (.ref f))) && PySem.W.isFn K (.ref f))
theorem siB_ok {K : PySem.W.Frag} {C f : Addr} (h : siB K C f = true) : SetI17 K C f := by
  obtain ⟨h1, h⟩ := He.ba h
  obtain ⟨h2, h3⟩ := He.ba h
  exact ⟨h1, He.eqO_ok h2, h3⟩
def rSetO (C : Addr) (sp : Sp) (E : XK) : TSet := fun o i v H Q => ∃ a dx fs, o = .ref a ∧ H a = some (.ins C dx fs) ∧ sp [o, i, v] H (fun _ H' => Q H') E
theorem set_own {X : Cx} {k : Nat} {f C : Addr} {ps : List Str} {sp : Sp} {E : XK} (D : Dn X.prog X.w X.K X.mg X.base k f ps sp) (B : SetI17 X.K C f) (hr : Room k X.A) (hx : Passes (L2.CX X.prog X.w) X E) : PSet X (rSetO C sp E) := by
  intro pins s σ H o i v ov iv u Q I ro ri rv h
  obtain ⟨a, dx, fs, rfl, ha, q⟩ := h
  cases ro
  obtain ⟨fd, F, b⟩ := D.ex
  obtain ⟨mA, J, _⟩ := ins_get I.hok ha
  obtain ⟨od, J, _⟩ := J.look
  obtain ⟨m, hF⟩ := I.fr
  refine PySem.W.ksp_setItem hF I.ok.mod.kin J B.nq B.hs B.hf ?_
  exact thn (run_fn (us := [.ref a, iv, u]) (vs := [.ref a, i, v]) F hr b .nil hx I (.cons rfl (.cons ri (.cons rv .nil))) q) fun w' s' z => by
    obtain ⟨v', H', I', rv', q'⟩ := z
    exact ⟨H', I', q'⟩
/-- two ways to a value, told by one word *-/
theorem g_meetE {b : Bool} {te1 te2 : TE} {σ : L2.St} {H : Hp} {Q : VK} (W : V → Hp → Prop) (h1 : b = true → ∀ Qx : VK, (∀ v H', W v H' → Qx v H') → te1 σ H Qx) (h2 : b = false → ∀ Qx : VK, (∀ v H', W v H' → Qx v H') → te2 σ H Qx) (q : ∀ v H', W v H' → Q v H') : if b = true then te1 σ H Q else te2 σ H Q := by
  cases b with
  | true => rw [if_pos rfl]; exact h1 rfl Q q
  | false => rw [if_neg (by decide)]; exact h2 rfl Q q
/-- x() of a def *-/
theorem pe_dn0 {X : Cx} {k : Nat} {f : Addr} {sp : Sp} {E : XK} {x : Str} {p pos : Pos} (D : Dn X.prog X.w X.K X.mg X.base k f [] sp) (hr : Room k X.A) (hg : Gl X x) (hm : X.mg x = some (.ref f)) (hx : Passes (L2.CX X.prog X.w) X E) (hdb : (x == ("__debug__" : Str)) = false := by decide) :
    PE X (.Call (.Name x p) [] [] pos) (tCall sp [] E tNil) := by
  obtain ⟨fd, F, b⟩ := D.ex
  exact pe_call0 F hr hg hm D.kp b .nil hx hdb
end AF
/-! comprehensions over a dict's keys; a dict looked at again; sorted texts *-/
namespace AF
open PySem PySem.Spec PyProof.Rows L2
/-- a dict that is looked at, or is looked at again -/
def kLk2 (Q : VK) (x : V) (H : Hp) : Prop := ∃ d kvs, x = .ref d ∧ ((H d = some (.dK kvs) ∧ ∀ od, Q (.ref d) (upd H d (.frz od (.dK kvs)))) ∨ ((∃ od, H d = some (.frz od (.dK kvs))) ∧ Q (.ref d) H))
def tLk2 (td : TE) : TE := fun σ H Q => td σ H (kLk2 Q)
theorem pe_lk2 {X : Cx} {e : Expr} {td : TE} (h : PE X e td) : PE X e (tLk2 td) := by
  refine ⟨fun pins s σ H Q I hw => ?_⟩
  refine thn (h.run pins s σ H _ I hw) fun v s1 ⟨x, H1, I1, r, d, kvs, ex, q⟩ => ?_
  subst ex
  rcases q with ⟨hd, q⟩ | ⟨_, q⟩
  · obtain ⟨od, I2⟩ := I1.lock hd True.intro
    exact ⟨_, _, I2, r, q od⟩
  · exact ⟨_, _, I1, r, q⟩
instance {td : TE} {σ : L2.St} {H : Hp} {Q : VK} : Step (tLk2 td σ H Q) (td σ H (kLk2 Q)) := ⟨fun h => h⟩
/-- written or looked at -/
def Dm (H : Hp) (d : Addr) (kvs : List (Key × V)) : Prop := H d = some (.dK kvs) ∨ ∃ od, H d = some (.frz od (.dK kvs))
theorem g_lk2 {d : Addr} {kvs : List (Key × V)} {Q : VK} {H : Hp} (h : Dm H d kvs) (q : ∀ od H', UpX d H H' → H' d = some (.frz od (.dK kvs)) → Q (.ref d) H') : kLk2 Q (.ref d) H := by
  refine ⟨d, kvs, rfl, ?_⟩
  rcases h with h | ⟨od, h⟩
  · exact .inl ⟨h, fun od => q od _ UpX.set upd_same⟩
  · exact .inr ⟨⟨od, h⟩, q od _ (fun _ _ _ e => e) h⟩
theorem g_dgM {a : Addr} {z : Str} {kvs : List (Key × V)} {v : V} {Q : VK} {H : Hp} (h : Dm H a kvs) (e : valV kvs (.inr z) = some v) (q : Q v H) : kDG Q (.ref a) (.str z) H := by
  rcases h with h | ⟨od, h⟩
  · exact g_dg h e q
  · exact g_dgF h e q
theorem Dm.upX {x d : Addr} {kvs : List (Key × V)} {H H' : Hp} (u : UpX x H H') (n : d ≠ x) (h : Dm H d kvs) : Dm H' d kvs := by
  rcases h with h | ⟨od, h⟩
  · exact .inl (u _ _ n h)
  · exact .inr ⟨od, u _ _ n h⟩
theorem Dm.up {d : Addr} {kvs : List (Key × V)} {H H' : Hp} (u : Up H H') (h : Dm H d kvs) : Dm H' d kvs := by
  rcases h with h | ⟨od, h⟩
  · exact .inl (u _ _ h)
  · exact .inr ⟨od, u _ _ h⟩
section
variable {td : TE} {g : TG} {tt : TT} {te : TE} {vs : List Nat} {σ σ' : L2.St} {Q : VK} {H : Hp} {d : Addr} {o : Obj} {kvs : List (Key × V)}
def LcOk (J : It) (g : TG) (tt : TT) (te : TE) (vs : List Nat) (σ : L2.St) (Q : VK) (H1 : Hp) : Prop := ∀ D, H1 D = none → ∃ W : Nat → Nat → Hp → Prop, (∃ m, W 0 m (upd H1 D (.lst []))) ∧ ∀ i m H, W i m H →
  (J.stop i H ∧ Q (.ref D) H) ∨ (J.go i H ∧ ∃ Nx : Hp → Prop, (∀ H', Nx H' → ∃ m', m' < m ∧ W (i + 1) m' H') ∧ ∀ x H', J.yld i H x H' → g x (wipe σ vs) H' fun σ2 H2 => wipe σ2 vs = wipe σ vs ∧ tt σ2 H2 fun b H3 =>
    if b = true then te σ2 H3 fun y H4 => ∃ acc, H4 D = some (.lst acc) ∧ acc.length < sizeLine ∧ Nx (upd H4 D (.lst (acc ++ [y]))) else Nx H3)
def kLcK (g : TG) (tt : TT) (te : TE) (vs : List Nat) (σ : L2.St) (Q : VK) (x : V) (H1 : Hp) : Prop := ∃ d o, x = .ref d ∧ ((∃ kvs, H1 d = some (.frz o (.dK kvs)) ∧ LcOk (Itk d o kvs) g tt te vs σ Q H1) ∨ ∃ kvs, H1 d = some (.frz o (.dT kvs)) ∧ LcOk (Itkt d o kvs) g tt te vs σ Q H1)
instance : Step (tLc (iKeys (tLk2 td)) g tt te vs σ H Q) (td σ H (kLk2 (kLcK g tt te vs σ Q))) := ⟨fun h => h⟩
theorem g_lcK (hd : H d = some (.frz o (.dK kvs))) (q : ∀ D, H D = none → EachQ g tt te vs σ Q D (fun H => H d = some (.frz o (.dK kvs))) (kvs.map fun kv : Key × V => kV kv.1) (upd H D (.lst []))) : kLcK g tt te vs σ Q (.ref d) H := by
  refine ⟨d, o, rfl, .inl ⟨kvs, hd, fun D hD => lc_it (walk_keys (d := d) (o := o) (kvs := kvs)) (fun i H => EachQ g tt te vs σ Q D (fun H => H d = some (.frz o (.dK kvs))) ((kvs.map fun kv : Key × V => kV kv.1).drop i) H) (q D hD) (fun i H _ p => eachQ_in (In := fun H => H d = some (.frz o (.dK kvs))) p) (fun i x H H' hi p y => ?_) fun H p => ?_⟩⟩
  · obtain ⟨rfl, k, v, e, rfl⟩ := y
    have hi2 : i < (kvs.map fun kv : Key × V => kV kv.1).length := by rw [List.length_map]; exact hi
    have e2 : (kvs.map fun kv : Key × V => kV kv.1)[i] = kV k := by
      rw [List.getElem_map, (List.getElem?_eq_some_iff.mp e).2]
    rw [List.drop_eq_getElem_cons hi2, e2] at p
    exact p.2
  · rw [List.drop_eq_nil_of_le (by rw [List.length_map]; exact Nat.le_refl _)] at p
    exact p.2
end
/-! sorted(..) of the three marks -/
def mks : List Str := ["read", "written", "changed"]
theorem sorted3 {ys : List Str} (hp : ys.Perm mks) (hs : sortedS ys = true) : ys = (["changed", "read", "written"] : List Str) := by
  have hl := hp.length_eq
  have hm : ∀ y, y ∈ ys → y = "read" ∨ y = "written" ∨ y = "changed" := fun y hy => by
    have := hp.mem_iff.mp hy
    simpa [mks] using this
  match ys, hl with
  | [a, b, c], _ =>
    rcases hm a (by simp) with rfl | rfl | rfl <;> rcases hm b (by simp) with rfl | rfl | rfl <;> rcases hm c (by simp) with rfl | rfl | rfl <;> first
      | rfl
      | (exfalso; revert hs; decide +kernel)
      | (exfalso; revert hp; decide +kernel)
theorem g_sort3 {K : PySem.W.Frag} {H : Hp} {Q : VK} {a : Addr} (h : H a = some (.lst (mks.map V.str))) (q : ∀ p, H p = none → Q (.ref p) (upd H p (.lst [.str "changed", .str "read", .str "written"]))) : rSortedS K [.ref a] H Q := by
  refine ⟨a, mks, rfl, SqL.of h, by decide, fun ys p hp hs hn => ?_⟩
  rw [sorted3 hp hs]
  exact q p hn
end AF
namespace K1
open PySem PySem.Spec PyProof.Rows L2 AF
open C8 (pe_gc)

local macro_rules | `(tactic| purse 7003 => fail) => `(tactic| k_dflt (refine Sh.has_ (by assumption) ?_; repeat (first | exact On.here | apply On.next)))
local macro_rules | `(tactic| purse 7004 => fail) => `(tactic| k_dflt (repeat (first | exact On.here | apply On.next)))
local macro_rules | `(tactic| purse 7005 => fail) => `(tactic| (repeat (first | exact Rep.here | apply Rep.next)))
local macro_rules | `(tactic| purse 7006 => fail) => `(tactic| (exact Sh.out (by assumption) (fun b h => by simp [h])))
local macro_rules | `(tactic| purse 7007 => fail) => `(tactic| k_dflt (first | ((with_reducible refine cdivw ?_ ?_) <;> omega) | ((with_reducible show CDiv _ _); constructor <;> omega) | ((with_reducible show CMul _ _); (first | (left; constructor <;> omega) | (right; constructor <;> omega))) | (show (0 : Int) < _; omega)))
local macro_rules | `(tactic| purse 7008 => fail) => `(tactic| first | exact Kd.int _ | exact Kd.bl _ | exact Kd.non | exact Kd.str _ | exact Kd.ins (by (purse 7003 => fail)) | exact Kd.lst (by (purse 7003 => fail)) | exact Kd.tup (by (purse 7003 => fail)))
local macro_rules | `(tactic| purse 7009 => fail) => `(tactic| first | exact DpAll.nil | (apply DpAll.cons; (purse 7010 => fail); (purse 7009 => fail)))
local macro_rules | `(tactic| purse 7010 => fail) => `(tactic| first | exact Dp.int _ | exact Dp.bl _ | exact Dp.non | exact Dp.str _ | (refine dp_int ?_; omega) | (refine dp_bl ?_; simp only [decide_eq_decide]; omega) | (apply dp_lst; (purse 7003 => fail); (purse 7009 => fail)) | (apply dp_tup; (purse 7003 => fail); (purse 7009 => fail)))
local macro_rules | `(tactic| purse 7011 => fail) => `(tactic| first | assumption | omega)
local macro_rules | `(tactic| purse 7001 => fail) => `(tactic| fail "no use")
local macro_rules | `(tactic| purse 7002 => fail) => `(tactic| first
  | (with_reducible refine set_go ?_)
  | (with_reducible refine Step.go ?_)
  | (with_reducible first | refine g_pow10_6 ?_ | refine g_pow10_7 ?_ | refine g_pow10_18 ?_ | refine g_pow10_29 ?_ | refine g_pow10_30 ?_)
  | ((with_reducible refine' g_I ?a0 ?_); (case a0 => (purse 7007 => fail)))
  | ((with_reducible refine' g_ixL ?a0 ?a1 ?_); (case a0 => (purse 7003 => fail)); (case a1 => k_dflt (exact rfl)))
  | ((with_reducible refine' g_kfld ?a0 ?a1 ?a2 ?a3 ?_); (case a0 => (purse 7003 => fail)); (case a1 => k_dflt (assumption)); (case a2 => k_dflt (assumption)); (case a3 => k_dflt (exact rfl)))
  | ((with_reducible refine' g_kprop ?a0 ?_); (case a0 => (purse 7003 => fail)))
  | ((with_reducible refine' g_kmeth ?a0 ?a1 ?_); (case a0 => (purse 7003 => fail)); (case a1 => k_dflt (exact rfl)))
  | ((with_reducible refine' g_own ?a0 ?a1 ?a2 ?_); (case a0 => (purse 7003 => fail)); (case a1 => (purse 7008 => fail)); (case a2 => k_dflt (assumption)))
  | ((with_reducible refine' g_cmp ?a0 ?a1 ?a2 ?_); (case a0 => (purse 7003 => fail)); (case a1 => (purse 7008 => fail)); (case a2 => k_dflt (assumption)))
  | ((with_reducible refine' g_neq ?a0 ?a1 ?a2 ?_); (case a0 => (purse 7003 => fail)); (case a1 => (purse 7008 => fail)); (case a2 => k_dflt (assumption)))
  | ((with_reducible refine' g_right ?a0 ?_); (case a0 => (purse 7003 => fail)))
  | ((with_reducible refine' use_draw ?a0 ?a1 ?a2 ?a3 ?a4 ?_); (case a0 => assumption); (case a1 => intro _ _; (purse 7005 => fail)); (case a2 => assumption); (case a3 => (purse 7011 => fail)); (case a4 => (purse 7011 => fail)); intro _ _ _ _ _ _ _ _)
  | ((with_reducible refine' use_giveI ?a0 ?a1 ?a2 ?_); (case a0 => assumption); (case a1 => intro _ _; (purse 7005 => fail)); (case a2 => assumption); intro _ _ _ _ _ _ _ _)
  | ((with_reducible refine' use_source ?a0 ?a1 ?_); (case a0 => assumption); (case a1 => k_dflt (assumption)); intro _ _ _ _ _ _)
  | (with_reducible refine g_absN ?_; intro _ _)
  | (with_reducible refine g_maxN ?_; intro _ _ _ _)
  | (with_reducible refine g_minN ?_; intro _ _ _ _)
  | ((with_reducible refine' g_kR1 ?a0 ?a1 ?_); (case a0 => omega); (case a1 => omega))
  | ((with_reducible refine' g_neD ?a0 ?a1 ?a2 ?_); (case a0 => (purse 7010 => fail)); (case a1 => (purse 7010 => fail)); (case a2 => k_dflt (rfl)))
  | ((with_reducible refine' g_eqD ?a0 ?a1 ?a2 ?_); (case a0 => (purse 7010 => fail)); (case a1 => (purse 7010 => fail)); (case a2 => k_dflt (rfl)))
  | ((with_reducible refine' g_klst ?a0 ?a1 ?_); (case a0 => assumption); (case a1 => k_dflt (exact rfl)); intro _ _ _ _)
  | ((with_reducible refine' g_ktup ?a0 ?a1 ?_); (case a0 => assumption); (case a1 => k_dflt (exact rfl)); intro _ _ _ _)
  | ((with_reducible refine' g_setL ?a0 ?a1 ?a2 ?_); (case a0 => assumption); (case a1 => (purse 7005 => fail)); (case a2 => k_dflt (exact rfl)); intro _ _)
  | ((with_reducible refine' g_unl3 ?a0 ?_); (case a0 => (purse 7003 => fail)))
  | (purse 7001 => fail))
local macro_rules | `(tactic| purse 7012 => fail) => `(tactic| ((try (with_reducible refine start_go ?_)); repeat (purse 7002 => fail)))
local macro_rules | `(tactic| purse 7013 => fail) => `(tactic| first | rfl | (refine decide_eq_true ?_; omega) | (simp only [Bool.not_eq_true', Bool.not_eq_false', decide_eq_false_iff_not, decide_eq_true_eq, Bool.not_not, decide_eq_decide]; done) | (simp only [Bool.not_eq_true', Bool.not_eq_false', decide_eq_false_iff_not, decide_eq_true_eq, Bool.not_not, decide_eq_decide]; omega))
local macro_rules | `(tactic| purse 7014 => fail) => `(tactic| first | rfl | (refine decide_eq_false ?_; omega) | (simp only [Bool.not_eq_true', Bool.not_eq_false', decide_eq_false_iff_not, decide_eq_true_eq, Bool.not_not, decide_eq_decide]; done) | (simp only [Bool.not_eq_true', Bool.not_eq_false', decide_eq_false_iff_not, decide_eq_true_eq, Bool.not_not, decide_eq_decide]; omega))
local macro_rules | `(tactic| purse 7015 => fail) => `(tactic| ((refine g_yes ?h ?_); (case h => (purse 7013 => fail))))
local macro_rules | `(tactic| purse 7016 => fail) => `(tactic| ((refine g_no ?h ?_); (case h => (purse 7014 => fail))))
local macro_rules | `(tactic| purse 7017 => fail) => `(tactic| first | (purse 7015 => fail) | (purse 7016 => fail))
local macro_rules | `(tactic| purse 7018 => fail) => `(tactic| repeat ((purse 7012 => fail); (purse 7017 => fail)))
local macro_rules | `(tactic| purse 7019 => fail) => `(tactic| repeat (first | exact intIn_nil | refine intIn_cons (by omega) (by omega) ?_))
local macro_rules | `(tactic| purse 7020 => fail) => `(tactic| (simp only [List.length_cons, List.length_nil]; omega))
local macro_rules | `(tactic| purse 7021 => fail) => `(tactic| (refine g_two (fun c => ?_) (fun c => ?_) <;> first | (have c := of_decide_eq_true c) | (have c := of_decide_eq_false c) | skip))
local macro_rules | `(tactic| purse 7022 => fail) => `(tactic| ((purse 7018 => fail); (purse 7012 => fail); try ((purse 7021 => fail) <;> (purse 7022 => fail))))

/-! books: parts and their values -/
open He in
structure TB35 (K : PySem.W.Frag) (w : World) (mg : Str → Option Value) : Prop where
  g_is_whole : mg "is_whole" = some (.ref (ga K "is_whole"))
  g_is_count : mg "is_count" = some (.ref (ga K "is_count"))
  g_is_time : mg "is_time" = some (.ref (ga K "is_time"))
  g_is_looks : mg "is_looks" = some (.ref (ga K "is_looks"))
  g_is_part : mg "is_part" = some (.ref (ga K "is_part"))
  g_is_worth : mg "is_worth" = some (.ref (ga K "is_worth"))
  g_check_part : mg "check_part" = some (.ref (ga K "check_part"))
  g_check_book : mg "check_book" = some (.ref (ga K "check_book"))
  g_Book : mg "Book" = some (.ref (ga K "Book"))
  v_MARKS : ∃ u, mg "MARKS" = some u ∧ RelV (.ref (ga K "MARKS")) u
  marks : KT K (ga K "MARKS") [.str "read", .str "written", .str "changed"]
  v_PARTS : ∃ u, mg "PARTS" = some u ∧ RelV (.ref (ga K "PARTS")) u
  parts : KT K (ga K "PARTS") [.str "bound", .str "looks", .str "how", .str "day", .str "grain", .str "spares", .str "late", .str "again", .str "period"]
  z_isinstance : mg "isinstance" = none
  z_int : mg "int" = none
  z_bool : mg "bool" = none
  z_str : mg "str" = none
  z_tuple : mg "tuple" = none
  z_len : mg "len" = none
  z_list : mg "list" = none
  z_all : mg "all" = none
  cl : Cls K (ga K "Book")
  nT : NoAttr K (ga K "Book") "told_parts"
  ic : C8.InsC K (ga K "Book")
inductive Lk (x y z : Int) : List V → List Int → Prop where
  | r : Lk x y z [.str "read"] [x]
  | w : Lk x y z [.str "written"] [y]
  | c : Lk x y z [.str "changed"] [z]
  | rw : Lk x y z [.str "read", .str "written"] [x, y]
  | wc : Lk x y z [.str "written", .str "changed"] [y, z]
  | rc : Lk x y z [.str "read", .str "changed"] [x, z]
  | rwc : Lk x y z [.str "read", .str "written", .str "changed"] [x, y, z]
def allLk : List (List Str) := [["read", "written", "changed"], ["read"], ["written"], ["changed"], ["read", "written"], ["read", "changed"], ["written", "changed"]]
theorem lk_of {l : List Str} (h : l ∈ allLk) : ∃ ns, Lk 0 0 0 (l.map V.str) ns := by
  simp only [allLk, List.mem_cons, List.not_mem_nil, or_false] at h
  rcases h with rfl | rfl | rfl | rfl | rfl | rfl | rfl
  · exact ⟨_, .rwc⟩
  · exact ⟨_, .r⟩
  · exact ⟨_, .w⟩
  · exact ⟨_, .c⟩
  · exact ⟨_, .rw⟩
  · exact ⟨_, .rc⟩
  · exact ⟨_, .wc⟩
open He in
def spLooks (K : PySem.W.Frag) : Sp := fun vs H Q _ => (∃ (t : Addr) (ls : List V) (ns : List Int) (x y z : Int), vs = [.ref t] ∧ H t = some (.tup ls) ∧ Lk x y z ls ns ∧ ∀ H', Ch [] H H' → Q (.bl true) H') ∨ (vs = [.ref (ga K "MARKS")] ∧ ∀ H', Ch [] H H' → Q (.bl true) H')
def spWhole : Sp := fun vs H Q _ => ∃ n : Int, vs = [.int n] ∧ Q (.bl true) H
def spCnt : Sp := fun vs H Q _ => ∃ n : Int, vs = [.int n] ∧ Q (.bl (decide (0 ≤ n))) H
def spTime : Sp := fun vs H Q _ => ∃ n : Int, vs = [.int n] ∧ 1 ≤ n ∧ n ≤ 1000000000 ∧ Q (.bl true) H
open He in
/-- a tuple of marks: on the heap, or the module's own *-/
def Tk (K : PySem.W.Frag) (H : Hp) (t : Addr) (l : List Str) : Prop := H t = some (.tup (l.map V.str)) ∨ (t = ga K "MARKS" ∧ l = (["read", "written", "changed"] : List Str))
theorem Tk.up {K : PySem.W.Frag} {H H' : Hp} {t : Addr} {l : List Str} (u : Up H H') : Tk K H t l → Tk K H' t l
  | .inl h => .inl (u _ _ h)
  | .inr h => .inr h
theorem Tk.upX {K : PySem.W.Frag} {H H' : Hp} {x t : Addr} {l : List Str} (u : UpX x H H') (hx : ∀ xs, H x ≠ some (.tup xs)) : Tk K H t l → Tk K H' t l
  | .inl h => .inl (u _ _ (fun z => hx _ (z ▸ h)) h)
  | .inr h => .inr h
inductive Wt (K : PySem.W.Frag) (H : Hp) : Str → V → Prop where
  | bound {n : Int} (h0 : 0 ≤ n) (h1 : n ≤ 1000000000000) : Wt K H "bound" (.int n)
  | looks {t : Addr} {l : List Str} (h : Tk K H t l) (hl : l ∈ allLk) : Wt K H "looks" (.ref t)
  | above : Wt K H "how" (.str "above")
  | from_ : Wt K H "how" (.str "from")
  | day {n : Int} (h0 : 1 ≤ n) (h1 : n ≤ 1000000000) : Wt K H "day" (.int n)
  | grain {n : Int} (h0 : 1 ≤ n) (h1 : n ≤ 1000000) : Wt K H "grain" (.int n)
  | spares (b : Bool) : Wt K H "spares" (.bl b)
  | late {n : Int} (h0 : 0 ≤ n) (h1 : n ≤ 1000000000) : Wt K H "late" (.int n)
  | again (b : Bool) : Wt K H "again" (.bl b)
  | period {n : Int} (h0 : 1 ≤ n) (h1 : n ≤ 1000000000) : Wt K H "period" (.int n)
theorem Wt.up {K : PySem.W.Frag} {H H' : Hp} {p : Str} {v : V} (u : Up H H') : Wt K H p v → Wt K H' p v
  | .bound a b => .bound a b
  | .looks h hl => .looks (h.up u) hl
  | .above => .above
  | .from_ => .from_
  | .day a b => .day a b
  | .grain a b => .grain a b
  | .spares b => .spares b
  | .late a b => .late a b
  | .again b => .again b
  | .period a b => .period a b
def spPart : Sp := fun vs H Q _ => ∃ z : Str, vs = [.str z] ∧ z ∈ (["bound", "looks", "how", "day", "grain", "spares", "late", "again", "period"] : List Str) ∧ Q (.bl true) H
def spWorth (K : PySem.W.Frag) : Sp := fun vs H Q _ => ∃ (z : Str) (v : V), vs = [.str z, v] ∧ Wt K H z v ∧ ∀ H', Up H H' → Q (.bl true) H'
def spCheck (K : PySem.W.Frag) : Sp := fun vs H Q _ => ∃ (z : Str) (v : V), vs = [.str z, v] ∧ Wt K H z v ∧ ∀ H', Up H H' → Q .non H'
theorem Wt.mem {K : PySem.W.Frag} {H : Hp} {p : Str} {v : V} (h : Wt K H p v) : p ∈ (["bound", "looks", "how", "day", "grain", "spares", "late", "again", "period"] : List Str) := by
  cases h <;> decide
theorem g_neS {i j : Str} {r : Bool} {H : Hp} {Q : VK} (e : decide (V.str i = V.str j) = r) (q : Q (.bl (!r)) H) : rNe (.str i) (.str j) H Q := ⟨rfl, by rw [e]; exact q⟩
theorem g_eqS {i j : Str} {r : Bool} {H : Hp} {Q : VK} (e : decide (V.str i = V.str j) = r) (q : Q (.bl r) H) : rEq (.str i) (.str j) H Q := ⟨rfl, by rw [e]; exact q⟩
section
open He
variable {P : Program} {w : World} {K : PySem.W.Frag} {mg : Str → Option Value} {base : Heap} {f : Addr} {fd : FuncData}
abbrev FnP (K : PySem.W.Frag) (x q : Str) (st : Stmt) (f : Addr) (fd : FuncData) : Prop := FunD K x q (defArgs st) (defBody st) (defScope st) [] [] f fd
local macro_rules | `(tactic| purse 7023 => fail) => `(tactic| (refine g_kel (by assumption) (by (purse 7005 => fail)) (by exact Nat.le_of_ble_eq_true rfl) ?_; intro _ _))
local macro_rules | `(tactic| purse 7024 => fail) => `(tactic| (repeat (first | exact List.mem_cons_self | apply List.mem_cons_of_mem)))
local macro_rules | `(tactic| purse 7025 => fail) => `(tactic| (refine g_eachQ1 (by rfl) (by (purse 7003 => fail)) ?_; (purse 7012 => fail); refine g_isi (.ty "str") (.base (.str _)) (kit_ty (b := "str") (r := true) (by decide +kernel)) ?_; (purse 7012 => fail); (purse 7023 => fail)))
local macro_rules | `(tactic| purse 7026 => fail) => `(tactic| (refine g_eachQt (by rfl) trivial ?_; (purse 7012 => fail); refine g_inT (by (purse 7003 => fail)) rfl rfl (by rfl) ?_; (purse 7012 => fail); (purse 7017 => fail); (purse 7012 => fail); (try (purse 7023 => fail))))
local macro_rules | `(tactic| purse 7027 => fail) => `(tactic| (refine g_eachQ1 (by rfl) trivial ?_; (purse 7012 => fail); refine g_isi (.ty "str") (.base (.str _)) (kit_ty (b := "str") (r := true) (by decide +kernel)) ?_; (purse 7012 => fail); (purse 7023 => fail)))
theorem ok_looks (F : FnP K "is_looks" "is_looks" s_is_looks f fd) (T : TB35 K w mg) : FnOk P w K mg base (L2.CX P w) 4 f fd ["value"] (spLooks K) := by
  refine F.ok c_is_looks (fun vs H Q E h => ?_) (fun cdv A outer s H vs Q E hr h => ⟨_, pss_cons (ps_if (PW.pt (pw_or (pt_not (pt_val (pe_callB call_isi (by rfl) T.z_isinstance (by decide +kernel) (pa_cons (pv 0) (pa_cons (pe_bltn (v := .ty "tuple") rfl T.z_tuple (by decide +kernel) rfl) (pa_nil)))))) (pw_or1 (pt_cmpR op_notIn_seq (pe_callB cl_len (by rfl) T.z_len (by decide +kernel) (pa_cons (pv 0) (pa_nil))) (pe_tup (pa_cons (pe_int) (pa_cons (pe_int) (pa_cons (pe_int) (pa_nil))))) (by rfl)))))
      (pss_one (ps_ret (pe_bl)))
      (pss_nil))
      (pss_cons (ps_if (pt_not (pt_val (pe_callB (cl_all rfl) (by rfl) T.z_all (by decide +kernel) (pa_cons (pe_lc (own := [("mark", 1)]) (g := gName 1) (tt := tYes) rfl c_is_looks.nd (pi_tup (pv 0)) (blkOk_by (own := [("mark", 1)]) (N := ["value", "mark"]) (sc := defScope s_is_looks) (by decide +kernel)) (fun _ _ _ _ _ => pg_name (i := 1) c_is_looks.nd rfl (Or.inl rfl)) (fun _ _ _ _ _ => pts_nil) (fun _ _ _ _ _ => pe_callB (call_isiK (K := K)) (by rfl) T.z_isinstance (by decide +kernel) (pa_cons (pv 1) (pa_cons (pe_bltn (v := .ty "str") rfl T.z_str (by decide +kernel) rfl) (pa_nil))))) (pa_nil)))))
      (pss_one (ps_ret (pe_bl)))
      (pss_nil))
      (pss_one (ps_ret (pe_cmpR (op_eqD hr.units) (pe_callTy cl_listT (by rfl) T.z_list (by decide +kernel) (pa_cons (pv 0) (pa_nil))) (pe_lc (own := [("mark", 1)]) (g := gName 1) rfl c_is_looks.nd (pi_tup (pe_gc rfl T.v_MARKS)) (blkOk_by (own := [("mark", 1)]) (N := ["value", "mark"]) (sc := defScope s_is_looks) (by decide +kernel)) (fun _ _ _ _ _ => pg_name (i := 1) c_is_looks.nd rfl (Or.inl rfl)) (fun _ _ _ _ _ => pts_one (pt_cmpR (op_in_seqK (K := K)) (pv 1) (pv 0) (by rfl))) (fun _ _ _ _ _ => pv 1)) (nomark _))))), ?_⟩)
  · rcases h with ⟨t, ls, ns, x, y, z, rfl, _⟩ | ⟨rfl, _⟩ <;> rfl
  · rcases h with h | h
    · obtain ⟨t, ls, ns, x, y, z, rfl, ht, hk, q⟩ := h
      have S : Sh H (fun _ => False) H [(t, .tup ls, false)] := Sh.start.know ht (fun _ h => nomatch h)
      (purse 7012 => fail)
      refine g_isi (.ty "tuple") (.base (.tup ht)) (kit_ty (b := "tuple") (r := true) (by decide +kernel)) ?_
      (purse 7012 => fail)
      (purse 7016 => fail)
      (purse 7012 => fail)
      refine g_lenT (SqT.of ht) ?_
      (purse 7012 => fail)
      refine g_ninT (r := true) (by (purse 7003 => fail)) rfl rfl (by cases hk <;> rfl) ?_
      (purse 7012 => fail)
      (purse 7016 => fail)
      (purse 7012 => fail)
      refine g_lcT (fun H => H t = some (.tup ls)) (fun _ h => SqT.of h) (SqT.of (by (purse 7003 => fail))) (by assumption) ?_
      intro D _ _ _
      cases hk with
      | r =>
        (purse 7025 => fail)
        refine g_eachQ0 (by (purse 7003 => fail)) ?_
        (purse 7012 => fail)
        refine g_all (bs := [true]) (SqL.of (by (purse 7003 => fail))) ?_
        (purse 7012 => fail)
        (purse 7016 => fail)
        (purse 7012 => fail)
        refine g_listT (by assumption) (.inr (SqT.of (by (purse 7003 => fail)))) ?_
        intro _ _ _ _
        (purse 7012 => fail)
        refine g_lcT (fun _ => True) (fun _ _ => T.marks.sq) T.marks.sq (by assumption) ?_
        intro _ _ _ _
        (purse 7026 => fail)
        (purse 7026 => fail)
        (purse 7026 => fail)
        refine g_eachQ0 trivial ?_
        (purse 7012 => fail)
        refine g_eqD (d := .list [.str "read"]) (by (purse 7010 => fail)) (by (purse 7010 => fail)) (by decide +kernel) ?_
        exact q _ (by (purse 7006 => fail))
      | w =>
        (purse 7025 => fail)
        refine g_eachQ0 (by (purse 7003 => fail)) ?_
        (purse 7012 => fail)
        refine g_all (bs := [true]) (SqL.of (by (purse 7003 => fail))) ?_
        (purse 7012 => fail)
        (purse 7016 => fail)
        (purse 7012 => fail)
        refine g_listT (by assumption) (.inr (SqT.of (by (purse 7003 => fail)))) ?_
        intro _ _ _ _
        (purse 7012 => fail)
        refine g_lcT (fun _ => True) (fun _ _ => T.marks.sq) T.marks.sq (by assumption) ?_
        intro _ _ _ _
        (purse 7026 => fail)
        (purse 7026 => fail)
        (purse 7026 => fail)
        refine g_eachQ0 trivial ?_
        (purse 7012 => fail)
        refine g_eqD (d := .list [.str "written"]) (by (purse 7010 => fail)) (by (purse 7010 => fail)) (by decide +kernel) ?_
        exact q _ (by (purse 7006 => fail))
      | c =>
        (purse 7025 => fail)
        refine g_eachQ0 (by (purse 7003 => fail)) ?_
        (purse 7012 => fail)
        refine g_all (bs := [true]) (SqL.of (by (purse 7003 => fail))) ?_
        (purse 7012 => fail)
        (purse 7016 => fail)
        (purse 7012 => fail)
        refine g_listT (by assumption) (.inr (SqT.of (by (purse 7003 => fail)))) ?_
        intro _ _ _ _
        (purse 7012 => fail)
        refine g_lcT (fun _ => True) (fun _ _ => T.marks.sq) T.marks.sq (by assumption) ?_
        intro _ _ _ _
        (purse 7026 => fail)
        (purse 7026 => fail)
        (purse 7026 => fail)
        refine g_eachQ0 trivial ?_
        (purse 7012 => fail)
        refine g_eqD (d := .list [.str "changed"]) (by (purse 7010 => fail)) (by (purse 7010 => fail)) (by decide +kernel) ?_
        exact q _ (by (purse 7006 => fail))
      | rw =>
        (purse 7025 => fail)
        (purse 7025 => fail)
        refine g_eachQ0 (by (purse 7003 => fail)) ?_
        (purse 7012 => fail)
        refine g_all (bs := [true, true]) (SqL.of (by (purse 7003 => fail))) ?_
        (purse 7012 => fail)
        (purse 7016 => fail)
        (purse 7012 => fail)
        refine g_listT (by assumption) (.inr (SqT.of (by (purse 7003 => fail)))) ?_
        intro _ _ _ _
        (purse 7012 => fail)
        refine g_lcT (fun _ => True) (fun _ _ => T.marks.sq) T.marks.sq (by assumption) ?_
        intro _ _ _ _
        (purse 7026 => fail)
        (purse 7026 => fail)
        (purse 7026 => fail)
        refine g_eachQ0 trivial ?_
        (purse 7012 => fail)
        refine g_eqD (d := .list [.str "read", .str "written"]) (by (purse 7010 => fail)) (by (purse 7010 => fail)) (by decide +kernel) ?_
        exact q _ (by (purse 7006 => fail))
      | wc =>
        (purse 7025 => fail)
        (purse 7025 => fail)
        refine g_eachQ0 (by (purse 7003 => fail)) ?_
        (purse 7012 => fail)
        refine g_all (bs := [true, true]) (SqL.of (by (purse 7003 => fail))) ?_
        (purse 7012 => fail)
        (purse 7016 => fail)
        (purse 7012 => fail)
        refine g_listT (by assumption) (.inr (SqT.of (by (purse 7003 => fail)))) ?_
        intro _ _ _ _
        (purse 7012 => fail)
        refine g_lcT (fun _ => True) (fun _ _ => T.marks.sq) T.marks.sq (by assumption) ?_
        intro _ _ _ _
        (purse 7026 => fail)
        (purse 7026 => fail)
        (purse 7026 => fail)
        refine g_eachQ0 trivial ?_
        (purse 7012 => fail)
        refine g_eqD (d := .list [.str "written", .str "changed"]) (by (purse 7010 => fail)) (by (purse 7010 => fail)) (by decide +kernel) ?_
        exact q _ (by (purse 7006 => fail))
      | rc =>
        (purse 7025 => fail)
        (purse 7025 => fail)
        refine g_eachQ0 (by (purse 7003 => fail)) ?_
        (purse 7012 => fail)
        refine g_all (bs := [true, true]) (SqL.of (by (purse 7003 => fail))) ?_
        (purse 7012 => fail)
        (purse 7016 => fail)
        (purse 7012 => fail)
        refine g_listT (by assumption) (.inr (SqT.of (by (purse 7003 => fail)))) ?_
        intro _ _ _ _
        (purse 7012 => fail)
        refine g_lcT (fun _ => True) (fun _ _ => T.marks.sq) T.marks.sq (by assumption) ?_
        intro _ _ _ _
        (purse 7026 => fail)
        (purse 7026 => fail)
        (purse 7026 => fail)
        refine g_eachQ0 trivial ?_
        (purse 7012 => fail)
        refine g_eqD (d := .list [.str "read", .str "changed"]) (by (purse 7010 => fail)) (by (purse 7010 => fail)) (by decide +kernel) ?_
        exact q _ (by (purse 7006 => fail))
      | rwc =>
        (purse 7025 => fail)
        (purse 7025 => fail)
        (purse 7025 => fail)
        refine g_eachQ0 (by (purse 7003 => fail)) ?_
        (purse 7012 => fail)
        refine g_all (bs := [true, true, true]) (SqL.of (by (purse 7003 => fail))) ?_
        (purse 7012 => fail)
        (purse 7016 => fail)
        (purse 7012 => fail)
        refine g_listT (by assumption) (.inr (SqT.of (by (purse 7003 => fail)))) ?_
        intro _ _ _ _
        (purse 7012 => fail)
        refine g_lcT (fun _ => True) (fun _ _ => T.marks.sq) T.marks.sq (by assumption) ?_
        intro _ _ _ _
        (purse 7026 => fail)
        (purse 7026 => fail)
        (purse 7026 => fail)
        refine g_eachQ0 trivial ?_
        (purse 7012 => fail)
        refine g_eqD (d := .list [.str "read", .str "written", .str "changed"]) (by (purse 7010 => fail)) (by (purse 7010 => fail)) (by decide +kernel) ?_
        exact q _ (by (purse 7006 => fail))
    · obtain ⟨rfl, q⟩ := h
      have S : Sh H (fun _ => False) H [] := Sh.start
      (purse 7012 => fail)
      refine g_isi (.ty "tuple") (ty_kt T.marks) (kit_ty (b := "tuple") (r := true) (by decide +kernel)) ?_
      (purse 7012 => fail)
      (purse 7016 => fail)
      (purse 7012 => fail)
      refine g_lenT T.marks.sq ?_
      (purse 7012 => fail)
      refine g_ninT (r := true) (by (purse 7003 => fail)) rfl rfl (by rfl) ?_
      (purse 7012 => fail)
      (purse 7016 => fail)
      (purse 7012 => fail)
      refine g_lcT (fun _ => True) (fun _ _ => T.marks.sq) T.marks.sq (by assumption) ?_
      intro D _ _ _
      (purse 7027 => fail)
      (purse 7027 => fail)
      (purse 7027 => fail)
      refine g_eachQ0 trivial ?_
      (purse 7012 => fail)
      refine g_all (bs := [true, true, true]) (SqL.of (by (purse 7003 => fail))) ?_
      (purse 7012 => fail)
      (purse 7016 => fail)
      (purse 7012 => fail)
      refine g_listT (by assumption) (.inr T.marks.sq) ?_
      intro _ _ _ _
      (purse 7012 => fail)
      refine g_lcT (fun _ => True) (fun _ _ => T.marks.sq) T.marks.sq (by assumption) ?_
      intro _ _ _ _
      refine g_eachQt (by rfl) trivial ?_
      (purse 7012 => fail)
      refine g_inKT (r := true) T.marks rfl rfl (by rfl) ?_
      (purse 7012 => fail)
      (purse 7017 => fail)
      (purse 7012 => fail)
      (purse 7023 => fail)
      refine g_eachQt (by rfl) trivial ?_
      (purse 7012 => fail)
      refine g_inKT (r := true) T.marks rfl rfl (by rfl) ?_
      (purse 7012 => fail)
      (purse 7017 => fail)
      (purse 7012 => fail)
      (purse 7023 => fail)
      refine g_eachQt (by rfl) trivial ?_
      (purse 7012 => fail)
      refine g_inKT (r := true) T.marks rfl rfl (by rfl) ?_
      (purse 7012 => fail)
      (purse 7017 => fail)
      (purse 7012 => fail)
      (purse 7023 => fail)
      refine g_eachQ0 trivial ?_
      (purse 7012 => fail)
      refine g_eqD (d := .list [.str "read", .str "written", .str "changed"]) (by (purse 7010 => fail)) (by (purse 7010 => fail)) (by decide +kernel) ?_
      exact q _ (by (purse 7006 => fail))

theorem ok_whole (F : FnP K "is_whole" "is_whole" s_is_whole f fd) (T : TB35 K w mg) : FnOk P w K mg base (L2.CX P w) 2 f fd ["value"] spWhole := by
  refine F.ok c_is_whole (fun vs H Q E h => ?_) (fun cdv A outer s H vs Q E hr h => ⟨_, pss_one (ps_ret (pe_and (pe_callB call_isi (by rfl) T.z_isinstance (by decide +kernel) (pa_cons (pv 0) (pa_cons (pe_bltn (v := .ty "int") rfl T.z_int (by decide +kernel) rfl) (pa_nil)))) (pe_one (pe_not (pe_callB call_isi (by rfl) T.z_isinstance (by decide +kernel) (pa_cons (pv 0) (pa_cons (pe_bltn (v := .ty "bool") rfl T.z_bool (by decide +kernel) rfl) (pa_nil)))))))), ?_⟩)
  · obtain ⟨n, rfl, _⟩ := h
    rfl
  · obtain ⟨n, rfl, k⟩ := h
    (purse 7012 => fail)
    refine g_isi (.ty "int") (.base (.int n)) (kit_ty (b := "int") (r := true) (by decide +kernel)) ?_
    (purse 7012 => fail)
    (purse 7015 => fail)
    (purse 7012 => fail)
    refine g_isi (.ty "bool") (.base (.int n)) (kit_ty (b := "bool") (r := false) (by decide +kernel)) ?_
    (purse 7012 => fail)
    exact k
theorem ok_cnt (F : FnP K "is_count" "is_count" s_is_count f fd) (T : TB35 K w mg) (D_is_whole : Dn P w K mg base 2 (ga K "is_whole") ["value"] spWhole) : FnOk P w K mg base (L2.CX P w) 4 f fd ["value"] spCnt := by
  refine F.ok c_is_count (fun vs H Q E h => ?_) (fun cdv A outer s H vs Q E hr h => ⟨_, pss_one (ps_ret (pe_and (pe_dn D_is_whole (rm hr) rfl T.g_is_whole (passes_call (takes_of rfl rfl rfl rfl) fun _ _ _ _ h => h) (pa_cons (pv 0) (pa_nil))) (pe_one (pe_cmpR op_ge (pv 0) (pe_int) (nomark _))))), ?_⟩)
  · obtain ⟨n, rfl, _⟩ := h
    rfl
  · obtain ⟨n, rfl, k⟩ := h
    (purse 7012 => fail)
    refine ⟨n, rfl, ?_⟩
    (purse 7012 => fail)
    (purse 7015 => fail)
    (purse 7012 => fail)
    exact k
local macro_rules | `(tactic| purse 7001 => fail) => `(tactic| first | (with_reducible refine g_eqS (r := true) (by decide) ?_) | (with_reducible refine g_eqS (r := false) (by decide) ?_) | (with_reducible refine g_pow10_9 ?_) | (with_reducible refine g_pow10_12 ?_))
theorem ok_time (F : FnP K "is_time" "is_time" s_is_time f fd) (T : TB35 K w mg) (D_is_whole : Dn P w K mg base 2 (ga K "is_whole") ["value"] spWhole) : FnOk P w K mg base (L2.CX P w) 4 f fd ["value"] spTime := by
  refine F.ok c_is_time (fun vs H Q E h => ?_) (fun cdv A outer s H vs Q E hr h => ⟨_, pss_one (ps_ret (pe_and (pe_dn D_is_whole (rm hr) rfl T.g_is_whole (passes_call (takes_of rfl rfl rfl rfl) fun _ _ _ _ h => h) (pa_cons (pv 0) (pa_nil))) (pe_one (pe_chain op_le op_le (pe_int) (pv 0) (pe_op op_pow (pe_int) (pe_int)))))), ?_⟩)
  · obtain ⟨n, rfl, _⟩ := h
    rfl
  · obtain ⟨n, rfl, h0, h1, k⟩ := h
    (purse 7012 => fail)
    refine ⟨n, rfl, ?_⟩
    (purse 7018 => fail)
    (purse 7012 => fail)
    rw [decide_eq_true (by omega)]
    exact k
theorem ok_part (F : FnP K "is_part" "is_part" s_is_part f fd) (T : TB35 K w mg) : FnOk P w K mg base (L2.CX P w) 2 f fd ["value"] spPart := by
  refine F.ok c_is_part (fun vs H Q E h => ?_) (fun cdv A outer s H vs Q E hr h => ⟨_, pss_one (ps_ret (pe_and (pe_callB call_isi (by rfl) T.z_isinstance (by decide +kernel) (pa_cons (pv 0) (pa_cons (pe_bltn (v := .ty "str") rfl T.z_str (by decide +kernel) rfl) (pa_nil)))) (pe_one (pe_cmpR op_in_seq (pv 0) (pe_gc rfl T.v_PARTS) (by rfl))))), ?_⟩)
  · obtain ⟨z, rfl, _⟩ := h
    rfl
  · obtain ⟨z, rfl, hz, k⟩ := h
    (purse 7012 => fail)
    refine g_isi (.ty "str") (.base (.str z)) (kit_ty (b := "str") (r := true) (by decide +kernel)) ?_
    (purse 7012 => fail)
    (purse 7015 => fail)
    (purse 7012 => fail)
    refine g_inKT (r := true) T.parts rfl rfl ?_ ?_
    · simp only [List.mem_cons, List.not_mem_nil, or_false] at hz
      rcases hz with rfl | rfl | rfl | rfl | rfl | rfl | rfl | rfl | rfl <;> rfl
    · exact k
theorem ok_worth (F : FnP K "is_worth" "is_worth" s_is_worth f fd) (T : TB35 K w mg) (D_is_whole : Dn P w K mg base 2 (ga K "is_whole") ["value"] spWhole) (D_is_count : Dn P w K mg base 4 (ga K "is_count") ["value"] spCnt) (D_is_time : Dn P w K mg base 4 (ga K "is_time") ["value"] spTime) (D_is_looks : Dn P w K mg base 4 (ga K "is_looks") ["value"] (spLooks K)) :
    FnOk P w K mg base (L2.CX P w) 6 f fd ["part", "value"] (spWorth K) := by
  refine F.ok c_is_worth (fun vs H Q E h => ?_) (fun cdv A outer s H vs Q E hr h => ⟨_, pss_cons (ps_if (pt_cmpR op_eq (pv 0) (pe_str) (nomark _))
      (pss_one (ps_ret (pe_and (pe_dn D_is_count (rm hr) rfl T.g_is_count (passes_call (takes_of rfl rfl rfl rfl) fun _ _ _ _ h => h) (pa_cons (pv 1) (pa_nil))) (pe_one (pe_cmpR op_le (pv 1) (pe_op op_pow (pe_int) (pe_int)) (nomark _))))))
      (pss_nil))
      (pss_cons (ps_if (pt_cmpR op_eq (pv 0) (pe_str) (nomark _))
      (pss_one (ps_ret (pe_dn D_is_looks (rm hr) rfl T.g_is_looks (passes_call (takes_of rfl rfl rfl rfl) fun _ _ _ _ h => h) (pa_cons (pv 1) (pa_nil)))))
      (pss_nil))
      (pss_cons (ps_if (pt_cmpR op_eq (pv 0) (pe_str) (nomark _))
      (pss_one (ps_ret (pe_and (pe_callB call_isi (by rfl) T.z_isinstance (by decide +kernel) (pa_cons (pv 1) (pa_cons (pe_bltn (v := .ty "str") rfl T.z_str (by decide +kernel) rfl) (pa_nil)))) (pe_one (pe_cmpR op_in_seq (pv 1) (pe_tup (pa_cons (pe_str) (pa_cons (pe_str) (pa_nil)))) (by rfl))))))
      (pss_nil))
      (pss_cons (ps_if (pt_cmpR op_eq (pv 0) (pe_str) (nomark _))
      (pss_one (ps_ret (pe_and (pe_dn D_is_whole (rm hr) rfl T.g_is_whole (passes_call (takes_of rfl rfl rfl rfl) fun _ _ _ _ h => h) (pa_cons (pv 1) (pa_nil))) (pe_one (pe_chain op_le op_le (pe_int) (pv 1) (pe_op op_pow (pe_int) (pe_int)))))))
      (pss_nil))
      (pss_cons (ps_if (pt_cmpR op_eq (pv 0) (pe_str) (nomark _))
      (pss_one (ps_ret (pe_and (pe_dn D_is_count (rm hr) rfl T.g_is_count (passes_call (takes_of rfl rfl rfl rfl) fun _ _ _ _ h => h) (pa_cons (pv 1) (pa_nil))) (pe_one (pe_cmpR op_le (pv 1) (pe_op op_pow (pe_int) (pe_int)) (nomark _))))))
      (pss_nil))
      (pss_cons (ps_if (pt_cmpR op_in_seq (pv 0) (pe_tup (pa_cons (pe_str) (pa_cons (pe_str) (pa_nil)))) (by rfl))
      (pss_one (ps_ret (pe_callB call_isi (by rfl) T.z_isinstance (by decide +kernel) (pa_cons (pv 1) (pa_cons (pe_bltn (v := .ty "bool") rfl T.z_bool (by decide +kernel) rfl) (pa_nil))))))
      (pss_nil))
      (pss_one (ps_ret (pe_dn D_is_time (rm hr) rfl T.g_is_time (passes_call (takes_of rfl rfl rfl rfl) fun _ _ _ _ h => h) (pa_cons (pv 1) (pa_nil)))))))))), ?_⟩)
  · obtain ⟨z, v, rfl, _⟩ := h
    rfl
  · obtain ⟨z, v, rfl, hw, k⟩ := h
    cases hw with
    | bound h0 h1 =>
      (purse 7018 => fail)
      (purse 7012 => fail)
      refine ⟨_, rfl, ?_⟩
      (purse 7018 => fail)
      (purse 7012 => fail)
      rw [decide_eq_true (by omega)]
      exact k H Up.rfl'
    | looks h hl =>
      (purse 7018 => fail)
      (purse 7012 => fail)
      obtain ⟨ns, hk⟩ := lk_of hl
      rcases h with h | ⟨rfl, _⟩
      · exact .inl ⟨_, _, ns, 0, 0, 0, rfl, h, hk, fun H' c => k H' (Up.of c)⟩
      · exact .inr ⟨rfl, fun H' c => k H' (Up.of c)⟩
    | above =>
      (purse 7018 => fail)
      (purse 7012 => fail)
      refine g_isi (.ty "str") (.base (.str _)) (kit_ty (b := "str") (r := true) (by decide +kernel)) ?_
      (purse 7012 => fail)
      (purse 7015 => fail)
      (purse 7012 => fail)
      refine g_t0 (by rfl) fun p hp => ?_
      exact g_inT (r := true) upd_same rfl rfl (by rfl) (k _ (Up.new hp))
    | from_ =>
      (purse 7018 => fail)
      (purse 7012 => fail)
      refine g_isi (.ty "str") (.base (.str _)) (kit_ty (b := "str") (r := true) (by decide +kernel)) ?_
      (purse 7012 => fail)
      (purse 7015 => fail)
      (purse 7012 => fail)
      refine g_t0 (by rfl) fun p hp => ?_
      exact g_inT (r := true) upd_same rfl rfl (by rfl) (k _ (Up.new hp))
    | day h0 h1 =>
      (purse 7018 => fail)
      (purse 7012 => fail)
      refine g_t0 (by rfl) fun p hp => ?_
      refine g_inT (r := false) upd_same rfl rfl (by rfl) ?_
      (purse 7012 => fail)
      (purse 7016 => fail)
      (purse 7012 => fail)
      exact ⟨_, rfl, h0, h1, k _ (Up.new hp)⟩
    | grain h0 h1 =>
      (purse 7018 => fail)
      (purse 7012 => fail)
      refine ⟨_, rfl, ?_⟩
      (purse 7018 => fail)
      (purse 7012 => fail)
      rw [decide_eq_true (by omega)]
      exact k H Up.rfl'
    | spares b =>
      (purse 7018 => fail)
      (purse 7012 => fail)
      refine g_t0 (by rfl) fun p hp => ?_
      refine g_inT (r := true) upd_same rfl rfl (by rfl) ?_
      (purse 7012 => fail)
      (purse 7015 => fail)
      (purse 7012 => fail)
      exact g_isi (.ty "bool") (.base (.bl b)) (kit_ty (b := "bool") (r := true) (by decide +kernel)) (k _ (Up.new hp))
    | late h0 h1 =>
      (purse 7018 => fail)
      (purse 7012 => fail)
      refine ⟨_, rfl, ?_⟩
      (purse 7018 => fail)
      (purse 7012 => fail)
      rw [decide_eq_true (by omega)]
      exact k H Up.rfl'
    | again b =>
      (purse 7018 => fail)
      (purse 7012 => fail)
      refine g_t0 (by rfl) fun p hp => ?_
      refine g_inT (r := true) upd_same rfl rfl (by rfl) ?_
      (purse 7012 => fail)
      (purse 7015 => fail)
      (purse 7012 => fail)
      exact g_isi (.ty "bool") (.base (.bl b)) (kit_ty (b := "bool") (r := true) (by decide +kernel)) (k _ (Up.new hp))
    | period h0 h1 =>
      (purse 7018 => fail)
      (purse 7012 => fail)
      refine g_t0 (by rfl) fun p hp => ?_
      refine g_inT (r := false) upd_same rfl rfl (by rfl) ?_
      (purse 7012 => fail)
      (purse 7016 => fail)
      (purse 7012 => fail)
      exact ⟨_, rfl, h0, h1, k _ (Up.new hp)⟩
theorem ok_check (F : FnP K "check_part" "check_part" s_check_part f fd) (T : TB35 K w mg) (D_is_part : Dn P w K mg base 2 (ga K "is_part") ["value"] spPart) (D_is_worth : Dn P w K mg base 6 (ga K "is_worth") ["part", "value"] (spWorth K)) : FnOk P w K mg base (L2.CX P w) 8 f fd ["part", "value"] (spCheck K) := by
  refine F.ok c_check_part (fun vs H Q E h => ?_) (fun cdv A outer s H vs Q E hr h => ⟨_, pss_one (ps_if (PW.pt (pw_or (pt_not (pt_val (pe_dn D_is_part (rm hr) rfl T.g_is_part (passes_call (takes_of rfl rfl rfl rfl) fun _ _ _ _ h => h) (pa_cons (pv 0) (pa_nil))))) (pw_or1 (pt_not (pt_val (pe_dn D_is_worth (rm hr) rfl T.g_is_worth (passes_call (takes_of rfl rfl rfl rfl) fun _ _ _ _ h => h) (pa_cons (pv 0) (pa_cons (pv 1) (pa_nil)))))))))
      (pss_one (ps_never))
      (pss_nil)), ?_⟩)
  · obtain ⟨z, v, rfl, _⟩ := h
    rfl
  · obtain ⟨z, v, rfl, hw, k⟩ := h
    (purse 7012 => fail)
    refine ⟨z, rfl, hw.mem, ?_⟩
    (purse 7012 => fail)
    (purse 7016 => fail)
    (purse 7012 => fail)
    refine ⟨z, v, rfl, hw, fun H' u => ?_⟩
    (purse 7012 => fail)
    (purse 7016 => fail)
    (purse 7012 => fail)
    exact k H' u
end

end K1
namespace K1
open PySem PySem.Spec PyProof.Rows L2 AF
open C8 (pe_gc)
local macro_rules | `(tactic| purse 7003 => fail) => `(tactic| k_dflt (refine Sh.has_ (by assumption) ?_; repeat (first | exact On.here | apply On.next)))
local macro_rules | `(tactic| purse 7004 => fail) => `(tactic| k_dflt (repeat (first | exact On.here | apply On.next)))
local macro_rules | `(tactic| purse 7005 => fail) => `(tactic| (repeat (first | exact Rep.here | apply Rep.next)))
local macro_rules | `(tactic| purse 7006 => fail) => `(tactic| (exact Sh.out (by assumption) (fun b h => by simp [h])))
local macro_rules | `(tactic| purse 7007 => fail) => `(tactic| k_dflt (first | ((with_reducible refine cdivw ?_ ?_) <;> omega) | ((with_reducible show CDiv _ _); constructor <;> omega) | ((with_reducible show CMul _ _); (first | (left; constructor <;> omega) | (right; constructor <;> omega))) | (show (0 : Int) < _; omega)))
local macro_rules | `(tactic| purse 7008 => fail) => `(tactic| first | exact Kd.int _ | exact Kd.bl _ | exact Kd.non | exact Kd.str _ | exact Kd.ins (by (purse 7003 => fail)) | exact Kd.lst (by (purse 7003 => fail)) | exact Kd.tup (by (purse 7003 => fail)))
local macro_rules | `(tactic| purse 7009 => fail) => `(tactic| first | exact DpAll.nil | (apply DpAll.cons; (purse 7010 => fail); (purse 7009 => fail)))
local macro_rules | `(tactic| purse 7010 => fail) => `(tactic| first | exact Dp.int _ | exact Dp.bl _ | exact Dp.non | exact Dp.str _ | (refine dp_int ?_; omega) | (refine dp_bl ?_; simp only [decide_eq_decide]; omega) | (apply dp_lst; (purse 7003 => fail); (purse 7009 => fail)) | (apply dp_tup; (purse 7003 => fail); (purse 7009 => fail)))
local macro_rules | `(tactic| purse 7011 => fail) => `(tactic| first | assumption | omega)
local macro_rules | `(tactic| purse 7001 => fail) => `(tactic| fail "no use")
local macro_rules | `(tactic| purse 7002 => fail) => `(tactic| first
  | (with_reducible refine set_go ?_)
  | (with_reducible refine Step.go ?_)
  | (with_reducible first | refine g_pow10_6 ?_ | refine g_pow10_7 ?_ | refine g_pow10_18 ?_ | refine g_pow10_29 ?_ | refine g_pow10_30 ?_)
  | ((with_reducible refine' g_I ?a0 ?_); (case a0 => (purse 7007 => fail)))
  | ((with_reducible refine' g_ixL ?a0 ?a1 ?_); (case a0 => (purse 7003 => fail)); (case a1 => k_dflt (exact rfl)))
  | ((with_reducible refine' g_kfld ?a0 ?a1 ?a2 ?a3 ?_); (case a0 => (purse 7003 => fail)); (case a1 => k_dflt (assumption)); (case a2 => k_dflt (assumption)); (case a3 => k_dflt (exact rfl)))
  | ((with_reducible refine' g_kprop ?a0 ?_); (case a0 => (purse 7003 => fail)))
  | ((with_reducible refine' g_kmeth ?a0 ?a1 ?_); (case a0 => (purse 7003 => fail)); (case a1 => k_dflt (exact rfl)))
  | ((with_reducible refine' g_own ?a0 ?a1 ?a2 ?_); (case a0 => (purse 7003 => fail)); (case a1 => (purse 7008 => fail)); (case a2 => k_dflt (assumption)))
  | ((with_reducible refine' g_cmp ?a0 ?a1 ?a2 ?_); (case a0 => (purse 7003 => fail)); (case a1 => (purse 7008 => fail)); (case a2 => k_dflt (assumption)))
  | ((with_reducible refine' g_neq ?a0 ?a1 ?a2 ?_); (case a0 => (purse 7003 => fail)); (case a1 => (purse 7008 => fail)); (case a2 => k_dflt (assumption)))
  | ((with_reducible refine' g_right ?a0 ?_); (case a0 => (purse 7003 => fail)))
  | ((with_reducible refine' use_draw ?a0 ?a1 ?a2 ?a3 ?a4 ?_); (case a0 => assumption); (case a1 => intro _ _; (purse 7005 => fail)); (case a2 => assumption); (case a3 => (purse 7011 => fail)); (case a4 => (purse 7011 => fail)); intro _ _ _ _ _ _ _ _)
  | ((with_reducible refine' use_giveI ?a0 ?a1 ?a2 ?_); (case a0 => assumption); (case a1 => intro _ _; (purse 7005 => fail)); (case a2 => assumption); intro _ _ _ _ _ _ _ _)
  | ((with_reducible refine' use_source ?a0 ?a1 ?_); (case a0 => assumption); (case a1 => k_dflt (assumption)); intro _ _ _ _ _ _)
  | (with_reducible refine g_absN ?_; intro _ _)
  | (with_reducible refine g_maxN ?_; intro _ _ _ _)
  | (with_reducible refine g_minN ?_; intro _ _ _ _)
  | ((with_reducible refine' g_kR1 ?a0 ?a1 ?_); (case a0 => omega); (case a1 => omega))
  | ((with_reducible refine' g_neD ?a0 ?a1 ?a2 ?_); (case a0 => (purse 7010 => fail)); (case a1 => (purse 7010 => fail)); (case a2 => k_dflt (rfl)))
  | ((with_reducible refine' g_eqD ?a0 ?a1 ?a2 ?_); (case a0 => (purse 7010 => fail)); (case a1 => (purse 7010 => fail)); (case a2 => k_dflt (rfl)))
  | ((with_reducible refine' g_klst ?a0 ?a1 ?_); (case a0 => assumption); (case a1 => k_dflt (exact rfl)); intro _ _ _ _)
  | ((with_reducible refine' g_ktup ?a0 ?a1 ?_); (case a0 => assumption); (case a1 => k_dflt (exact rfl)); intro _ _ _ _)
  | ((with_reducible refine' g_setL ?a0 ?a1 ?a2 ?_); (case a0 => assumption); (case a1 => (purse 7005 => fail)); (case a2 => k_dflt (exact rfl)); intro _ _)
  | ((with_reducible refine' g_unl3 ?a0 ?_); (case a0 => (purse 7003 => fail)))
  | (purse 7001 => fail))
local macro_rules | `(tactic| purse 7012 => fail) => `(tactic| ((try (with_reducible refine start_go ?_)); repeat (purse 7002 => fail)))
local macro_rules | `(tactic| purse 7013 => fail) => `(tactic| first | rfl | (refine decide_eq_true ?_; omega) | (simp only [Bool.not_eq_true', Bool.not_eq_false', decide_eq_false_iff_not, decide_eq_true_eq, Bool.not_not, decide_eq_decide]; done) | (simp only [Bool.not_eq_true', Bool.not_eq_false', decide_eq_false_iff_not, decide_eq_true_eq, Bool.not_not, decide_eq_decide]; omega))
local macro_rules | `(tactic| purse 7014 => fail) => `(tactic| first | rfl | (refine decide_eq_false ?_; omega) | (simp only [Bool.not_eq_true', Bool.not_eq_false', decide_eq_false_iff_not, decide_eq_true_eq, Bool.not_not, decide_eq_decide]; done) | (simp only [Bool.not_eq_true', Bool.not_eq_false', decide_eq_false_iff_not, decide_eq_true_eq, Bool.not_not, decide_eq_decide]; omega))
local macro_rules | `(tactic| purse 7015 => fail) => `(tactic| ((refine g_yes ?h ?_); (case h => (purse 7013 => fail))))
local macro_rules | `(tactic| purse 7016 => fail) => `(tactic| ((refine g_no ?h ?_); (case h => (purse 7014 => fail))))
local macro_rules | `(tactic| purse 7017 => fail) => `(tactic| first | (purse 7015 => fail) | (purse 7016 => fail))
local macro_rules | `(tactic| purse 7018 => fail) => `(tactic| repeat ((purse 7012 => fail); (purse 7017 => fail)))
local macro_rules | `(tactic| purse 7019 => fail) => `(tactic| repeat (first | exact intIn_nil | refine intIn_cons (by omega) (by omega) ?_))
local macro_rules | `(tactic| purse 7020 => fail) => `(tactic| (simp only [List.length_cons, List.length_nil]; omega))
local macro_rules | `(tactic| purse 7021 => fail) => `(tactic| (refine g_two (fun c => ?_) (fun c => ?_) <;> first | (have c := of_decide_eq_true c) | (have c := of_decide_eq_false c) | skip))
local macro_rules | `(tactic| purse 7022 => fail) => `(tactic| ((purse 7018 => fail); (purse 7012 => fail); try ((purse 7021 => fail) <;> (purse 7022 => fail))))

/-! books: made, changed, asked *-/
structure Bp where
  b : Int
  lk : List Str
  ab : Bool
  day : Int
  gr : Int
  sp : Bool
  lt : Int
  ag : Bool
  pd : Int
def hw (a : Bool) : Str := if a then "above" else "from"
def kv9 (p : Bp) (t : Addr) : List (Key × V) := [(.inr "bound", .int p.b), (.inr "looks", .ref t), (.inr "how", .str (hw p.ab)), (.inr "day", .int p.day), (.inr "grain", .int p.gr), (.inr "spares", .bl p.sp), (.inr "late", .int p.lt), (.inr "again", .bl p.ag), (.inr "period", .int p.pd)]
structure Bp.Ok (p : Bp) : Prop where
  b0 : 0 ≤ p.b
  b1 : p.b ≤ 1000000000000
  l : p.lk ∈ allLk
  d0 : 1 ≤ p.day
  d1 : p.day ≤ 1000000000
  g0 : 1 ≤ p.gr
  g1 : p.gr ≤ 1000000
  t0 : 0 ≤ p.lt
  t1 : p.lt ≤ 1000000000
  p0 : 1 ≤ p.pd
  p1 : p.pd ≤ 1000000000
/-- the dict of a book's parts -/
def Pd (K : PySem.W.Frag) (H : Hp) (d : Addr) (p : Bp) : Prop := ∃ t, H d = some (.dK (kv9 p t)) ∧ Tk K H t p.lk
def tpf (d : Addr) : List (Str × V) := [("told_parts", .ref d)]
def Bs (K : PySem.W.Frag) (C : Addr) (H : Hp) (x : Addr) (p : Bp) : Prop := ∃ dx d, H x = some (.ins C dx (tpf d)) ∧ Pd K H d p
theorem Pd.up {K : PySem.W.Frag} {H H' : Hp} {d : Addr} {p : Bp} (u : Up H H') : Pd K H d p → Pd K H' d p := fun ⟨t, a, b⟩ => ⟨t, u _ _ a, b.up u⟩
theorem Bs.up {K : PySem.W.Frag} {C : Addr} {H H' : Hp} {x : Addr} {p : Bp} (u : Up H H') : Bs K C H x p → Bs K C H' x p := fun ⟨dx, d, a, b⟩ => ⟨dx, d, u _ _ a, b.up u⟩
def thr (p : Bp) : Int := if p.ab then (p.b + 1) * p.day else p.b * p.day
def spInit (K : PySem.W.Frag) (C : Addr) : Sp := fun vs H Q _ => ∃ (x dx t : Addr) (p : Bp), vs = [.ref x, .int p.b, .ref t, .str (hw p.ab), .int p.day, .int p.gr, .bl p.sp, .int p.lt, .bl p.ag, .int p.pd] ∧ H x = some (.ins C dx []) ∧ p.Ok ∧ Tk K H t p.lk ∧
  ∀ d H', H d = none → UpX x H H' → H' x = some (.ins C dx (tpf d)) → H' d = some (.dK (kv9 p t)) → Q .non H'
def spChange (K : PySem.W.Frag) (C : Addr) : Sp := fun vs H Q _ => ∃ (x dx d : Addr) (z : Str) (v : V) (kvs : List (Key × V)), vs = [.ref x, .str z, v] ∧ H x = some (.ins C dx (tpf d)) ∧ H d = some (.dK kvs) ∧ kvs.length < 1000 ∧ Wt K H z v ∧ ∀ H', UpX d H H' → H' d = some (.dK (putK kvs (.inr z) v)) → Q .non H'
def spGet (C : Addr) (z : Str) : Sp := fun vs H Q _ => ∃ (x dx d : Addr) (kvs : List (Key × V)) (v : V), vs = [.ref x] ∧ H x = some (.ins C dx (tpf d)) ∧ H d = some (.dK kvs) ∧ valV kvs (.inr z) = some v ∧ Q v H
def spThr (K : PySem.W.Frag) (C : Addr) : Sp := fun vs H Q _ => ∃ (x : Addr) (p : Bp), vs = [.ref x] ∧ Bs K C H x p ∧ p.Ok ∧ Q (.int (thr p)) H
def spCb (C : Addr) : Sp := fun vs H Q _ => ∃ (x dx : Addr) (fs : List (Str × V)), vs = [.ref x] ∧ H x = some (.ins C dx fs) ∧ Q .non H
open He in
structure TC35 (K : PySem.W.Frag) (w : World) (mg : Str → Option Value) : Prop extends TB35 K w mg where
  z_max : mg "max" = none
section
open He
variable {P : Program} {w : World} {K : PySem.W.Frag} {mg : Str → Option Value} {base : Heap} {f : Addr} {fd : FuncData}
def initKw : List (Str × V) := [("how", .str "above"), ("day", .int 1), ("grain", .int 1), ("spares", .bl false), ("late", .int 0), ("again", .bl true), ("period", .int 1)]
theorem ok_init {kws : List (Str × V)} (F : FunD K "__init__" "Book.__init__" (defArgs s_Book___init__) (defBody s_Book___init__) (defScope s_Book___init__) [] kws f fd) (T : TB35 K w mg) (D_check_part : Dn P w K mg base 8 (ga K "check_part") ["part", "value"] (spCheck K)) :
    FnOk P w K mg base (L2.CX P w) 10 f fd ["self", "bound", "looks", "how", "day", "grain", "spares", "late", "again", "period"] (spInit K (ga K "Book")) := by
  refine F.ok c_Book___init__ (fun vs H Q E h => ?_) (fun cdv A outer s H vs Q E hr h => ⟨_, pss_cons (ps_set (i := 10) c_Book___init__.nd rfl (Or.inl rfl) (pe_disp (pps_cons (pe_str) (pv 1) (pps_cons (pe_str) (pv 2) (pps_cons (pe_str) (pv 3) (pps_cons (pe_str) (pv 4) (pps_cons (pe_str) (pv 5) (pps_cons (pe_str) (pv 6) (pps_cons (pe_str) (pv 7) (pps_cons (pe_str) (pv 8) (pps_cons (pe_str) (pv 9) (pps_nil)))))))))) rfl rfl (by decide) (by decide)))
      (pss_cons (ps_for (passes_of rfl) rfl (pi_tup (pe_gc rfl T.v_PARTS)) (pg_name (i := 11) c_Book___init__.nd rfl (Or.inl rfl))
      (pss_one (ps_expr (pe_dn D_check_part (rm hr) rfl T.g_check_part (passes_call (takes_of rfl rfl rfl rfl) fun _ _ _ _ h => h) (pa_cons (pv 11) (pa_cons (pe_dget (hu_of hr) ((pv 10)) ((pv 11)) (fun _ _ => rfl)) (pa_nil)))))))
      (pss_one (ps_fld (pv 0) (pv 10) rfl))), ?_⟩)
  · obtain ⟨x, dx, t, p, rfl, _⟩ := h
    rfl
  · obtain ⟨x, dx, t, p, rfl, hx, ok, ht, k⟩ := h
    have S : Sh H (fun _ => False) H [(x, .ins (ga K "Book") dx [], false)] := Sh.start.know hx (fun _ h => nomatch h)
    (purse 7012 => fail)
    refine fun pd hpd => ?_
    have S1 := S.new (o := .dK []) hpd
    have hne : pd ≠ x := fun z => by rw [z, hx] at hpd; cases hpd
    (purse 7012 => fail)
    refine ⟨upd_same, kv9 p t, rfl, by exact Nat.le_of_ble_eq_true rfl, ?_⟩
    rw [show mergeK [] (kv9 p t) = kv9 p t from rfl]
    have u2 : Up H (upd (upd H pd (.dK [])) pd (.dK (kv9 p t))) := Up.setF (Up.new hpd) hpd
    have hd2 : upd (upd H pd (.dK [])) pd (.dK (kv9 p t)) pd = some (.dK (kv9 p t)) := upd_same
    generalize upd (upd H pd (.dK [])) pd (.dK (kv9 p t)) = H2 at u2 hd2 ⊢
    have hw_wt : ∀ {G : Hp}, Wt K G "how" (.str (hw p.ab)) := by
      intro G
      cases p.ab with
      | true => exact .above
      | false => exact .from_
    (purse 7012 => fail)
    refine g_turnG (fun H' => Up H2 H') (fun H' _ => T.parts.sq) T.parts.sq ?_
    refine g_eachG1 (Up.rfl') ?_
    (purse 7012 => fail)
    refine g_dg ((Up.rfl' : Up H2 _) _ _ hd2) (by rfl) ?_
    (purse 7012 => fail)
    have U0 : Up H _ := u2.trans (Up.rfl')
    refine ⟨_, _, rfl, .bound ok.b0 ok.b1, fun G0 v0 => ?_⟩
    (purse 7012 => fail)
    refine g_eachG1 (v0) ?_
    (purse 7012 => fail)
    refine g_dg ((v0 : Up H2 _) _ _ hd2) (by rfl) ?_
    (purse 7012 => fail)
    have U1 : Up H _ := u2.trans (v0)
    refine ⟨_, _, rfl, .looks (ht.up U1) ok.l, fun G1 v1 => ?_⟩
    (purse 7012 => fail)
    refine g_eachG1 ((v0).trans v1) ?_
    (purse 7012 => fail)
    refine g_dg (((v0).trans v1 : Up H2 _) _ _ hd2) (by rfl) ?_
    (purse 7012 => fail)
    have U2 : Up H _ := u2.trans ((v0).trans v1)
    refine ⟨_, _, rfl, hw_wt, fun G2 v2 => ?_⟩
    (purse 7012 => fail)
    refine g_eachG1 (((v0).trans v1).trans v2) ?_
    (purse 7012 => fail)
    refine g_dg ((((v0).trans v1).trans v2 : Up H2 _) _ _ hd2) (by rfl) ?_
    (purse 7012 => fail)
    have U3 : Up H _ := u2.trans (((v0).trans v1).trans v2)
    refine ⟨_, _, rfl, .day ok.d0 ok.d1, fun G3 v3 => ?_⟩
    (purse 7012 => fail)
    refine g_eachG1 ((((v0).trans v1).trans v2).trans v3) ?_
    (purse 7012 => fail)
    refine g_dg (((((v0).trans v1).trans v2).trans v3 : Up H2 _) _ _ hd2) (by rfl) ?_
    (purse 7012 => fail)
    have U4 : Up H _ := u2.trans ((((v0).trans v1).trans v2).trans v3)
    refine ⟨_, _, rfl, .grain ok.g0 ok.g1, fun G4 v4 => ?_⟩
    (purse 7012 => fail)
    refine g_eachG1 (((((v0).trans v1).trans v2).trans v3).trans v4) ?_
    (purse 7012 => fail)
    refine g_dg ((((((v0).trans v1).trans v2).trans v3).trans v4 : Up H2 _) _ _ hd2) (by rfl) ?_
    (purse 7012 => fail)
    have U5 : Up H _ := u2.trans (((((v0).trans v1).trans v2).trans v3).trans v4)
    refine ⟨_, _, rfl, .spares _, fun G5 v5 => ?_⟩
    (purse 7012 => fail)
    refine g_eachG1 ((((((v0).trans v1).trans v2).trans v3).trans v4).trans v5) ?_
    (purse 7012 => fail)
    refine g_dg (((((((v0).trans v1).trans v2).trans v3).trans v4).trans v5 : Up H2 _) _ _ hd2) (by rfl) ?_
    (purse 7012 => fail)
    have U6 : Up H _ := u2.trans ((((((v0).trans v1).trans v2).trans v3).trans v4).trans v5)
    refine ⟨_, _, rfl, .late ok.t0 ok.t1, fun G6 v6 => ?_⟩
    (purse 7012 => fail)
    refine g_eachG1 (((((((v0).trans v1).trans v2).trans v3).trans v4).trans v5).trans v6) ?_
    (purse 7012 => fail)
    refine g_dg ((((((((v0).trans v1).trans v2).trans v3).trans v4).trans v5).trans v6 : Up H2 _) _ _ hd2) (by rfl) ?_
    (purse 7012 => fail)
    have U7 : Up H _ := u2.trans (((((((v0).trans v1).trans v2).trans v3).trans v4).trans v5).trans v6)
    refine ⟨_, _, rfl, .again _, fun G7 v7 => ?_⟩
    (purse 7012 => fail)
    refine g_eachG1 ((((((((v0).trans v1).trans v2).trans v3).trans v4).trans v5).trans v6).trans v7) ?_
    (purse 7012 => fail)
    refine g_dg (((((((((v0).trans v1).trans v2).trans v3).trans v4).trans v5).trans v6).trans v7 : Up H2 _) _ _ hd2) (by rfl) ?_
    (purse 7012 => fail)
    have U8 : Up H _ := u2.trans ((((((((v0).trans v1).trans v2).trans v3).trans v4).trans v5).trans v6).trans v7)
    refine ⟨_, _, rfl, .period ok.p0 ok.p1, fun G8 v8 => ?_⟩
    (purse 7012 => fail)
    refine g_eachG0 (((((((((v0).trans v1).trans v2).trans v3).trans v4).trans v5).trans v6).trans v7).trans v8) ?_
    (purse 7012 => fail)
    have UF : Up H2 _ := ((((((((v0).trans v1).trans v2).trans v3).trans v4).trans v5).trans v6).trans v7).trans v8
    have hxF := (u2.trans UF) _ _ hx
    have SF : Sh _ (fun b => b = x) _ [(x, .ins (ga K "Book") dx [], true)] := Sh.start.take hxF rfl (fun _ h => nomatch h)
    refine g_ksfld SF (by (purse 7005 => fail)) T.cl T.nT (by decide) fun H3 S3 => ?_
    have ux : UpX x _ H3 := UpX.of (S3.out fun b h => by simp [h])
    exact k pd H3 hpd ((u2.trans UF).toX.trans ux) (S3.has_ .here) (ux _ _ hne (UF _ _ hd2))
theorem ok_gbound (F : FnP K "bound" "Book.bound" s_Book_bound f fd) (T : TB35 K w mg) : FnOk P w K mg base (L2.CX P w) 2 f fd ["self"] (spGet (ga K "Book") "bound") := by
  refine F.ok c_Book_bound (fun vs H Q E h => ?_) (fun cdv A outer s H vs Q E hr h => ⟨_, pss_one (ps_ret (pe_dget (hu_of hr) ((pe_fld (pv 0) rfl)) ((pe_str)) (fun _ _ => rfl))), ?_⟩)
  · obtain ⟨x, dx, d, kvs, v, rfl, _⟩ := h
    rfl
  · obtain ⟨x, dx, d, kvs, v, rfl, hx, hd, hv, k⟩ := h
    (purse 7012 => fail)
    refine g_kfld (K := K) hx T.cl T.nT rfl ?_
    (purse 7012 => fail)
    exact g_dg hd hv k
theorem ok_glooks (F : FnP K "looks" "Book.looks" s_Book_looks f fd) (T : TB35 K w mg) : FnOk P w K mg base (L2.CX P w) 2 f fd ["self"] (spGet (ga K "Book") "looks") := by
  refine F.ok c_Book_looks (fun vs H Q E h => ?_) (fun cdv A outer s H vs Q E hr h => ⟨_, pss_one (ps_ret (pe_dget (hu_of hr) ((pe_fld (pv 0) rfl)) ((pe_str)) (fun _ _ => rfl))), ?_⟩)
  · obtain ⟨x, dx, d, kvs, v, rfl, _⟩ := h
    rfl
  · obtain ⟨x, dx, d, kvs, v, rfl, hx, hd, hv, k⟩ := h
    (purse 7012 => fail)
    refine g_kfld (K := K) hx T.cl T.nT rfl ?_
    (purse 7012 => fail)
    exact g_dg hd hv k
theorem ok_ghow (F : FnP K "how" "Book.how" s_Book_how f fd) (T : TB35 K w mg) : FnOk P w K mg base (L2.CX P w) 2 f fd ["self"] (spGet (ga K "Book") "how") := by
  refine F.ok c_Book_how (fun vs H Q E h => ?_) (fun cdv A outer s H vs Q E hr h => ⟨_, pss_one (ps_ret (pe_dget (hu_of hr) ((pe_fld (pv 0) rfl)) ((pe_str)) (fun _ _ => rfl))), ?_⟩)
  · obtain ⟨x, dx, d, kvs, v, rfl, _⟩ := h
    rfl
  · obtain ⟨x, dx, d, kvs, v, rfl, hx, hd, hv, k⟩ := h
    (purse 7012 => fail)
    refine g_kfld (K := K) hx T.cl T.nT rfl ?_
    (purse 7012 => fail)
    exact g_dg hd hv k
theorem ok_gday (F : FnP K "day" "Book.day" s_Book_day f fd) (T : TB35 K w mg) : FnOk P w K mg base (L2.CX P w) 2 f fd ["self"] (spGet (ga K "Book") "day") := by
  refine F.ok c_Book_day (fun vs H Q E h => ?_) (fun cdv A outer s H vs Q E hr h => ⟨_, pss_one (ps_ret (pe_dget (hu_of hr) ((pe_fld (pv 0) rfl)) ((pe_str)) (fun _ _ => rfl))), ?_⟩)
  · obtain ⟨x, dx, d, kvs, v, rfl, _⟩ := h
    rfl
  · obtain ⟨x, dx, d, kvs, v, rfl, hx, hd, hv, k⟩ := h
    (purse 7012 => fail)
    refine g_kfld (K := K) hx T.cl T.nT rfl ?_
    (purse 7012 => fail)
    exact g_dg hd hv k
theorem ok_ggrain (F : FnP K "grain" "Book.grain" s_Book_grain f fd) (T : TB35 K w mg) : FnOk P w K mg base (L2.CX P w) 2 f fd ["self"] (spGet (ga K "Book") "grain") := by
  refine F.ok c_Book_grain (fun vs H Q E h => ?_) (fun cdv A outer s H vs Q E hr h => ⟨_, pss_one (ps_ret (pe_dget (hu_of hr) ((pe_fld (pv 0) rfl)) ((pe_str)) (fun _ _ => rfl))), ?_⟩)
  · obtain ⟨x, dx, d, kvs, v, rfl, _⟩ := h
    rfl
  · obtain ⟨x, dx, d, kvs, v, rfl, hx, hd, hv, k⟩ := h
    (purse 7012 => fail)
    refine g_kfld (K := K) hx T.cl T.nT rfl ?_
    (purse 7012 => fail)
    exact g_dg hd hv k
theorem ok_gspares (F : FnP K "spares" "Book.spares" s_Book_spares f fd) (T : TB35 K w mg) : FnOk P w K mg base (L2.CX P w) 2 f fd ["self"] (spGet (ga K "Book") "spares") := by
  refine F.ok c_Book_spares (fun vs H Q E h => ?_) (fun cdv A outer s H vs Q E hr h => ⟨_, pss_one (ps_ret (pe_dget (hu_of hr) ((pe_fld (pv 0) rfl)) ((pe_str)) (fun _ _ => rfl))), ?_⟩)
  · obtain ⟨x, dx, d, kvs, v, rfl, _⟩ := h
    rfl
  · obtain ⟨x, dx, d, kvs, v, rfl, hx, hd, hv, k⟩ := h
    (purse 7012 => fail)
    refine g_kfld (K := K) hx T.cl T.nT rfl ?_
    (purse 7012 => fail)
    exact g_dg hd hv k
theorem ok_glate (F : FnP K "late" "Book.late" s_Book_late f fd) (T : TB35 K w mg) : FnOk P w K mg base (L2.CX P w) 2 f fd ["self"] (spGet (ga K "Book") "late") := by
  refine F.ok c_Book_late (fun vs H Q E h => ?_) (fun cdv A outer s H vs Q E hr h => ⟨_, pss_one (ps_ret (pe_dget (hu_of hr) ((pe_fld (pv 0) rfl)) ((pe_str)) (fun _ _ => rfl))), ?_⟩)
  · obtain ⟨x, dx, d, kvs, v, rfl, _⟩ := h
    rfl
  · obtain ⟨x, dx, d, kvs, v, rfl, hx, hd, hv, k⟩ := h
    (purse 7012 => fail)
    refine g_kfld (K := K) hx T.cl T.nT rfl ?_
    (purse 7012 => fail)
    exact g_dg hd hv k
theorem ok_gagain (F : FnP K "again" "Book.again" s_Book_again f fd) (T : TB35 K w mg) : FnOk P w K mg base (L2.CX P w) 2 f fd ["self"] (spGet (ga K "Book") "again") := by
  refine F.ok c_Book_again (fun vs H Q E h => ?_) (fun cdv A outer s H vs Q E hr h => ⟨_, pss_one (ps_ret (pe_dget (hu_of hr) ((pe_fld (pv 0) rfl)) ((pe_str)) (fun _ _ => rfl))), ?_⟩)
  · obtain ⟨x, dx, d, kvs, v, rfl, _⟩ := h
    rfl
  · obtain ⟨x, dx, d, kvs, v, rfl, hx, hd, hv, k⟩ := h
    (purse 7012 => fail)
    refine g_kfld (K := K) hx T.cl T.nT rfl ?_
    (purse 7012 => fail)
    exact g_dg hd hv k
theorem ok_gperiod (F : FnP K "period" "Book.period" s_Book_period f fd) (T : TB35 K w mg) : FnOk P w K mg base (L2.CX P w) 2 f fd ["self"] (spGet (ga K "Book") "period") := by
  refine F.ok c_Book_period (fun vs H Q E h => ?_) (fun cdv A outer s H vs Q E hr h => ⟨_, pss_one (ps_ret (pe_dget (hu_of hr) ((pe_fld (pv 0) rfl)) ((pe_str)) (fun _ _ => rfl))), ?_⟩)
  · obtain ⟨x, dx, d, kvs, v, rfl, _⟩ := h
    rfl
  · obtain ⟨x, dx, d, kvs, v, rfl, hx, hd, hv, k⟩ := h
    (purse 7012 => fail)
    refine g_kfld (K := K) hx T.cl T.nT rfl ?_
    (purse 7012 => fail)
    exact g_dg hd hv k
theorem ok_thr (F : FnP K "threshold" "Book.threshold" s_Book_threshold f fd) (T : TB35 K w mg) (R_how : Rn P w K mg base 2 (ga K "Book") "how" (spGet (ga K "Book") "how")) (R_bound : Rn P w K mg base 2 (ga K "Book") "bound" (spGet (ga K "Book") "bound")) (R_day : Rn P w K mg base 2 (ga K "Book") "day" (spGet (ga K "Book") "day")) :
    FnOk P w K mg base (L2.CX P w) 4 f fd ["self"] (spThr K (ga K "Book")) := by
  refine F.ok c_Book_threshold (fun vs H Q E h => ?_) (fun cdv A outer s H vs Q E hr h => ⟨_, pss_cons (ps_if (pt_cmpR op_eq (pe_pr R_how (rm hr) (pv 0)) (pe_str) (nomark _))
      (pss_one (ps_ret (pe_op op_mul (pe_op op_add (pe_pr R_bound (rm hr) (pv 0)) (pe_int)) (pe_pr R_day (rm hr) (pv 0)))))
      (pss_nil))
      (pss_one (ps_ret (pe_op op_mul (pe_pr R_bound (rm hr) (pv 0)) (pe_pr R_day (rm hr) (pv 0))))), ?_⟩)
  · obtain ⟨x, p, rfl, _⟩ := h
    rfl
  · obtain ⟨x, p, rfl, ⟨dx, d, hx, t, hd, ht⟩, ok, k⟩ := h
    obtain ⟨b0, b1, ll, d0, d1, g0, g1, t0, t1, p0, p1⟩ := ok
    (purse 7012 => fail)
    refine g_kprop hx ⟨x, dx, d, _, .str (hw p.ab), rfl, hx, hd, rfl, ?_⟩
    (purse 7012 => fail)
    by_cases ha : p.ab = true
    · refine g_eqS (r := true) (by rw [ha]; decide) ?_
      (purse 7012 => fail)
      (purse 7015 => fail)
      (purse 7012 => fail)
      refine g_kprop hx ⟨x, dx, d, _, .int p.b, rfl, hx, hd, rfl, ?_⟩
      (purse 7012 => fail)
      refine g_kprop hx ⟨x, dx, d, _, .int p.day, rfl, hx, hd, rfl, ?_⟩
      show rI CMul (fun i j => V.int (i * j)) (V.int (p.b + 1)) (V.int p.day) H Q
      (purse 7012 => fail)
      rw [show thr p = (p.b + 1) * p.day from if_pos ha] at k
      exact k
    · rw [Bool.not_eq_true] at ha
      refine g_eqS (r := false) (by rw [ha]; decide) ?_
      (purse 7012 => fail)
      (purse 7016 => fail)
      (purse 7012 => fail)
      refine g_kprop hx ⟨x, dx, d, _, .int p.b, rfl, hx, hd, rfl, ?_⟩
      (purse 7012 => fail)
      refine g_kprop hx ⟨x, dx, d, _, .int p.day, rfl, hx, hd, rfl, ?_⟩
      show rI CMul (fun i j => V.int (i * j)) (V.int p.b) (V.int p.day) H Q
      (purse 7012 => fail)
      rw [show thr p = p.b * p.day from if_neg (by rw [ha]; decide)] at k
      exact k
end

end K1
set_option maxHeartbeats 1000000
namespace K1
open PySem PySem.Spec PyProof.Rows L2 AF
open C8 (pe_gc)
local macro_rules | `(tactic| purse 7003 => fail) => `(tactic| k_dflt (refine Sh.has_ (by assumption) ?_; repeat (first | exact On.here | apply On.next)))
local macro_rules | `(tactic| purse 7004 => fail) => `(tactic| k_dflt (repeat (first | exact On.here | apply On.next)))
local macro_rules | `(tactic| purse 7005 => fail) => `(tactic| (repeat (first | exact Rep.here | apply Rep.next)))
local macro_rules | `(tactic| purse 7006 => fail) => `(tactic| (exact Sh.out (by assumption) (fun b h => by simp [h])))
local macro_rules | `(tactic| purse 7007 => fail) => `(tactic| k_dflt (first | ((with_reducible refine cdivw ?_ ?_) <;> omega) | ((with_reducible show CDiv _ _); constructor <;> omega) | ((with_reducible show CMul _ _); (first | (left; constructor <;> omega) | (right; constructor <;> omega))) | (show (0 : Int) < _; omega)))
local macro_rules | `(tactic| purse 7008 => fail) => `(tactic| first | exact Kd.int _ | exact Kd.bl _ | exact Kd.non | exact Kd.str _ | exact Kd.ins (by (purse 7003 => fail)) | exact Kd.lst (by (purse 7003 => fail)) | exact Kd.tup (by (purse 7003 => fail)))
local macro_rules | `(tactic| purse 7009 => fail) => `(tactic| first | exact DpAll.nil | (apply DpAll.cons; (purse 7010 => fail); (purse 7009 => fail)))
local macro_rules | `(tactic| purse 7010 => fail) => `(tactic| first | exact Dp.int _ | exact Dp.bl _ | exact Dp.non | exact Dp.str _ | (refine dp_int ?_; omega) | (refine dp_bl ?_; simp only [decide_eq_decide]; omega) | (apply dp_lst; (purse 7003 => fail); (purse 7009 => fail)) | (apply dp_tup; (purse 7003 => fail); (purse 7009 => fail)))
local macro_rules | `(tactic| purse 7011 => fail) => `(tactic| first | assumption | omega)
local macro_rules | `(tactic| purse 7001 => fail) => `(tactic| fail "no use")
local macro_rules | `(tactic| purse 7002 => fail) => `(tactic| first
  | (with_reducible refine set_go ?_)
  | (with_reducible refine Step.go ?_)
  | (with_reducible first | refine g_pow10_6 ?_ | refine g_pow10_7 ?_ | refine g_pow10_18 ?_ | refine g_pow10_29 ?_ | refine g_pow10_30 ?_)
  | ((with_reducible refine' g_I ?a0 ?_); (case a0 => (purse 7007 => fail)))
  | ((with_reducible refine' g_ixL ?a0 ?a1 ?_); (case a0 => (purse 7003 => fail)); (case a1 => k_dflt (exact rfl)))
  | ((with_reducible refine' g_kfld ?a0 ?a1 ?a2 ?a3 ?_); (case a0 => (purse 7003 => fail)); (case a1 => k_dflt (assumption)); (case a2 => k_dflt (assumption)); (case a3 => k_dflt (exact rfl)))
  | ((with_reducible refine' g_kprop ?a0 ?_); (case a0 => (purse 7003 => fail)))
  | ((with_reducible refine' g_kmeth ?a0 ?a1 ?_); (case a0 => (purse 7003 => fail)); (case a1 => k_dflt (exact rfl)))
  | ((with_reducible refine' g_own ?a0 ?a1 ?a2 ?_); (case a0 => (purse 7003 => fail)); (case a1 => (purse 7008 => fail)); (case a2 => k_dflt (assumption)))
  | ((with_reducible refine' g_cmp ?a0 ?a1 ?a2 ?_); (case a0 => (purse 7003 => fail)); (case a1 => (purse 7008 => fail)); (case a2 => k_dflt (assumption)))
  | ((with_reducible refine' g_neq ?a0 ?a1 ?a2 ?_); (case a0 => (purse 7003 => fail)); (case a1 => (purse 7008 => fail)); (case a2 => k_dflt (assumption)))
  | ((with_reducible refine' g_right ?a0 ?_); (case a0 => (purse 7003 => fail)))
  | ((with_reducible refine' use_draw ?a0 ?a1 ?a2 ?a3 ?a4 ?_); (case a0 => assumption); (case a1 => intro _ _; (purse 7005 => fail)); (case a2 => assumption); (case a3 => (purse 7011 => fail)); (case a4 => (purse 7011 => fail)); intro _ _ _ _ _ _ _ _)
  | ((with_reducible refine' use_giveI ?a0 ?a1 ?a2 ?_); (case a0 => assumption); (case a1 => intro _ _; (purse 7005 => fail)); (case a2 => assumption); intro _ _ _ _ _ _ _ _)
  | ((with_reducible refine' use_source ?a0 ?a1 ?_); (case a0 => assumption); (case a1 => k_dflt (assumption)); intro _ _ _ _ _ _)
  | (with_reducible refine g_absN ?_; intro _ _)
  | (with_reducible refine g_maxN ?_; intro _ _ _ _)
  | (with_reducible refine g_minN ?_; intro _ _ _ _)
  | ((with_reducible refine' g_kR1 ?a0 ?a1 ?_); (case a0 => omega); (case a1 => omega))
  | ((with_reducible refine' g_neD ?a0 ?a1 ?a2 ?_); (case a0 => (purse 7010 => fail)); (case a1 => (purse 7010 => fail)); (case a2 => k_dflt (rfl)))
  | ((with_reducible refine' g_eqD ?a0 ?a1 ?a2 ?_); (case a0 => (purse 7010 => fail)); (case a1 => (purse 7010 => fail)); (case a2 => k_dflt (rfl)))
  | ((with_reducible refine' g_klst ?a0 ?a1 ?_); (case a0 => assumption); (case a1 => k_dflt (exact rfl)); intro _ _ _ _)
  | ((with_reducible refine' g_ktup ?a0 ?a1 ?_); (case a0 => assumption); (case a1 => k_dflt (exact rfl)); intro _ _ _ _)
  | ((with_reducible refine' g_setL ?a0 ?a1 ?a2 ?_); (case a0 => assumption); (case a1 => (purse 7005 => fail)); (case a2 => k_dflt (exact rfl)); intro _ _)
  | ((with_reducible refine' g_unl3 ?a0 ?_); (case a0 => (purse 7003 => fail)))
  | (purse 7001 => fail))
local macro_rules | `(tactic| purse 7012 => fail) => `(tactic| ((try (with_reducible refine start_go ?_)); repeat (purse 7002 => fail)))
local macro_rules | `(tactic| purse 7013 => fail) => `(tactic| first | rfl | (refine decide_eq_true ?_; omega) | (simp only [Bool.not_eq_true', Bool.not_eq_false', decide_eq_false_iff_not, decide_eq_true_eq, Bool.not_not, decide_eq_decide]; done) | (simp only [Bool.not_eq_true', Bool.not_eq_false', decide_eq_false_iff_not, decide_eq_true_eq, Bool.not_not, decide_eq_decide]; omega))
local macro_rules | `(tactic| purse 7014 => fail) => `(tactic| first | rfl | (refine decide_eq_false ?_; omega) | (simp only [Bool.not_eq_true', Bool.not_eq_false', decide_eq_false_iff_not, decide_eq_true_eq, Bool.not_not, decide_eq_decide]; done) | (simp only [Bool.not_eq_true', Bool.not_eq_false', decide_eq_false_iff_not, decide_eq_true_eq, Bool.not_not, decide_eq_decide]; omega))
local macro_rules | `(tactic| purse 7015 => fail) => `(tactic| ((refine g_yes ?h ?_); (case h => (purse 7013 => fail))))
local macro_rules | `(tactic| purse 7016 => fail) => `(tactic| ((refine g_no ?h ?_); (case h => (purse 7014 => fail))))
local macro_rules | `(tactic| purse 7017 => fail) => `(tactic| first | (purse 7015 => fail) | (purse 7016 => fail))
local macro_rules | `(tactic| purse 7018 => fail) => `(tactic| repeat ((purse 7012 => fail); (purse 7017 => fail)))
local macro_rules | `(tactic| purse 7019 => fail) => `(tactic| repeat (first | exact intIn_nil | refine intIn_cons (by omega) (by omega) ?_))
local macro_rules | `(tactic| purse 7020 => fail) => `(tactic| (simp only [List.length_cons, List.length_nil]; omega))
local macro_rules | `(tactic| purse 7021 => fail) => `(tactic| (refine g_two (fun c => ?_) (fun c => ?_) <;> first | (have c := of_decide_eq_true c) | (have c := of_decide_eq_false c) | skip))
local macro_rules | `(tactic| purse 7022 => fail) => `(tactic| ((purse 7018 => fail); (purse 7012 => fail); try ((purse 7021 => fail) <;> (purse 7022 => fail))))

/-! books: items, copies, equality -/
def p9 : List Str := ["bound", "looks", "how", "day", "grain", "spares", "late", "again", "period"]
def v9 (p : Bp) (t : Addr) : List V := [.int p.b, .ref t, .str (hw p.ab), .int p.day, .int p.gr, .bl p.sp, .int p.lt, .bl p.ag, .int p.pd]
theorem kv9_zip (p : Bp) (t : Addr) : kv9 p t = (p9.map Sum.inr).zip (v9 p t) := rfl
def args9 (x : Addr) (p : Bp) (t : Addr) : List V := [.ref x, .int p.b, .ref t, .str (hw p.ab), .int p.day, .int p.gr, .bl p.sp, .int p.lt, .bl p.ag, .int p.pd]
def pd9 (p : Bp) : List PyData := [.int p.b, .tuple (p.lk.map PyData.str), .str (hw p.ab), .int p.day, .int p.gr, .bool p.sp, .int p.lt, .bool p.ag, .int p.pd]
def e9 (p q : Bp) : Bool := PyData.eqvAll (pd9 p) (pd9 q)
/-- the names that remade is called with -/
def mx (o : Option Bp) : List (Key × V) := match o with
  | none => []
  | some q => [(.inr "bound", .int q.b), (.inr "how", .str (hw q.ab)), (.inr "again", .bl q.ag)]
def mp (p : Bp) (o : Option Bp) : Bp := match o with
  | none => p
  | some q => ⟨q.b, p.lk, q.ab, p.day, p.gr, p.sp, p.lt, q.ag, p.pd⟩
theorem mx_merge (p : Bp) (t : Addr) (o : Option Bp) : mergeK (mergeK [] (kv9 p t)) (mx o) = kv9 (mp p o) t := by
  rw [show mergeK [] (kv9 p t) = kv9 p t from rfl]
  cases o with
  | none => rfl
  | some q =>
    show putK (putK (putK (kv9 p t) (.inr "bound" : Key) (.int q.b)) (.inr "how" : Key) (.str (hw q.ab))) (.inr "again" : Key) (.bl q.ag) = _
    rw [show putK (kv9 p t) (.inr "bound" : Key) (.int q.b) = kv9 ⟨q.b, p.lk, p.ab, p.day, p.gr, p.sp, p.lt, p.ag, p.pd⟩ t from rfl]
    rw [show putK (kv9 ⟨q.b, p.lk, p.ab, p.day, p.gr, p.sp, p.lt, p.ag, p.pd⟩ t) (.inr "how" : Key) (.str (hw q.ab)) = kv9 ⟨q.b, p.lk, q.ab, p.day, p.gr, p.sp, p.lt, p.ag, p.pd⟩ t from rfl]
    exact (show putK (kv9 ⟨q.b, p.lk, q.ab, p.day, p.gr, p.sp, p.lt, p.ag, p.pd⟩ t) (.inr "again" : Key) (.bl q.ag) = kv9 ⟨q.b, p.lk, q.ab, p.day, p.gr, p.sp, p.lt, q.ag, p.pd⟩ t from rfl)
theorem dp_strs {K : PySem.W.Frag} {H : Hp} : ∀ l : List Str, DpAll K H (l.map V.str) (l.map PyData.str)
  | [] => .nil
  | z :: r => .cons (.str z) (dp_strs r)
theorem tk_dp {K : PySem.W.Frag} {H : Hp} {t : Addr} {l : List Str} (mk : KT K (He.ga K "MARKS") [.str "read", .str "written", .str "changed"]) : Tk K H t l → Dp K H (.ref t) (.tuple (l.map PyData.str))
  | .inl h => dp_tup h (dp_strs l)
  | .inr ⟨e, e2⟩ => by
    subst e e2
    exact .tup mk.sq (dp_strs ["read", "written", "changed"])
theorem dp_v9 {K : PySem.W.Frag} {H : Hp} {t : Addr} {p : Bp} (mk : KT K (He.ga K "MARKS") [.str "read", .str "written", .str "changed"]) (h : Tk K H t p.lk) : DpAll K H (v9 p t) (pd9 p) :=
  .cons (.int _) (.cons (tk_dp mk h) (.cons (.str _) (.cons (.int _) (.cons (.int _) (.cons (.bl _) (.cons (.int _) (.cons (.bl _) (.cons (.int _) .nil))))))))
theorem can_strs {l : List Str} (h : l ∈ allLk) : PyData.canLayAll0 (l.map PyData.str) = true := by
  simp only [allLk, List.mem_cons, List.not_mem_nil, or_false] at h
  rcases h with rfl | rfl | rfl | rfl | rfl | rfl | rfl <;> decide +kernel
theorem band {a b : Bool} (h1 : a = true) (h2 : b = true) : (a && b) = true := by rw [h1, h2]; rfl
theorem dep_strs : ∀ l : List Str, PyData.depthAll (l.map PyData.str) ≤ 0
  | [] => Nat.zero_le _
  | z :: r => by
    show max (PyData.str z).depth (PyData.depthAll (r.map PyData.str)) ≤ 0
    have := dep_strs r
    have e : (PyData.str z).depth = 0 := rfl
    omega
theorem can9 {p : Bp} (h : p.lk ∈ allLk) : PyData.canLayAll0 (pd9 p) = true :=
  band (a := (PyData.int p.b).canLay0) rfl (band (a := (PyData.tuple (p.lk.map PyData.str)).canLay0) (can_strs h) (band (a := (PyData.str (hw p.ab)).canLay0) (by cases p.ab <;> decide +kernel) (band (a := (PyData.int p.day).canLay0) rfl (band (a := (PyData.int p.gr).canLay0) rfl (band (a := (PyData.bool p.sp).canLay0) rfl (band (a := (PyData.int p.lt).canLay0) rfl (band (a := (PyData.bool p.ag).canLay0) rfl (band (a := (PyData.int p.pd).canLay0) rfl rfl))))))))
theorem dep9 (p : Bp) : PyData.depthAll (pd9 p) ≤ 59 := by
  have h := dep_strs p.lk
  have e : (PyData.tuple (p.lk.map PyData.str)).depth = PyData.depthAll (p.lk.map PyData.str) + 1 := rfl
  show max 0 (max (PyData.tuple (p.lk.map PyData.str)).depth (max 0 (max 0 (max 0 (max 0 (max 0 (max 0 (max 0 0)))))))) ≤ 59
  omega
open He in
structure TC17 (K : PySem.W.Frag) (w : World) (mg : Str → Option Value) : Prop extends TC35 K w mg where
  z_dict : mg "dict" = none
  ceq : Cmp K .Eq (ga K "Book") (ma K (ga K "Book") "__eq__")
  nf : PySem.W.notFirst K (ga K "Book") (.ref (ga K "Book")) = true
  nfd : PySem.W.notFirst K (ga K "Book") (.type "dict") = true
  nid : PySem.W.kitOne K (.type "dict") (.ref (ga K "Book")) = some false
def spItem (C : Addr) : Sp := fun vs H Q _ => ∃ (x dx d : Addr) (kvs : List (Key × V)) (z : Str) (v : V), vs = [.ref x, .str z] ∧ H x = some (.ins C dx (tpf d)) ∧ H d = some (.dK kvs) ∧ z ∈ p9 ∧ valV kvs (.inr z) = some v ∧ Q v H
def spTold (C : Addr) : Sp := fun vs H Q _ => ∃ (x dx d : Addr) (kvs : List (Key × V)), vs = [.ref x] ∧ H x = some (.ins C dx (tpf d)) ∧ H d = some (.dK kvs) ∧ ∀ q, H q = none → Q (.ref q) (upd H q (.dK kvs))
/-- a new book -/
def NewB (C : Addr) (H : Hp) (p : Bp) (t : Addr) (Q : VK) : Prop := ∀ y dy d H', H y = none → H d = none → Up H H' → H' y = some (.ins C dy (tpf d)) → H' d = some (.dK (kv9 p t)) → Q (.ref y) H'
def spRem (K : PySem.W.Frag) (C : Addr) : Sp := fun vs H Q _ => ∃ (x dx d t m : Addr) (p : Bp) (o : Option Bp), vs = [.ref x, .ref m] ∧ H x = some (.ins C dx (tpf d)) ∧ H d = some (.dK (kv9 p t)) ∧ Tk K H t p.lk ∧ H m = some (.dK (mx o)) ∧ (mp p o).Ok ∧
  ∀ y dy e H', H y = none → H e = none → UpX m H H' → H' y = some (.ins C dy (tpf e)) → H' e = some (.dK (kv9 (mp p o) t)) → Q (.ref y) H'
def spTwin (K : PySem.W.Frag) (C : Addr) : Sp := fun vs H Q _ => ∃ (x dx d t : Addr) (p : Bp), vs = [.ref x] ∧ H x = some (.ins C dx (tpf d)) ∧ H d = some (.dK (kv9 p t)) ∧ Tk K H t p.lk ∧ p.Ok ∧ NewB C H p t Q
def spBEq (K : PySem.W.Frag) (C : Addr) : Sp := fun vs H Q _ => ∃ (x y dx d : Addr), vs = [.ref x, .ref y] ∧ H x = some (.ins C dx (tpf d)) ∧
  ((∃ (dy e t u : Addr) (p q : Bp), H y = some (.ins C dy (tpf e)) ∧ H d = some (.dK (kv9 p t)) ∧ H e = some (.dK (kv9 q u)) ∧ Tk K H t p.lk ∧ Tk K H u q.lk ∧ p.lk ∈ allLk ∧ q.lk ∈ allLk ∧ Q (.bl (e9 p q)) H) ∨ (∃ kvs, H y = some (.dK kvs) ∧ Q (.bl false) H))
open He in
def spCare (K : PySem.W.Frag) (C : Addr) : Sp := fun vs H Q _ => ∃ n : Int, vs = [.int n] ∧ 0 ≤ n ∧ n ≤ 1000000000000 ∧ NewB C H ⟨n, ["read", "written", "changed"], true, 1, 1, true, 0, true, 1⟩ (ga K "MARKS") Q
def spHasty (K : PySem.W.Frag) (C : Addr) : Sp := fun vs H Q _ => ∃ n : Int, vs = [.int n] ∧ 0 ≤ n ∧ n ≤ 1000000000000 ∧ ∀ t G, H t = none → G = upd H t (.tup [.str "written"]) → NewB C G ⟨n, ["written"], true, 1, 1, false, 60, false, 1⟩ t Q
section
open He
variable {P : Program} {w : World} {K : PySem.W.Frag} {mg : Str → Option Value} {base : Heap} {f : Addr} {fd : FuncData}
theorem use_mk {C : Addr} {m : Nat} {gV : List V → List V → List V} {E : XK} {Q : VK} {zs : List V} {H : Hp} {p : Bp} {t : Addr} (hz : zs.length = m) (e : ∀ x, gV [V.ref x] zs = args9 x p t) (ok : p.Ok) (ht : Tk K H t p.lk) (q : NewB C H p t Q) : kMw C m (spInit K C) gV E Q zs H := by
  refine ⟨hz, fun x dx hx hdx hne => ?_⟩
  rw [e x]
  have h1 : upd H dx (.own x) x = none := by rw [upd_ne (fun z => hne z.symm)]; exact hx
  have u2 : Up H (upd (upd H dx (.own x)) x (.ins C dx [])) := (Up.new hdx).trans (Up.new h1)
  refine ⟨x, dx, t, p, rfl, upd_same, ok, ht.up u2, fun d H3 hd ux hx3 hd3 => ⟨rfl, ?_⟩⟩
  have nd : H d = none := by
    cases e : H d with
    | none => rfl
    | some o => rw [u2 _ _ e] at hd; cases hd
  exact q x dx d H3 hx nd ((u2.toX.trans ux).up hx) hx3 hd3
theorem ok_change (F : FnP K "change" "Book.change" s_Book_change f fd) (T : TB35 K w mg) (D_check_part : Dn P w K mg base 8 (ga K "check_part") ["part", "value"] (spCheck K)) : FnOk P w K mg base (L2.CX P w) 10 f fd ["self", "part", "value"] (spChange K (ga K "Book")) := by
  refine F.ok c_Book_change (fun vs H Q E h => ?_) (fun cdv A outer s H vs Q E hr h => ⟨_, pss_cons (ps_expr (pe_dn D_check_part (rm hr) rfl T.g_check_part (passes_call (takes_of rfl rfl rfl rfl) fun _ _ _ _ h => h) (pa_cons (pv 1) (pa_cons (pv 2) (pa_nil)))))
      (pss_one (ps_asg (pv 2) (pg_sub (pe_fld (pv 0) rfl) (pv 1) (set_dict (hu_of hr))))), ?_⟩)
  · obtain ⟨x, dx, d, z, v, kvs, rfl, _⟩ := h
    rfl
  · obtain ⟨x, dx, d, z, v, kvs, rfl, hx, hd, hn, hw, k⟩ := h
    (purse 7012 => fail)
    refine ⟨z, v, rfl, hw, fun H1 u1 => ?_⟩
    (purse 7012 => fail)
    refine g_kfld (K := K) (u1 _ _ hx) T.cl T.nT rfl ?_
    (purse 7012 => fail)
    have S : Sh H1 (fun b => b = d) H1 [(d, .dK kvs, true)] := Sh.start.take (u1 _ _ hd) rfl (fun _ h => nomatch h)
    refine g_setD S (by (purse 7005 => fail)) (by rw [Nat.blt_eq]; exact hn) rfl fun H3 S3 => ?_
    exact k H3 (u1.toX.trans (UpX.of (S3.out fun b h => by simp [h]))) (S3.has_ .here)
theorem ok_setitem (F : FnP K "__setitem__" "Book.__setitem__" s_Book___setitem__ f fd) (T : TB35 K w mg) (H_change : Hn P w K mg base 10 (ga K "Book") "change" (spChange K (ga K "Book"))) : FnOk P w K mg base (L2.CX P w) 12 f fd ["self", "at", "worth"] (spChange K (ga K "Book")) := by
  refine F.ok c_Book___setitem__ (fun vs H Q E h => ?_) (fun cdv A outer s H vs Q E hr h => ⟨_, pss_one (ps_expr (pe_dm H_change (rm hr) (passes_call (takes_of rfl rfl rfl rfl) fun _ _ _ _ h => h) (pv 0) (pa_cons (pv 1) (pa_cons (pv 2) (pa_nil))))), ?_⟩)
  · obtain ⟨x, dx, d, z, v, kvs, rfl, _⟩ := h
    rfl
  · obtain ⟨x, dx, d, z, v, kvs, rfl, hx, hd, hn, hw, k⟩ := h
    (purse 7012 => fail)
    refine g_kmeth hx rfl ?_
    (purse 7012 => fail)
    exact ⟨x, dx, d, z, v, kvs, rfl, hx, hd, hn, hw, k⟩
theorem ok_getitem (F : FnP K "__getitem__" "Book.__getitem__" s_Book___getitem__ f fd) (T : TB35 K w mg) (D_is_part : Dn P w K mg base 2 (ga K "is_part") ["value"] spPart) : FnOk P w K mg base (L2.CX P w) 4 f fd ["self", "at"] (spItem (ga K "Book")) := by
  refine F.ok c_Book___getitem__ (fun vs H Q E h => ?_) (fun cdv A outer s H vs Q E hr h => ⟨_, pss_cons (ps_if (pt_not (pt_val (pe_dn D_is_part (rm hr) rfl T.g_is_part (passes_call (takes_of rfl rfl rfl rfl) fun _ _ _ _ h => h) (pa_cons (pv 1) (pa_nil)))))
      (pss_one (ps_never))
      (pss_nil))
      (pss_one (ps_ret (pe_dget (hu_of hr) ((pe_fld (pv 0) rfl)) ((pv 1)) (fun _ _ => rfl)))), ?_⟩)
  · obtain ⟨x, dx, d, kvs, z, v, rfl, _⟩ := h
    rfl
  · obtain ⟨x, dx, d, kvs, z, v, rfl, hx, hd, hz, hv, k⟩ := h
    (purse 7012 => fail)
    refine ⟨z, rfl, hz, ?_⟩
    (purse 7012 => fail)
    (purse 7016 => fail)
    (purse 7012 => fail)
    refine g_kfld (K := K) hx T.cl T.nT rfl ?_
    (purse 7012 => fail)
    exact g_dg hd hv k
theorem ok_parts (F : FnP K "parts" "Book.parts" s_Book_parts f fd) (T : TC17 K w mg) : FnOk P w K mg base (L2.CX P w) 2 f fd ["self"] (spTold (ga K "Book")) := by
  refine F.ok c_Book_parts (fun vs H Q E h => ?_) (fun cdv A outer s H vs Q E hr h => ⟨_, pss_one (ps_ret (pe_callTy cl_dictD (by rfl) T.z_dict (by decide +kernel) (pa_cons (pe_fld (pv 0) rfl) (pa_nil)))), ?_⟩)
  · obtain ⟨x, dx, d, kvs, rfl, _⟩ := h
    rfl
  · obtain ⟨x, dx, d, kvs, rfl, hx, hd, k⟩ := h
    (purse 7012 => fail)
    refine g_kfld (K := K) hx T.cl T.nT rfl ?_
    (purse 7012 => fail)
    exact ⟨d, kvs, rfl, .inl hd, k⟩
theorem ok_beq (F : FnP K "__eq__" "Book.__eq__" s_Book___eq__ f fd) (T : TC17 K w mg) : FnOk P w K mg base (L2.CX P w) 4 f fd ["self", "other"] (spBEq K (ga K "Book")) := by
  refine F.ok c_Book___eq__ (fun vs H Q E h => ?_) (fun cdv A outer s H vs Q E hr h => ⟨_, pss_one (ps_ret (pe_and (pe_callB call_isi (by rfl) T.z_isinstance (by decide +kernel) (pa_cons (pv 1) (pa_cons (pe_glob (v := .ref _) rfl T.g_Book rfl) (pa_nil)))) (pe_one (pe_cmpR (op_eqM hr.units) (pe_fld (pv 0) rfl) (pe_fld (pv 1) rfl) (nomark _))))), ?_⟩)
  · obtain ⟨x, y, dx, d, rfl, _⟩ := h
    rfl
  · obtain ⟨x, y, dx, d, rfl, hx, h | h⟩ := h
    · obtain ⟨dy, e, t, u, p, q, hy, hd, he, ht, hu, lp, lq, k⟩ := h
      (purse 7012 => fail)
      refine g_isi (.own _) (.base (.ins hy T.ic.cl T.ic.ha T.ic.hn T.ic.htk T.ic.hm)) T.ic.me ?_
      (purse 7012 => fail)
      (purse 7015 => fail)
      (purse 7012 => fail)
      refine g_kfld (K := K) hx T.cl T.nT rfl ?_
      (purse 7012 => fail)
      refine g_kfld (K := K) hy T.cl T.nT rfl ?_
      exact ⟨d, e, p9, v9 p t, v9 q u, pd9 p, pd9 q, rfl, rfl, .inl hd, .inl he, rfl, rfl, by decide, dp_v9 T.marks ht, dp_v9 T.marks hu, can9 lp, can9 lq, dep9 p, k⟩
    · obtain ⟨kvs, hy, k⟩ := h
      (purse 7012 => fail)
      refine g_isi (.own _) (.base (.dK hy)) T.nid ?_
      (purse 7012 => fail)
      (purse 7016 => fail)
      exact k
end

end K1
set_option maxHeartbeats 1000000
namespace K1
open PySem PySem.Spec PyProof.Rows L2 AF
section
open He
def initK (K : PySem.W.Frag) : List (Str × V) := [("looks", .ref (ga K "MARKS")), ("how", .str "above"), ("day", .int 1), ("grain", .int 1), ("spares", .bl false), ("late", .int 0), ("again", .bl true), ("period", .int 1)]
abbrev FI (K : PySem.W.Frag) (f : Addr) (fd : FuncData) : Prop := FunD K "__init__" "Book.__init__" (defArgs s_Book___init__) (defBody s_Book___init__) (defScope s_Book___init__) [] (initK K) f fd
abbrev ps10 : List Str := ["self", "bound", "looks", "how", "day", "grain", "spares", "late", "again", "period"]
theorem vals_take : ∀ (n : Nat) {vs : List V} {us : List Value}, Vals vs us → Vals (vs.take n) (us.take n)
  | 0, _, _, _ => .nil
  | _ + 1, _, _, .nil => .nil
  | n + 1, _, _, .cons a r => .cons a (vals_take n r)
theorem vals_drop : ∀ (n : Nat) {vs : List V} {us : List Value}, Vals vs us → Vals (vs.drop n) (us.drop n)
  | 0, _, _, r => r
  | _ + 1, _, _, .nil => .nil
  | n + 1, _, _, .cons a r => vals_drop n r
theorem binds5 {K : PySem.W.Frag} {f : Addr} {fd : FuncData} (F : FI K f fd) : ∃ mv : List Value, KBn K fd ps10 1 ["bound", "looks", "how", "day", "grain"] (fun us ws => us ++ ws ++ mv) (fun vs zs => vs ++ zs ++ [.bl false, .int 0, .bl true, .int 1]) := by
  refine F.kbinds0 1 ["bound", "looks", "how", "day", "grain"] [("spares", .bl false), ("late", .int 0), ("again", .bl true), ("period", .int 1)] (fun us mv ws => us ++ ws ++ mv) (by simp [initK]) (by simp [initK]) (fun r1 r2 r3 => (r1.append r3).append r2) fun D doc pm an cdv ct us mv ws l1 l2 l3 => ?_
  match us, mv, ws, l1, l2, l3 with
  | [u], [m1, m2, m3, m4], [w1, w2, w3, w4, w5], _, _, _ =>
    refine ⟨_, _, _, _, _, _, rfl, rfl, ?_⟩
    refine ⟨_, _, _, _, _, _, rfl, rfl, ?_⟩
    refine ⟨_, _, _, _, _, _, rfl, rfl, ?_⟩
    refine ⟨_, _, _, _, _, _, rfl, rfl, ?_⟩
    rfl
theorem binds1 {K : PySem.W.Frag} {f : Addr} {fd : FuncData} (F : FI K f fd) : ∃ mv : List Value, KBn K fd ps10 1 ["bound"] (fun us ws => us ++ ws ++ mv) (fun vs zs => vs ++ zs ++ [.ref (ga K "MARKS"), .str "above", .int 1, .int 1, .bl false, .int 0, .bl true, .int 1]) := by
  refine F.kbinds0 1 ["bound"] (initK K) (fun us mv ws => us ++ ws ++ mv) (by simp [initK]) (by simp [initK]) (fun r1 r2 r3 => (r1.append r3).append r2) fun D doc pm an cdv ct us mv ws l1 l2 l3 => ?_
  match us, mv, ws, l1, l2, l3 with
  | [u], [m1, m2, m3, m4, m5, m6, m7, m8], [w1], _, _, _ =>
    refine ⟨_, _, _, _, _, _, rfl, rfl, ?_⟩
    refine ⟨_, _, _, _, _, _, rfl, rfl, ?_⟩
    refine ⟨_, _, _, _, _, _, rfl, rfl, ?_⟩
    refine ⟨_, _, _, _, _, _, rfl, rfl, ?_⟩
    refine ⟨_, _, _, _, _, _, rfl, rfl, ?_⟩
    refine ⟨_, _, _, _, _, _, rfl, rfl, ?_⟩
    refine ⟨_, _, _, _, _, _, rfl, rfl, ?_⟩
    refine ⟨_, _, _, _, _, _, rfl, rfl, ?_⟩
    rfl
theorem binds2 {K : PySem.W.Frag} {f : Addr} {fd : FuncData} (F : FI K f fd) : ∃ mv : List Value, KBn K fd ps10 1 ["bound", "spares"] (fun us ws => us ++ ws.take 1 ++ mv.take 4 ++ ws.drop 1 ++ mv.drop 4) (fun us ws => us ++ ws.take 1 ++ [.ref (ga K "MARKS"), .str "above", .int 1, .int 1] ++ ws.drop 1 ++ [.int 0, .bl true, .int 1]) := by
  refine F.kbinds0 1 ["bound", "spares"] [("looks", .ref (ga K "MARKS")), ("how", .str "above"), ("day", .int 1), ("grain", .int 1), ("late", .int 0), ("again", .bl true), ("period", .int 1)] (fun us mv ws => us ++ ws.take 1 ++ mv.take 4 ++ ws.drop 1 ++ mv.drop 4) (by simp [initK]) (by simp [initK])
    (fun r1 r2 r3 => (((r1.append (vals_take 1 r3)).append (vals_take 4 r2)).append (vals_drop 1 r3)).append (vals_drop 4 r2)) fun D doc pm an cdv ct us mv ws l1 l2 l3 => ?_
  match us, mv, ws, l1, l2, l3 with
  | [u], [m1, m2, m3, m4, m5, m6, m7], [w1, w2], _, _, _ =>
    refine ⟨_, _, _, _, _, _, rfl, rfl, ?_⟩
    refine ⟨_, _, _, _, _, _, rfl, rfl, ?_⟩
    refine ⟨_, _, _, _, _, _, rfl, rfl, ?_⟩
    refine ⟨_, _, _, _, _, _, rfl, rfl, ?_⟩
    refine ⟨_, _, _, _, _, _, rfl, rfl, ?_⟩
    refine ⟨_, _, _, _, _, _, rfl, rfl, ?_⟩
    refine ⟨_, _, _, _, _, _, rfl, rfl, ?_⟩
    rfl
theorem binds4 {K : PySem.W.Frag} {f : Addr} {fd : FuncData} (F : FI K f fd) : ∃ mv : List Value, KBn K fd ps10 1 ["bound", "looks", "late", "again"] (fun us ws => us ++ ws.take 2 ++ mv.take 4 ++ ws.drop 2 ++ mv.drop 4) (fun us ws => us ++ ws.take 2 ++ [.str "above", .int 1, .int 1, .bl false] ++ ws.drop 2 ++ [.int 1]) := by
  refine F.kbinds0 1 ["bound", "looks", "late", "again"] [("how", .str "above"), ("day", .int 1), ("grain", .int 1), ("spares", .bl false), ("period", .int 1)] (fun us mv ws => us ++ ws.take 2 ++ mv.take 4 ++ ws.drop 2 ++ mv.drop 4) (by simp [initK]) (by simp [initK])
    (fun r1 r2 r3 => (((r1.append (vals_take 2 r3)).append (vals_take 4 r2)).append (vals_drop 2 r3)).append (vals_drop 4 r2)) fun D doc pm an cdv ct us mv ws l1 l2 l3 => ?_
  match us, mv, ws, l1, l2, l3 with
  | [u], [m1, m2, m3, m4, m5], [w1, w2, w3, w4], _, _, _ =>
    refine ⟨_, _, _, _, _, _, rfl, rfl, ?_⟩
    refine ⟨_, _, _, _, _, _, rfl, rfl, ?_⟩
    refine ⟨_, _, _, _, _, _, rfl, rfl, ?_⟩
    refine ⟨_, _, _, _, _, _, rfl, rfl, ?_⟩
    refine ⟨_, _, _, _, _, _, rfl, rfl, ?_⟩
    rfl
theorem binds9 {K : PySem.W.Frag} {f : Addr} {fd : FuncData} (F : FI K f fd) : ∃ mv : List Value, KBn K fd ps10 1 p9 (fun us ws => us ++ ws) (fun us ws => us ++ ws) := by
  refine F.kbinds0 1 p9 [] (fun us mv ws => us ++ ws) (by simp [initK]) (by simp) (fun r1 r2 r3 => r1.append r3) fun D doc pm an cdv ct us mv ws l1 l2 l3 => ?_
  match us, mv, ws, l1, l2, l3 with
  | [u], [], [w1, w2, w3, w4, w5, w6, w7, w8, w9], _, _, _ => rfl
end
end K1
namespace KF
open PySem PySem.Spec PyProof.Rows L2 AF
open K1
open C8 (pe_gc)
local macro_rules | `(tactic| purse 7003 => fail) => `(tactic| k_dflt (refine Sh.has_ (by assumption) ?_; repeat (first | exact On.here | apply On.next)))
local macro_rules | `(tactic| purse 7004 => fail) => `(tactic| k_dflt (repeat (first | exact On.here | apply On.next)))
local macro_rules | `(tactic| purse 7005 => fail) => `(tactic| (repeat (first | exact Rep.here | apply Rep.next)))
local macro_rules | `(tactic| purse 7006 => fail) => `(tactic| (exact Sh.out (by assumption) (fun b h => by simp [h])))
local macro_rules | `(tactic| purse 7007 => fail) => `(tactic| k_dflt (first | ((with_reducible refine cdivw ?_ ?_) <;> omega) | ((with_reducible show CDiv _ _); constructor <;> omega) | ((with_reducible show CMul _ _); (first | (left; constructor <;> omega) | (right; constructor <;> omega))) | (show (0 : Int) < _; omega)))
local macro_rules | `(tactic| purse 7008 => fail) => `(tactic| first | exact Kd.int _ | exact Kd.bl _ | exact Kd.non | exact Kd.str _ | exact Kd.ins (by (purse 7003 => fail)) | exact Kd.lst (by (purse 7003 => fail)) | exact Kd.tup (by (purse 7003 => fail)))
local macro_rules | `(tactic| purse 7009 => fail) => `(tactic| first | exact DpAll.nil | (apply DpAll.cons; (purse 7010 => fail); (purse 7009 => fail)))
local macro_rules | `(tactic| purse 7010 => fail) => `(tactic| first | exact Dp.int _ | exact Dp.bl _ | exact Dp.non | exact Dp.str _ | (refine dp_int ?_; omega) | (refine dp_bl ?_; simp only [decide_eq_decide]; omega) | (apply dp_lst; (purse 7003 => fail); (purse 7009 => fail)) | (apply dp_tup; (purse 7003 => fail); (purse 7009 => fail)))
local macro_rules | `(tactic| purse 7011 => fail) => `(tactic| first | assumption | omega)
local macro_rules | `(tactic| purse 7001 => fail) => `(tactic| fail "no use")
local macro_rules | `(tactic| purse 7002 => fail) => `(tactic| first
  | (with_reducible refine set_go ?_)
  | (with_reducible refine Step.go ?_)
  | (with_reducible first | refine g_pow10_6 ?_ | refine g_pow10_7 ?_ | refine g_pow10_18 ?_ | refine g_pow10_29 ?_ | refine g_pow10_30 ?_)
  | ((with_reducible refine' g_I ?a0 ?_); (case a0 => (purse 7007 => fail)))
  | ((with_reducible refine' g_ixL ?a0 ?a1 ?_); (case a0 => (purse 7003 => fail)); (case a1 => k_dflt (exact rfl)))
  | ((with_reducible refine' g_kfld ?a0 ?a1 ?a2 ?a3 ?_); (case a0 => (purse 7003 => fail)); (case a1 => k_dflt (assumption)); (case a2 => k_dflt (assumption)); (case a3 => k_dflt (exact rfl)))
  | ((with_reducible refine' g_kprop ?a0 ?_); (case a0 => (purse 7003 => fail)))
  | ((with_reducible refine' g_kmeth ?a0 ?a1 ?_); (case a0 => (purse 7003 => fail)); (case a1 => k_dflt (exact rfl)))
  | ((with_reducible refine' g_own ?a0 ?a1 ?a2 ?_); (case a0 => (purse 7003 => fail)); (case a1 => (purse 7008 => fail)); (case a2 => k_dflt (assumption)))
  | ((with_reducible refine' g_cmp ?a0 ?a1 ?a2 ?_); (case a0 => (purse 7003 => fail)); (case a1 => (purse 7008 => fail)); (case a2 => k_dflt (assumption)))
  | ((with_reducible refine' g_neq ?a0 ?a1 ?a2 ?_); (case a0 => (purse 7003 => fail)); (case a1 => (purse 7008 => fail)); (case a2 => k_dflt (assumption)))
  | ((with_reducible refine' g_right ?a0 ?_); (case a0 => (purse 7003 => fail)))
  | ((with_reducible refine' use_draw ?a0 ?a1 ?a2 ?a3 ?a4 ?_); (case a0 => assumption); (case a1 => intro _ _; (purse 7005 => fail)); (case a2 => assumption); (case a3 => (purse 7011 => fail)); (case a4 => (purse 7011 => fail)); intro _ _ _ _ _ _ _ _)
  | ((with_reducible refine' use_giveI ?a0 ?a1 ?a2 ?_); (case a0 => assumption); (case a1 => intro _ _; (purse 7005 => fail)); (case a2 => assumption); intro _ _ _ _ _ _ _ _)
  | ((with_reducible refine' use_source ?a0 ?a1 ?_); (case a0 => assumption); (case a1 => k_dflt (assumption)); intro _ _ _ _ _ _)
  | (with_reducible refine g_absN ?_; intro _ _)
  | (with_reducible refine g_maxN ?_; intro _ _ _ _)
  | (with_reducible refine g_minN ?_; intro _ _ _ _)
  | ((with_reducible refine' g_kR1 ?a0 ?a1 ?_); (case a0 => omega); (case a1 => omega))
  | ((with_reducible refine' g_neD ?a0 ?a1 ?a2 ?_); (case a0 => (purse 7010 => fail)); (case a1 => (purse 7010 => fail)); (case a2 => k_dflt (rfl)))
  | ((with_reducible refine' g_eqD ?a0 ?a1 ?a2 ?_); (case a0 => (purse 7010 => fail)); (case a1 => (purse 7010 => fail)); (case a2 => k_dflt (rfl)))
  | ((with_reducible refine' g_klst ?a0 ?a1 ?_); (case a0 => assumption); (case a1 => k_dflt (exact rfl)); intro _ _ _ _)
  | ((with_reducible refine' g_ktup ?a0 ?a1 ?_); (case a0 => assumption); (case a1 => k_dflt (exact rfl)); intro _ _ _ _)
  | ((with_reducible refine' g_setL ?a0 ?a1 ?a2 ?_); (case a0 => assumption); (case a1 => (purse 7005 => fail)); (case a2 => k_dflt (exact rfl)); intro _ _)
  | ((with_reducible refine' g_unl3 ?a0 ?_); (case a0 => (purse 7003 => fail)))
  | (purse 7001 => fail))
local macro_rules | `(tactic| purse 7012 => fail) => `(tactic| ((try (with_reducible refine start_go ?_)); repeat (purse 7002 => fail)))
local macro_rules | `(tactic| purse 7013 => fail) => `(tactic| first | rfl | (refine decide_eq_true ?_; omega) | (simp only [Bool.not_eq_true', Bool.not_eq_false', decide_eq_false_iff_not, decide_eq_true_eq, Bool.not_not, decide_eq_decide]; done) | (simp only [Bool.not_eq_true', Bool.not_eq_false', decide_eq_false_iff_not, decide_eq_true_eq, Bool.not_not, decide_eq_decide]; omega))
local macro_rules | `(tactic| purse 7014 => fail) => `(tactic| first | rfl | (refine decide_eq_false ?_; omega) | (simp only [Bool.not_eq_true', Bool.not_eq_false', decide_eq_false_iff_not, decide_eq_true_eq, Bool.not_not, decide_eq_decide]; done) | (simp only [Bool.not_eq_true', Bool.not_eq_false', decide_eq_false_iff_not, decide_eq_true_eq, Bool.not_not, decide_eq_decide]; omega))
local macro_rules | `(tactic| purse 7015 => fail) => `(tactic| ((refine g_yes ?h ?_); (case h => (purse 7013 => fail))))
local macro_rules | `(tactic| purse 7016 => fail) => `(tactic| ((refine g_no ?h ?_); (case h => (purse 7014 => fail))))
local macro_rules | `(tactic| purse 7017 => fail) => `(tactic| first | (purse 7015 => fail) | (purse 7016 => fail))
local macro_rules | `(tactic| purse 7018 => fail) => `(tactic| repeat ((purse 7012 => fail); (purse 7017 => fail)))
local macro_rules | `(tactic| purse 7019 => fail) => `(tactic| repeat (first | exact intIn_nil | refine intIn_cons (by omega) (by omega) ?_))
local macro_rules | `(tactic| purse 7020 => fail) => `(tactic| (simp only [List.length_cons, List.length_nil]; omega))
local macro_rules | `(tactic| purse 7021 => fail) => `(tactic| (refine g_two (fun c => ?_) (fun c => ?_) <;> first | (have c := of_decide_eq_true c) | (have c := of_decide_eq_false c) | skip))
local macro_rules | `(tactic| purse 7022 => fail) => `(tactic| ((purse 7018 => fail); (purse 7012 => fail); try ((purse 7021 => fail) <;> (purse 7022 => fail))))

/-! moments: what the class's text and its helpers promise -/
open He in
structure TM (K : PySem.W.Frag) (mg : Str → Option Value) : Prop where
  g_Moment : mg "Moment" = some (.ref (ga K "Moment"))
  g_is_whole : mg "is_whole" = some (.ref (ga K "is_whole"))
  g_is_moment : mg "is_moment" = some (.ref (ga K "is_moment"))
  g_number_of : mg "number_of" = some (.ref (ga K "number_of"))
  z_isinstance : mg "isinstance" = none
  z_int : mg "int" = none
  z_bool : mg "bool" = none
  cl : Cls K (ga K "Moment")
  nN : NoAttr K (ga K "Moment") "number"
  ic : C8.InsC K (ga K "Moment")
  ki : PySem.W.kitOne K (.type "int") (.ref (ga K "Moment")) = some false
  ba : Bin K .Add (ga K "Moment") (ma K (ga K "Moment") "__add__")
  bi : Beside K .Add (ga K "Moment") (.type "int")
def mo (n : Int) : List (Str × V) := [("number", .int n)]
def spWhole : Sp := fun vs H Q _ => ∃ n : Int, vs = [.int n] ∧ Q (.bl true) H
def spIsMo : Sp := fun vs H Q _ => ∃ n : Int, vs = [.int n] ∧ -1000000000000000000000000000000 ≤ n ∧ n ≤ 1000000000000000000000000000000 ∧ Q (.bl true) H
def spInit (C : Addr) : Sp := fun vs H Q _ => ∃ (p dx : Addr) (n : Int), vs = [.ref p, .int n] ∧ H p = some (.ins C dx []) ∧ -1000000000000000000000000000000 ≤ n ∧ n ≤ 1000000000000000000000000000000 ∧ ∀ H', Ch [p] H H' → H' p = some (.ins C dx (mo n)) → Q .non H'
def spSec (C : Addr) : Sp := fun vs H Q _ => ∃ (a dx : Addr) (n : Int), vs = [.ref a] ∧ H a = some (.ins C dx (mo n)) ∧ Q (.int n) H
def spSeen (C : Addr) : Sp := fun vs H Q _ => ∃ (a dx : Addr) (n g : Int), vs = [.ref a, .int g] ∧ H a = some (.ins C dx (mo n)) ∧ 1 ≤ g ∧ g ≤ 1000000 ∧ -1000000000000000000000000000000 ≤ n / g * g ∧ n / g * g ≤ 1000000000000000000000000000000 ∧ New C (mo (n / g * g)) H Q
def spPlus (C : Addr) (f : Int → Int → Int) : Sp := fun vs H Q _ => ∃ (a dx : Addr) (n k : Int), vs = [.ref a, .int k] ∧ H a = some (.ins C dx (mo n)) ∧ -1000000000000000000000000000000 ≤ f n k ∧ f n k ≤ 1000000000000000000000000000000 ∧ New C (mo (f n k)) H Q
def spSub (C : Addr) : Sp := fun vs H Q E => (∃ (a dx b dy : Addr) (n m : Int), vs = [.ref a, .ref b] ∧ H a = some (.ins C dx (mo n)) ∧ H b = some (.ins C dy (mo m)) ∧ Q (.int (n - m)) H) ∨ spPlus C (fun n k => n - k) vs H Q E
def spCmp (C : Addr) (f : Int → Int → Bool) : Sp := fun vs H Q _ => ∃ (a dx b dy : Addr) (n m : Int), vs = [.ref a, .ref b] ∧ H a = some (.ins C dx (mo n)) ∧ H b = some (.ins C dy (mo m)) ∧ Q (.bl (f n m)) H
def spEqM (C : Addr) : Sp := fun vs H Q E => spCmp C (fun n m => decide (n = m)) vs H Q E ∨ ∃ (a dx : Addr) (n m : Int), vs = [.ref a, .int m] ∧ H a = some (.ins C dx (mo n)) ∧ Q (.bl false) H
def spNum (C : Addr) : Sp := fun vs H Q _ => ∃ (b dy : Addr) (m : Int), vs = [.ref b] ∧ H b = some (.ins C dy (mo m)) ∧ Q (.int m) H
section
open He
variable {P : Program} {w : World} {K : PySem.W.Frag} {mg : Str → Option Value} {base : Heap} {f : Addr} {fd : FuncData}
abbrev FnP (K : PySem.W.Frag) (x q : Str) (st : Stmt) (f : Addr) (fd : FuncData) : Prop := FunD K x q (defArgs st) (defBody st) (defScope st) [] [] f fd
theorem ty_mo {H : Hp} {a dx : Addr} {fs : List (Str × V)} (T : TM K mg) (h : H a = some (.ins (ga K "Moment") dx fs)) : TyX K H (.ref a) (.ref (ga K "Moment")) := .base (.ins h T.ic.cl T.ic.ha T.ic.hn T.ic.htk T.ic.hm)
theorem ok_whole (F : FnP K "is_whole" "is_whole" s_is_whole f fd) (T : TM K mg) : FnOk P w K mg base (L2.CX P w) 2 f fd ["value"] spWhole := by
  refine F.ok c_is_whole (fun vs H Q E h => ?_) (fun cdv A outer s H vs Q E hr h => ⟨_, pss_one (ps_ret (pe_and (pe_callB call_isi (by rfl) T.z_isinstance (by decide +kernel) (pa_cons (pv 0) (pa_cons (pe_bltn (v := .ty "int") rfl T.z_int (by decide +kernel) rfl) (pa_nil)))) (pe_one (pe_not (pe_callB call_isi (by rfl) T.z_isinstance (by decide +kernel) (pa_cons (pv 0) (pa_cons (pe_bltn (v := .ty "bool") rfl T.z_bool (by decide +kernel) rfl) (pa_nil)))))))), ?_⟩)
  · obtain ⟨n, rfl, _⟩ := h
    rfl
  · obtain ⟨n, rfl, k⟩ := h
    (purse 7012 => fail)
    refine g_isi (.ty "int") (.base (.int n)) (kit_ty (b := "int") (r := true) (by decide +kernel)) ?_
    (purse 7012 => fail)
    (purse 7015 => fail)
    (purse 7012 => fail)
    refine g_isi (.ty "bool") (.base (.int n)) (kit_ty (b := "bool") (r := false) (by decide +kernel)) ?_
    (purse 7012 => fail)
    exact k
theorem ok_ismo (F : FnP K "is_moment" "is_moment" s_is_moment f fd) (T : TM K mg) (D_is_whole : Dn P w K mg base 2 (ga K "is_whole") ["value"] spWhole) : FnOk P w K mg base (L2.CX P w) 4 f fd ["value"] spIsMo := by
  refine F.ok c_is_moment (fun vs H Q E h => ?_) (fun cdv A outer s H vs Q E hr h => ⟨_, pss_one (ps_ret (pe_and (pe_dn D_is_whole (rm hr) rfl T.g_is_whole (passes_call (takes_of rfl rfl rfl rfl) fun _ _ _ _ h => h) (pa_cons (pv 0) (pa_nil))) (pe_one (pe_chain op_le op_le (pe_un un_neg (pe_op op_pow (pe_int) (pe_int))) (pv 0) (pe_op op_pow (pe_int) (pe_int)))))), ?_⟩)
  · obtain ⟨n, rfl, _⟩ := h
    rfl
  · obtain ⟨n, rfl, h1, h2, k⟩ := h
    (purse 7012 => fail)
    refine ⟨n, rfl, ?_⟩
    (purse 7012 => fail)
    (purse 7015 => fail)
    (purse 7012 => fail)
    (purse 7015 => fail)
    (purse 7012 => fail)
    rw [decide_eq_true h2]
    exact k
theorem ok_init (F : FnP K "__init__" "Moment.__init__" s_Moment___init__ f fd) (T : TM K mg) (D_is_moment : Dn P w K mg base 4 (ga K "is_moment") ["value"] spIsMo) : FnOk P w K mg base (L2.CX P w) 6 f fd ["self", "seconds"] (spInit (ga K "Moment")) := by
  refine F.ok c_Moment___init__ (fun vs H Q E h => ?_) (fun cdv A outer s H vs Q E hr h => ⟨_, pss_cons (ps_if (pt_not (pt_val (pe_dn D_is_moment (rm hr) rfl T.g_is_moment (passes_call (takes_of rfl rfl rfl rfl) fun _ _ _ _ h => h) (pa_cons (pv 1) (pa_nil)))))
      (pss_one (ps_never))
      (pss_nil))
      (pss_one (ps_fld (pv 0) (pv 1) rfl)), ?_⟩)
  · obtain ⟨p, dx, n, rfl, _⟩ := h
    rfl
  · obtain ⟨p, dx, n, rfl, hp, h1, h2, k⟩ := h
    have S : Sh H (fun b => b = p) H [(p, .ins (ga K "Moment") dx [], true)] := Sh.start.take hp rfl (fun _ h => nomatch h)
    (purse 7012 => fail)
    refine ⟨n, rfl, h1, h2, ?_⟩
    (purse 7012 => fail)
    (purse 7016 => fail)
    (purse 7012 => fail)
    refine g_ksfld S (by (purse 7005 => fail)) T.cl T.nN (by decide) fun H' S' => ?_
    refine k H' (by (purse 7006 => fail)) (by (purse 7003 => fail))
theorem g_mkmo {H0 : Hp} {M : Addr → Prop} {H : Hp} {l : List Ent} {C : Addr} {E : XK} {Q : VK} {n : Int} (S : Sh H0 M H l) (h1 : -1000000000000000000000000000000 ≤ n) (h2 : n ≤ 1000000000000000000000000000000)
    (q : ∀ x dx H', Sh H0 M H' ((x, .ins C dx (mo n), true) :: l) → Q (.ref x) H') : kMake C (spInit C) E Q [.int n] H :=
  g_kmake (fs := mo n) S (fun x dx H1 Q' hx k => ⟨x, dx, n, rfl, hx, h1, h2, k⟩) q
section
variable {H0 : Hp} {M : Addr → Prop} {H : Hp} {l : List Ent} {C a b dx dy : Addr} {E : XK} {Q : VK} {n m g k : Int} {fn : Int → Int → Int} {fb : Int → Int → Bool}
theorem end_new {H' : Hp} {x : Addr} {fs : List (Str × V)} (S : Sh H (fun _ => False) H' ((x, .ins C dx fs, true) :: l)) (k : New C fs H Q) : Q (.ref x) H' :=
  k x dx H' ((S.mu _ List.mem_cons_self rfl).elim False.elim id) (S.out fun _ h => h.elim) (S.has_ .here)
theorem use_sec (S : Sh H0 M H l) (o : On l a (.ins C dx (mo n))) (q : Q (.int n) H) : spSec C [.ref a] H Q E := ⟨a, dx, n, rfl, S.has_ o, q⟩
theorem use_seen (S : Sh H0 M H l) (o : On l a (.ins C dx (mo n))) (h1 : 1 ≤ g) (h2 : g ≤ 1000000) (h3 : -1000000000000000000000000000000 ≤ n / g * g) (h4 : n / g * g ≤ 1000000000000000000000000000000)
    (q : ∀ x dx H', Sh H0 M H' ((x, .ins C dx (mo (n / g * g)), true) :: l) → Q (.ref x) H') : spSeen C [.ref a, .int g] H Q E := ⟨a, dx, n, g, rfl, S.has_ o, h1, h2, h3, h4, g_new S q⟩
theorem use_plus (S : Sh H0 M H l) (o : On l a (.ins C dx (mo n))) (h3 : -1000000000000000000000000000000 ≤ fn n k) (h4 : fn n k ≤ 1000000000000000000000000000000)
    (q : ∀ x dx H', Sh H0 M H' ((x, .ins C dx (mo (fn n k)), true) :: l) → Q (.ref x) H') : spPlus C fn [.ref a, .int k] H Q E := ⟨a, dx, n, k, rfl, S.has_ o, h3, h4, g_new S q⟩
theorem use_subI (S : Sh H0 M H l) (o : On l a (.ins C dx (mo n))) (h3 : -1000000000000000000000000000000 ≤ n - k) (h4 : n - k ≤ 1000000000000000000000000000000)
    (q : ∀ x dx H', Sh H0 M H' ((x, .ins C dx (mo (n - k)), true) :: l) → Q (.ref x) H') : spSub C [.ref a, .int k] H Q E := .inr ⟨a, dx, n, k, rfl, S.has_ o, h3, h4, g_new S q⟩
theorem use_subM (S : Sh H0 M H l) (o : On l a (.ins C dx (mo n))) (o2 : On l b (.ins C dy (mo m))) (q : Q (.int (n - m)) H) : spSub C [.ref a, .ref b] H Q E := .inl ⟨a, dx, b, dy, n, m, rfl, S.has_ o, S.has_ o2, q⟩
theorem use_cmp (S : Sh H0 M H l) (o : On l a (.ins C dx (mo n))) (o2 : On l b (.ins C dy (mo m))) (q : Q (.bl (fb n m)) H) : spCmp C fb [.ref a, .ref b] H Q E := ⟨a, dx, b, dy, n, m, rfl, S.has_ o, S.has_ o2, q⟩
theorem use_eqM (S : Sh H0 M H l) (o : On l a (.ins C dx (mo n))) (o2 : On l b (.ins C dy (mo m))) (q : Q (.bl (decide (n = m))) H) : spEqM C [.ref a, .ref b] H Q E := .inl ⟨a, dx, b, dy, n, m, rfl, S.has_ o, S.has_ o2, q⟩
theorem use_eqI (S : Sh H0 M H l) (o : On l a (.ins C dx (mo n))) (q : Q (.bl false) H) : spEqM C [.ref a, .int m] H Q E := .inr ⟨a, dx, n, m, rfl, S.has_ o, q⟩
theorem use_num (S : Sh H0 M H l) (o : On l a (.ins C dx (mo n))) (q : Q (.int n) H) : spNum C [.ref a] H Q E := ⟨a, dx, n, rfl, S.has_ o, q⟩
theorem use_whole (q : Q (.bl true) H) : spWhole [.int n] H Q E := ⟨n, rfl, q⟩
theorem use_ismo (h1 : -1000000000000000000000000000000 ≤ n) (h2 : n ≤ 1000000000000000000000000000000) (q : Q (.bl true) H) : spIsMo [.int n] H Q E := ⟨n, rfl, h1, h2, q⟩
theorem isi_mm {K K' : PySem.W.Frag} {mg : Str → Option Value} {fs : List (Str × V)} (e : K' = K) (T : TM K mg) (S : Sh H0 M H l) (o : On l a (.ins (ga K "Moment") dx fs)) (q : Q (.bl true) H) : rIsi K' [.ref a, .ref (ga K "Moment")] H Q := by
  rw [e]
  exact g_isi (.own _) (ty_mo T (S.has_ o)) T.ic.me q
theorem isi_im {K K' : PySem.W.Frag} {mg : Str → Option Value} (e : K' = K) (T : TM K mg) (q : Q (.bl false) H) : rIsi K' [.int n, .ref (ga K "Moment")] H Q := by
  rw [e]
  exact g_isi (.own _) (.base (.int n)) T.ki q
end
local macro_rules | `(tactic| purse 7001 => fail) => `(tactic| first
  | ((with_reducible refine' use_sec ?a0 ?a1 ?_); (case a0 => assumption); (case a1 => (purse 7004 => fail)))
  | ((with_reducible refine' use_cmp ?a0 ?a1 ?a2 ?_); (case a0 => assumption); (case a1 => (purse 7004 => fail)); (case a2 => (purse 7004 => fail)))
  | ((with_reducible refine' use_eqM ?a0 ?a1 ?a2 ?_); (case a0 => assumption); (case a1 => (purse 7004 => fail)); (case a2 => (purse 7004 => fail)))
  | ((with_reducible refine' use_eqI ?a0 ?a1 ?_); (case a0 => assumption); (case a1 => (purse 7004 => fail)))
  | ((with_reducible refine' use_num ?a0 ?a1 ?_); (case a0 => assumption); (case a1 => (purse 7004 => fail)))
  | (with_reducible refine use_whole ?_)
  | ((with_reducible refine' use_ismo ?a0 ?a1 ?_); (case a0 => (purse 7011 => fail)); (case a1 => (purse 7011 => fail)))
  | ((with_reducible refine' use_subM ?a0 ?a1 ?a2 ?_); (case a0 => assumption); (case a1 => (purse 7004 => fail)); (case a2 => (purse 7004 => fail)))
  | ((with_reducible refine' g_mkmo ?a0 ?a1 ?a2 ?_); (case a0 => assumption); (case a1 => (purse 7011 => fail)); (case a2 => (purse 7011 => fail)); intro _ _ _ _)
  | ((with_reducible refine' use_seen ?a0 ?a1 ?a2 ?a3 ?a4 ?a5 ?_); (case a0 => assumption); (case a1 => (purse 7004 => fail)); (case a2 => (purse 7011 => fail)); (case a3 => (purse 7011 => fail)); (case a4 => (purse 7011 => fail)); (case a5 => (purse 7011 => fail)); intro _ _ _ _)
  | ((with_reducible refine' use_plus ?a0 ?a1 ?a2 ?a3 ?_); (case a0 => assumption); (case a1 => (purse 7004 => fail)); (case a2 => (purse 7011 => fail)); (case a3 => (purse 7011 => fail)); intro _ _ _ _)
  | ((with_reducible refine' use_subI ?a0 ?a1 ?a2 ?a3 ?_); (case a0 => assumption); (case a1 => (purse 7004 => fail)); (case a2 => (purse 7011 => fail)); (case a3 => (purse 7011 => fail)); intro _ _ _ _)
  | ((with_reducible refine' isi_mm ?e ?a0 ?a1 ?a2 ?_); (case e => k_dflt rfl); (case a0 => assumption); (case a1 => assumption); (case a2 => (purse 7004 => fail)))
  | ((with_reducible refine' isi_im ?e ?a0 ?_); (case e => k_dflt rfl); (case a0 => assumption)))
end

/-! deeds: what the helpers promise of a deed -/
open He in
def NowT (K : PySem.W.Frag) (x : Str) (ms : List V) : Prop := ∃ t : Addr, PySem.W.nsIn K (ga K "SET_NOW") x = some (some (.ref t)) ∧ KT K t ms
open He in
def BackT (K : PySem.W.Frag) (x : Str) (ms : List V) : Prop := ∃ t : Addr, PySem.W.nsIn K (ga K "SET_BACK") x = some (some (.ref t)) ∧ KT K t ms
open He in
structure TD (K : PySem.W.Frag) (w : World) (mg : Str → Option Value) : Prop where
  g_is_whole : mg "is_whole" = some (.ref (ga K "is_whole"))
  g_is_time : mg "is_time" = some (.ref (ga K "is_time"))
  g_is_deed : mg "is_deed" = some (.ref (ga K "is_deed"))
  z_isinstance : mg "isinstance" = none
  z_len : mg "len" = none
  z_int : mg "int" = none
  z_bool : mg "bool" = none
  z_tuple : mg "tuple" = none
  z_str : mg "str" = none
  g_makes : mg "makes" = some (.ref (ga K "makes"))
  v_MARKS : ∃ u, mg "MARKS" = some u ∧ RelV (.ref (ga K "MARKS")) u
  marks : KT K (ga K "MARKS") [.str "read", .str "written", .str "changed"]
  n_make : NowT K "make" [.str "read", .str "written", .str "changed"]
  n_read : NowT K "read" []
  n_write : NowT K "write" [.str "written", .str "changed"]
  n_rename : NowT K "rename" [.str "changed"]
  n_touch : NowT K "touch" [.str "read", .str "written", .str "changed"]
  n_unpack : NowT K "unpack" [.str "read", .str "changed"]
  n_setback : NowT K "setback" [.str "changed"]
  b_unpack : BackT K "unpack" [.str "written"]
  b_setback : BackT K "setback" [.str "read", .str "written"]
  v_SET_NOW : ∃ u, mg "SET_NOW" = some u ∧ RelV (.ref (ga K "SET_NOW")) u
  v_SET_BACK : ∃ u, mg "SET_BACK" = some u ∧ RelV (.ref (ga K "SET_BACK")) u
  dn : ∃ es n, KDict K w (ga K "SET_NOW") es n
  db : ∃ es n, KDict K w (ga K "SET_BACK") es n
  now0 : ∀ x ∈ (["make", "read", "write", "rename", "touch"] : List Str), ∃ v, PySem.W.nsIn K (ga K "SET_NOW") x = some (some v)
  now1 : ∀ x ∈ (["unpack", "setback"] : List Str), ∃ v, PySem.W.nsIn K (ga K "SET_NOW") x = some (some v)
  back1 : ∀ x ∈ (["unpack", "setback"] : List Str), ∃ v, PySem.W.nsIn K (ga K "SET_BACK") x = some (some v)
  back0 : ∀ x ∈ (["make", "read", "write", "rename", "touch"] : List Str), PySem.W.nsIn K (ga K "SET_BACK") x = some none
/-- a deed's items -/
inductive Dd : List V → Prop where
  | one {w : Str} (h : w ∈ (["make", "read", "write", "rename", "touch"] : List Str)) : Dd [.str w]
  | two {w : Str} {b : Int} (h : w ∈ (["unpack", "setback"] : List Str)) (h1 : 1 ≤ b) (h2 : b ≤ 1000000000) : Dd [.str w, .int b]
def spTime : Sp := fun vs H Q _ => ∃ n : Int, vs = [.int n] ∧ 1 ≤ n ∧ n ≤ 1000000000 ∧ Q (.bl true) H
def spDeed : Sp := fun vs H Q _ => ∃ (a : Addr) (xs : List V), vs = [.ref a] ∧ H a = some (.tup xs) ∧ Dd xs ∧ ∀ H', Ch [] H H' → Q (.bl true) H'
/-- what a deed sets, and how far back -/
inductive Bk : List V → List (Key × V) → Prop where
  | make : Bk [.str "make"] [(.inr "read", .int 0), (.inr "written", .int 0), (.inr "changed", .int 0)]
  | read : Bk [.str "read"] []
  | write : Bk [.str "write"] [(.inr "written", .int 0), (.inr "changed", .int 0)]
  | rename : Bk [.str "rename"] [(.inr "changed", .int 0)]
  | touch : Bk [.str "touch"] [(.inr "read", .int 0), (.inr "written", .int 0), (.inr "changed", .int 0)]
  | unpack {b : Int} (h1 : 1 ≤ b) (h2 : b ≤ 1000000000) : Bk [.str "unpack", .int b] [(.inr "read", .int 0), (.inr "written", .int b), (.inr "changed", .int 0)]
  | setback {b : Int} (h1 : 1 ≤ b) (h2 : b ≤ 1000000000) : Bk [.str "setback", .int b] [(.inr "read", .int b), (.inr "written", .int b), (.inr "changed", .int 0)]
theorem Bk.dd {xs : List V} {kvs : List (Key × V)} (h : Bk xs kvs) : Dd xs := by
  cases h with
  | make => exact .one (by decide)
  | read => exact .one (by decide)
  | write => exact .one (by decide)
  | rename => exact .one (by decide)
  | touch => exact .one (by decide)
  | unpack h1 h2 => exact .two (by decide) h1 h2
  | setback h1 h2 => exact .two (by decide) h1 h2
def spMakes : Sp := fun vs H Q _ => ∃ (a : Addr) (xs : List V) (kvs : List (Key × V)), vs = [.ref a] ∧ H a = some (.tup xs) ∧ Bk xs kvs ∧ ∀ H', Ch [] H H' → Q (.bl (inV (xs.getD 0 .non) [.str "make", .str "unpack"])) H'
def spBacks : Sp := fun vs H Q _ => ∃ (a : Addr) (xs : List V) (kvs : List (Key × V)), vs = [.ref a] ∧ H a = some (.tup xs) ∧ Bk xs kvs ∧ ∀ p H', H p = none → Ch [] H H' → H' p = some (.dK kvs) → Q (.ref p) H'
section
open He
variable {P : Program} {w : World} {K : PySem.W.Frag} {mg : Str → Option Value} {base : Heap} {f : Addr} {fd : FuncData}
theorem use_time {n : Int} {H : Hp} {Q : VK} {E : XK} (h1 : 1 ≤ n) (h2 : n ≤ 1000000000) (q : Q (.bl true) H) : spTime [.int n] H Q E := ⟨n, rfl, h1, h2, q⟩
local macro_rules | `(tactic| purse 7001 => fail) => `(tactic| first
  | (with_reducible refine use_whole ?_)
  | ((with_reducible refine' use_time ?a0 ?a1 ?_); (case a0 => (purse 7011 => fail)); (case a1 => (purse 7011 => fail))))
theorem ok_time (F : FnP K "is_time" "is_time" s_is_time f fd) (T : TD K w mg) (D_is_whole : Dn P w K mg base 2 (ga K "is_whole") ["value"] spWhole) : FnOk P w K mg base (L2.CX P w) 4 f fd ["value"] spTime := by
  refine F.ok c_is_time (fun vs H Q E h => ?_) (fun cdv A outer s H vs Q E hr h => ⟨_, pss_one (ps_ret (pe_and (pe_dn D_is_whole (rm hr) rfl T.g_is_whole (passes_call (takes_of rfl rfl rfl rfl) fun _ _ _ _ h => h) (pa_cons (pv 0) (pa_nil))) (pe_one (pe_chain op_le op_le (pe_int) (pv 0) (pe_op op_pow (pe_int) (pe_int)))))), ?_⟩)
  · obtain ⟨n, rfl, _⟩ := h
    rfl
  · obtain ⟨n, rfl, h1, h2, k⟩ := h
    (purse 7012 => fail)
    (purse 7015 => fail)
    (purse 7012 => fail)
    (purse 7015 => fail)
    (purse 7012 => fail)
    refine g_pow10_9 ?_
    (purse 7012 => fail)
    rw [decide_eq_true h2]
    exact k
theorem ok_deed (F : FnP K "is_deed" "is_deed" s_is_deed f fd) (T : TD K w mg) (D_is_time : Dn P w K mg base 4 (ga K "is_time") ["value"] spTime) : FnOk P w K mg base (L2.CX P w) 6 f fd ["value"] spDeed := by
  refine F.ok c_is_deed (fun vs H Q E h => ?_) (fun cdv A outer s H vs Q E hr h => ⟨_, pss_cons (ps_if (PW.pt (pw_or (pt_not (pt_val (pe_callB call_isi (by rfl) T.z_isinstance (by decide +kernel) (pa_cons (pv 0) (pa_cons (pe_bltn (v := .ty "tuple") rfl T.z_tuple (by decide +kernel) rfl) (pa_nil)))))) (pw_or1 (pt_cmpR op_notIn_seq (pe_callB cl_len (by rfl) T.z_len (by decide +kernel) (pa_cons (pv 0) (pa_nil))) (pe_tup (pa_cons (pe_int) (pa_cons (pe_int) (pa_nil)))) (by rfl)))))
      (pss_one (ps_ret (pe_bl)))
      (pss_nil))
      (pss_cons (ps_set (i := 1) c_is_deed.nd rfl (Or.inl rfl) (pe_ix ix_tup (pv 0) (pe_int) (fun _ _ => rfl)))
      (pss_cons (ps_if (PW.pt (pw_or (pt_not (pt_val (pe_callB call_isi (by rfl) T.z_isinstance (by decide +kernel) (pa_cons (pv 1) (pa_cons (pe_bltn (v := .ty "str") rfl T.z_str (by decide +kernel) rfl) (pa_nil)))))) (pw_or1 (pt_cmpR (op_notInK T.dn) (pv 1) (pe_gc rfl T.v_SET_NOW) (by rfl)))))
      (pss_one (ps_ret (pe_bl)))
      (pss_nil))
      (pss_cons (ps_if (pt_cmpR (op_inK T.db) (pv 1) (pe_gc rfl T.v_SET_BACK) (by rfl))
      (pss_one (ps_ret (pe_and (pe_cmpR op_eq (pe_callB cl_len (by rfl) T.z_len (by decide +kernel) (pa_cons (pv 0) (pa_nil))) (pe_int) (nomark _)) (pe_one (pe_dn D_is_time (rm hr) rfl T.g_is_time (passes_call (takes_of rfl rfl rfl rfl) fun _ _ _ _ h => h) (pa_cons (pe_ix ix_tup (pv 0) (pe_int) (fun _ _ => rfl)) (pa_nil)))))))
      (pss_nil))
      (pss_one (ps_ret (pe_cmpR op_eq (pe_callB cl_len (by rfl) T.z_len (by decide +kernel) (pa_cons (pv 0) (pa_nil))) (pe_int) (nomark _))))))), ?_⟩)
  · obtain ⟨a, xs, rfl, _⟩ := h
    rfl
  · obtain ⟨a, xs, rfl, ha, hd, k⟩ := h
    have S : Sh H (fun _ => False) H [(a, .tup xs, false)] := Sh.start.know ha (fun _ h => nomatch h)
    (purse 7012 => fail)
    refine g_isi (.ty "tuple") (.base (.tup ha)) (kit_ty (b := "tuple") (r := true) (by decide +kernel)) ?_
    (purse 7012 => fail)
    (purse 7016 => fail)
    (purse 7012 => fail)
    refine g_lenT (SqT.of ha) ?_
    (purse 7012 => fail)
    refine g_ninT (r := true) (by (purse 7003 => fail)) rfl rfl (by cases hd <;> rfl) ?_
    (purse 7012 => fail)
    (purse 7016 => fail)
    (purse 7012 => fail)
    cases hd with
    | one hw =>
      refine g_ixT (by (purse 7003 => fail)) rfl ?_
      (purse 7012 => fail)
      refine g_isi (.ty "str") (.base (.str _)) (kit_ty (b := "str") (r := true) (by decide +kernel)) ?_
      (purse 7012 => fail)
      (purse 7016 => fail)
      (purse 7012 => fail)
      obtain ⟨v, hv⟩ := T.now0 _ hw
      refine g_ninK hv ?_
      (purse 7012 => fail)
      (purse 7016 => fail)
      (purse 7012 => fail)
      refine g_inK (T.back0 _ hw) ?_
      (purse 7012 => fail)
      (purse 7016 => fail)
      (purse 7012 => fail)
      refine g_lenT (SqT.of (by (purse 7003 => fail))) ?_
      (purse 7012 => fail)
      exact k _ (by (purse 7006 => fail))
    | two hw h1 h2 =>
      refine g_ixT (by (purse 7003 => fail)) rfl ?_
      (purse 7012 => fail)
      refine g_isi (.ty "str") (.base (.str _)) (kit_ty (b := "str") (r := true) (by decide +kernel)) ?_
      (purse 7012 => fail)
      (purse 7016 => fail)
      (purse 7012 => fail)
      obtain ⟨v, hv⟩ := T.now1 _ hw
      refine g_ninK hv ?_
      (purse 7012 => fail)
      (purse 7016 => fail)
      (purse 7012 => fail)
      obtain ⟨v2, hv2⟩ := T.back1 _ hw
      refine g_inK hv2 ?_
      (purse 7012 => fail)
      (purse 7015 => fail)
      (purse 7012 => fail)
      refine g_lenT (SqT.of (by (purse 7003 => fail))) ?_
      (purse 7012 => fail)
      (purse 7015 => fail)
      (purse 7012 => fail)
      refine g_ixT (by (purse 7003 => fail)) rfl ?_
      (purse 7012 => fail)
      exact k _ (by (purse 7006 => fail))
theorem use_deed {H0 H : Hp} {M : Addr → Prop} {l : List Ent} {a : Addr} {xs : List V} {Q : VK} {E : XK} (S : Sh H0 M H l) (o : On l a (.tup xs)) (hd : Dd xs) (q : ∀ H', Sh H0 M H' l → Q (.bl true) H') : spDeed [.ref a] H Q E :=
  ⟨a, xs, rfl, S.has_ o, hd, fun H' c => q H' (S.ch0 c)⟩
theorem ok_makes (F : FnP K "makes" "makes" s_makes f fd) (T : TD K w mg) (D_is_deed : Dn P w K mg base 6 (ga K "is_deed") ["value"] spDeed) : FnOk P w K mg base (L2.CX P w) 8 f fd ["value"] spMakes := by
  refine F.ok c_makes (fun vs H Q E h => ?_) (fun cdv A outer s H vs Q E hr h => ⟨_, pss_one (ps_ret (pe_and (pe_dn D_is_deed (rm hr) rfl T.g_is_deed (passes_call (takes_of rfl rfl rfl rfl) fun _ _ _ _ h => h) (pa_cons (pv 0) (pa_nil))) (pe_one (pe_cmpR op_in_seq (pe_ix ix_tup (pv 0) (pe_int) (fun _ _ => rfl)) (pe_tup (pa_cons (pe_str) (pa_cons (pe_str) (pa_nil)))) (by rfl))))), ?_⟩)
  · obtain ⟨a, xs, kvs, rfl, _⟩ := h
    rfl
  · obtain ⟨a, xs, kvs, rfl, ha, hd, k⟩ := h
    have S : Sh H (fun _ => False) H [(a, .tup xs, false)] := Sh.start.know ha (fun _ h => nomatch h)
    (purse 7012 => fail)
    refine use_deed S (by (purse 7004 => fail)) hd.dd fun H' S' => ?_
    (purse 7012 => fail)
    (purse 7015 => fail)
    (purse 7012 => fail)
    cases hd <;> (refine g_ixT (by (purse 7003 => fail)) rfl ?_; (purse 7012 => fail); refine g_inT (by (purse 7003 => fail)) rfl rfl rfl ?_; exact k _ (by (purse 7006 => fail)))
theorem end_dK {H H' : Hp} {l : List Ent} {Q : VK} {p : Addr} {kvs : List (Key × V)} (S : Sh H (fun _ => False) H' l) (m : (p, .dK kvs, true) ∈ l) (k : ∀ p H', H p = none → Ch [] H H' → H' p = some (.dK kvs) → Q (.ref p) H') : Q (.ref p) H' :=
  k p H' ((S.mu _ m rfl).elim False.elim id) (S.out fun _ h => h.elim) (S.has _ m)
local macro_rules | `(tactic| purse 7023 => fail) => `(tactic| (repeat (first | exact List.mem_cons_self | apply List.mem_cons_of_mem)))
local macro_rules | `(tactic| purse 7024 => fail) => `(tactic| ((purse 7012 => fail); refine g_ixKr (TD.dn (by assumption)) (by assumption) ?_; (purse 7012 => fail); refine g_inKT (by assumption) rfl rfl rfl ?_; (purse 7012 => fail)))
local macro_rules | `(tactic| purse 7025 => fail) => `(tactic| ((purse 7015 => fail); (purse 7012 => fail); refine g_setD (by assumption) (by (purse 7005 => fail)) rfl rfl ?_; intro _ _; (purse 7012 => fail)))
local macro_rules | `(tactic| purse 7026 => fail) => `(tactic| ((purse 7016 => fail); (purse 7012 => fail); (first | refine g_kgR (by assumption) ?_ | refine g_kg0 (by assumption) ?_); (purse 7012 => fail); (first | refine g_inKT (by assumption) rfl rfl rfl ?_ | refine g_inT (by (purse 7003 => fail)) rfl rfl rfl ?_); (purse 7012 => fail)))
local macro_rules | `(tactic| purse 7027 => fail) => `(tactic| ((purse 7016 => fail); (purse 7012 => fail)))
local macro_rules | `(tactic| purse 7028 => fail) => `(tactic| ((purse 7015 => fail); (purse 7012 => fail); refine g_ixT (by (purse 7003 => fail)) rfl ?_; (purse 7012 => fail); refine g_setD (by assumption) (by (purse 7005 => fail)) rfl rfl ?_; intro _ _; (purse 7012 => fail)))
local macro_rules | `(tactic| purse 7029 => fail) => `(tactic| ((purse 7024 => fail); first | (purse 7025 => fail) | ((purse 7026 => fail); first | (purse 7027 => fail) | (purse 7028 => fail))))
local macro_rules | `(tactic| purse 7030 => fail) => `(tactic| (refine g_ixT (by (purse 7003 => fail)) rfl ?_; (purse 7012 => fail); refine g_dnew (by assumption) ?_; intro p _ _ _; (purse 7012 => fail); refine g_turn (TD.marks (by assumption)) ?_; (purse 7029 => fail); (purse 7029 => fail); (purse 7029 => fail); refine end_dK (by assumption) (by (purse 7023 => fail)) (by assumption)))
theorem ok_backs (F : FnP K "backs" "backs" s_backs f fd) (T : TD K w mg) (D_is_deed : Dn P w K mg base 6 (ga K "is_deed") ["value"] spDeed) : FnOk P w K mg base (L2.CX P w) 8 f fd ["deed"] spBacks := by
  refine F.ok c_backs (fun vs H Q E h => ?_) (fun cdv A outer s H vs Q E hr h => ⟨_, pss_cons (ps_if (pt_not (pt_val (pe_dn D_is_deed (rm hr) rfl T.g_is_deed (passes_call (takes_of rfl rfl rfl rfl) fun _ _ _ _ h => h) (pa_cons (pv 0) (pa_nil)))))
      (pss_one (ps_never))
      (pss_nil))
      (pss_cons (ps_set (i := 1) c_backs.nd rfl (Or.inl rfl) (pe_ix ix_tup (pv 0) (pe_int) (fun _ _ => rfl)))
      (pss_cons (ps_set (i := 2) c_backs.nd rfl (Or.inl rfl) (pe_dnewK))
      (pss_cons (ps_for (passes_of rfl) rfl (pi_tup (pe_gc rfl T.v_MARKS)) (pg_name (i := 3) c_backs.nd rfl (Or.inl rfl))
      (pss_one (ps_if (pt_cmpR op_in_seq (pv 3) (pe_ix ix_kdict (pe_gc rfl T.v_SET_NOW) (pv 1) (fun _ _ => rfl)) (by rfl))
      (pss_one (ps_asg (pe_int) (pg_sub (pv 2) (pv 3) (set_dict (hu_of hr)))))
      (pss_one (ps_if (pt_cmpR op_in_seq (pv 3) (pe_kget T.db ((pe_gc rfl T.v_SET_BACK)) ((pv 1)) ((pe_tup (pa_nil))) ⟨rfl, rfl, rfl, rfl⟩) (by rfl))
      (pss_one (ps_asg (pe_ix ix_tup (pv 0) (pe_int) (fun _ _ => rfl)) (pg_sub (pv 2) (pv 3) (set_dict (hu_of hr)))))
      (pss_nil))))))
      (pss_one (ps_ret (pv 2)))))), ?_⟩)
  · obtain ⟨a, xs, kvs, rfl, _⟩ := h
    rfl
  · obtain ⟨a, xs, kvs, rfl, ha, hd, k⟩ := h
    have S : Sh H (fun _ => False) H [(a, .tup xs, false)] := Sh.start.know ha (fun _ h => nomatch h)
    (purse 7012 => fail)
    refine use_deed S (by (purse 7004 => fail)) hd.dd fun H' S' => ?_
    (purse 7012 => fail)
    (purse 7016 => fail)
    (purse 7012 => fail)
    have hu : True := trivial
    cases hd with
    | make =>
      obtain ⟨t, e, kt⟩ := T.n_make
      have hb := T.back0 "make" (by decide)
      (purse 7030 => fail)
    | read =>
      obtain ⟨t, e, kt⟩ := T.n_read
      have hb := T.back0 "read" (by decide)
      (purse 7030 => fail)
    | write =>
      obtain ⟨t, e, kt⟩ := T.n_write
      have hb := T.back0 "write" (by decide)
      (purse 7030 => fail)
    | rename =>
      obtain ⟨t, e, kt⟩ := T.n_rename
      have hb := T.back0 "rename" (by decide)
      (purse 7030 => fail)
    | touch =>
      obtain ⟨t, e, kt⟩ := T.n_touch
      have hb := T.back0 "touch" (by decide)
      (purse 7030 => fail)
    | unpack h1 h2 =>
      obtain ⟨t, e, kt⟩ := T.n_unpack
      obtain ⟨t2, hb, kb⟩ := T.b_unpack
      (purse 7030 => fail)
    | setback h1 h2 =>
      obtain ⟨t, e, kt⟩ := T.n_setback
      obtain ⟨t2, hb, kb⟩ := T.b_setback
      (purse 7030 => fail)
end

/-! rules -/
open He in
structure TR (K : PySem.W.Frag) (w : World) (mg : Str → Option Value) : Prop where
  g_Rule : mg "Rule" = some (.ref (ga K "Rule"))
  g_is_whole : mg "is_whole" = some (.ref (ga K "is_whole"))
  cl : Cls K (ga K "Rule")
  nC : NoAttr K (ga K "Rule") "chosen"
  nW : NoAttr K (ga K "Rule") "wait"
def ru (w : Str) (v : V) : List (Str × V) := [("chosen", .str w), ("wait", v)]
def spRInit (C : Addr) : Sp := fun vs H Q _ => ∃ (p dx : Addr) (w : Str) (v : V), vs = [.ref p, .str w, v] ∧ H p = some (.ins C dx []) ∧ ∀ H', Ch [p] H H' → H' p = some (.ins C dx (ru w v)) → Q .non H'
def spRule0 (C : Addr) (w : Str) : Sp := fun vs H Q _ => vs = [] ∧ New C (ru w .non) H Q
def spSeldom (C : Addr) : Sp := fun vs H Q _ => ∃ n : Int, vs = [.int n] ∧ 1 ≤ n ∧ n ≤ 2000 ∧ New C (ru "seldom" (.int n)) H Q
section
open He
variable {P : Program} {w : World} {K : PySem.W.Frag} {mg : Str → Option Value} {base : Heap} {f : Addr} {fd : FuncData}
theorem ok_rinit (F : FnP K "__init__" "Rule.__init__" s_Rule___init__ f fd) (T : TR K w mg) : FnOk P w K mg base (L2.CX P w) 2 f fd ["self", "word", "after"] (spRInit (ga K "Rule")) := by
  refine F.ok c_Rule___init__ (fun vs H Q E h => ?_) (fun cdv A outer s H vs Q E hr h => ⟨_, pss_cons (ps_fld (pv 0) (pv 1) rfl)
      (pss_one (ps_fld (pv 0) (pv 2) rfl)), ?_⟩)
  · obtain ⟨p, dx, wd, v, rfl, _⟩ := h
    rfl
  · obtain ⟨p, dx, wd, v, rfl, hp, k⟩ := h
    have S : Sh H (fun b => b = p) H [(p, .ins (ga K "Rule") dx [], true)] := Sh.start.take hp rfl (fun _ h => nomatch h)
    (purse 7012 => fail)
    refine g_ksfld S (by (purse 7005 => fail)) T.cl T.nC (by decide) fun H1 S1 => ?_
    (purse 7012 => fail)
    refine g_ksfld S1 (by (purse 7005 => fail)) T.cl T.nW (by show 1 < 1000; decide) fun H' S' => ?_
    refine k H' (by (purse 7006 => fail)) (by (purse 7003 => fail))
theorem g_mkru {H0 : Hp} {M : Addr → Prop} {H : Hp} {l : List Ent} {C : Addr} {E : XK} {Q : VK} {wd : Str} {v : V} (S : Sh H0 M H l)
    (q : ∀ x dx H', Sh H0 M H' ((x, .ins C dx (ru wd v), true) :: l) → Q (.ref x) H') : kMake C (spRInit C) E Q [.str wd, v] H :=
  g_kmake (fs := ru wd v) S (fun x dx H1 Q' hx k => ⟨x, dx, wd, v, rfl, hx, k⟩) q
theorem end_newR {H H' : Hp} {l : List Ent} {C x dx : Addr} {fs : List (Str × V)} {Q : VK} (S : Sh H (fun _ => False) H' ((x, .ins C dx fs, true) :: l)) (k : New C fs H Q) : Q (.ref x) H' :=
  k x dx H' ((S.mu _ List.mem_cons_self rfl).elim False.elim id) (S.out fun _ h => h.elim) (S.has_ .here)
theorem ok_always (F : FnP K "always" "Rule.always" s_Rule_always f fd) (T : TR K w mg) (M_Rule : Mn P w K mg base 2 (ga K "Rule") ["self", "word", "after"] (spRInit (ga K "Rule"))) : FnOk P w K mg base (L2.CX P w) 5 f fd [] (spRule0 (ga K "Rule") "always") := by
  refine F.ok c_Rule_always (fun vs H Q E h => ?_) (fun cdv A outer s H vs Q E hr h => ⟨_, pss_one (ps_ret (pe_mn M_Rule (rm hr) rfl T.g_Rule (passes_call (takes_of rfl rfl rfl rfl) fun _ _ _ _ h => h) (pa_cons (pe_str) (pa_cons (pe_non) (pa_nil))))), ?_⟩)
  · obtain ⟨rfl, _⟩ := h
    rfl
  · obtain ⟨rfl, k⟩ := h
    have S : Sh H (fun _ => False) H [] := Sh.start
    (purse 7012 => fail)
    refine g_mkru S fun x dx H' S' => ?_
    exact end_newR S' k
theorem ok_never (F : FnP K "never" "Rule.never" s_Rule_never f fd) (T : TR K w mg) (M_Rule : Mn P w K mg base 2 (ga K "Rule") ["self", "word", "after"] (spRInit (ga K "Rule"))) : FnOk P w K mg base (L2.CX P w) 5 f fd [] (spRule0 (ga K "Rule") "never") := by
  refine F.ok c_Rule_never (fun vs H Q E h => ?_) (fun cdv A outer s H vs Q E hr h => ⟨_, pss_one (ps_ret (pe_mn M_Rule (rm hr) rfl T.g_Rule (passes_call (takes_of rfl rfl rfl rfl) fun _ _ _ _ h => h) (pa_cons (pe_str) (pa_cons (pe_non) (pa_nil))))), ?_⟩)
  · obtain ⟨rfl, _⟩ := h
    rfl
  · obtain ⟨rfl, k⟩ := h
    have S : Sh H (fun _ => False) H [] := Sh.start
    (purse 7012 => fail)
    refine g_mkru S fun x dx H' S' => ?_
    exact end_newR S' k
theorem ok_seldom (F : FnP K "seldom" "Rule.seldom" s_Rule_seldom f fd) (T : TR K w mg) (D_is_whole : Dn P w K mg base 2 (ga K "is_whole") ["value"] spWhole) (M_Rule : Mn P w K mg base 2 (ga K "Rule") ["self", "word", "after"] (spRInit (ga K "Rule"))) :
    FnOk P w K mg base (L2.CX P w) 5 f fd ["after"] (spSeldom (ga K "Rule")) := by
  refine F.ok c_Rule_seldom (fun vs H Q E h => ?_) (fun cdv A outer s H vs Q E hr h => ⟨_, pss_cons (ps_if (PW.pt (pw_or (pt_not (pt_val (pe_dn D_is_whole (rm hr) rfl T.g_is_whole (passes_call (takes_of rfl rfl rfl rfl) fun _ _ _ _ h => h) (pa_cons (pv 0) (pa_nil))))) (pw_or1 (pt_not (pt_chain op_le op_le (pe_int) (pv 0) (pe_int))))))
      (pss_one (ps_never))
      (pss_nil))
      (pss_one (ps_ret (pe_mn M_Rule (rm hr) rfl T.g_Rule (passes_call (takes_of rfl rfl rfl rfl) fun _ _ _ _ h => h) (pa_cons (pe_str) (pa_cons (pv 0) (pa_nil)))))), ?_⟩)
  · obtain ⟨n, rfl, _⟩ := h
    rfl
  · obtain ⟨n, rfl, h1, h2, k⟩ := h
    have S : Sh H (fun _ => False) H [] := Sh.start
    (purse 7012 => fail)
    refine use_whole ?_
    (purse 7018 => fail)
    (purse 7012 => fail)
    refine g_mkru S fun x dx H' S' => ?_
    exact end_newR S' k
end

/-! files and the calls of rules -/
open He in
structure TF (K : PySem.W.Frag) (w : World) (mg : Str → Option Value) : Prop where
  g_File : mg "File" = some (.ref (ga K "File"))
  g_AnyFile : mg "AnyFile" = some (.ref (ga K "AnyFile"))
  g_Moment : mg "Moment" = some (.ref (ga K "Moment"))
  g_is_moment : mg "is_moment" = some (.ref (ga K "is_moment"))
  g_seconds_of : mg "seconds_of" = some (.ref (ga K "seconds_of"))
  z_isinstance : mg "isinstance" = none
  z_dict : mg "dict" = none
  cl : Cls K (ga K "File")
  rcl : Cls K (ga K "Rule")
  nN : NoAttr K (ga K "File") "noted"
  nC : NoAttr K (ga K "Rule") "chosen"
  nW : NoAttr K (ga K "Rule") "wait"
  ic : C8.InsC K (ga K "File")
  kF : PySem.W.kitOne K (.ref (ga K "File")) (.ref (ga K "AnyFile")) = some true
  ki : PySem.W.kitOne K (.type "int") (.ref (ga K "Moment")) = some false
  icM : C8.InsC K (ga K "Moment")
  mnN : NoAttr K (ga K "Moment") "number"
/-- a file's fields -/
def fl (r d : Addr) (m : Int) (h : Bool) : List (Str × V) := [("ruling", .ref r), ("noted", .ref d), ("done_at", .int m), ("holding", .bl h)]
/-- the three marks -/
def mk3 (x y z : Int) : List (Key × V) := [(.inr "read", .int x), (.inr "written", .int y), (.inr "changed", .int z)]
/-- a rule, and what it tells -/
inductive RK where
  | always
  | never
  | seldom (k : Int)
def RK.fs : RK → List (Str × V)
  | always => ru "always" .non
  | never => ru "never" .non
  | seldom k => ru "seldom" (.int k)
def RK.told (x y z n : Int) : RK → Bool
  | always => true
  | never => false
  | seldom k => decide (x ≤ y) || (decide (x ≤ z) || decide (k ≤ n - x))
/-- a moment, as an integer or a Moment -/
inductive At (M : Addr) (H : Hp) : V → Int → Prop where
  | int (n : Int) : At M H (.int n) n
  | mom {p dp : Addr} {n : Int} (h : H p = some (.ins M dp (mo n))) : At M H (.ref p) n
/-- .. by what stands on the list -/
inductive AtL (M : Addr) (l : List Ent) : V → Int → Prop where
  | int (n : Int) : AtL M l (.int n) n
  | mom {p dp : Addr} {n : Int} (h : On l p (.ins M dp (mo n))) : AtL M l (.ref p) n
theorem AtL.at_ {M0 : Addr} {H0 H : Hp} {M : Addr → Prop} {l : List Ent} {v : V} {n : Int} (S : Sh H0 M H l) (a : AtL M0 l v n) : At M0 H v n := by
  cases a with
  | int => exact .int _
  | mom h => exact .mom (S.has_ h)
theorem AtL.next {M0 : Addr} {l : List Ent} {e : Ent} {v : V} {n : Int} (a : AtL M0 l v n) : AtL M0 (e :: l) v n := by
  cases a with
  | int => exact .int _
  | mom h => exact .mom (.next h)
theorem At.out {M0 : Addr} {H0 H : Hp} {M : Addr → Prop} {l : List Ent} {v : V} {n : Int} (S : Sh H0 M H l) (a : At M0 H0 v n) (hn : ∀ q dq, H0 q = some (.ins M0 dq (mo n)) → ¬ M q) : At M0 H v n := by
  cases a with
  | int => exact .int _
  | mom h => exact .mom (S.fr _ _ h (hn _ _ h))
def spSecs (M : Addr) : Sp := fun vs H Q _ => ∃ (v : V) (n : Int), vs = [v] ∧ At M H v n ∧ -1000000000000000000000000000000 ≤ n ∧ n ≤ 1000000000000000000000000000000 ∧ Q (.int n) H
def spMarks (C : Addr) : Sp := fun vs H Q _ => ∃ (a dx r d : Addr) (m : Int) (h : Bool) (kvs : List (Key × V)), vs = [.ref a] ∧ H a = some (.ins C dx (fl r d m h)) ∧ H d = some (.dK kvs) ∧ ∀ p H', H p = none → Ch [] H H' → H' p = some (.dK kvs) → Q (.ref p) H'
def spTold (R C : Addr) : Sp := fun vs H Q _ => ∃ (q dq a dx r d : Addr) (m x y z n : Int) (h : Bool) (k : RK), vs = [.ref q, .ref a, .int n] ∧ H q = some (.ins R dq k.fs) ∧ H a = some (.ins C dx (fl r d m h)) ∧ H d = some (.dK (mk3 x y z)) ∧ q ≠ a ∧
  -1000000000000000000000000000000 ≤ n ∧ n ≤ 1000000000000000000000000000000 ∧ ∀ H', Ch [] H H' → Q (.bl (k.told x y z n)) H'
section
open He
variable {P : Program} {w : World} {K : PySem.W.Frag} {mg : Str → Option Value} {base : Heap} {f : Addr} {fd : FuncData}
theorem ok_secs (F : FnP K "seconds_of" "seconds_of" s_seconds_of f fd) (T : TF K w mg) (D_is_moment : Dn P w K mg base 4 (ga K "is_moment") ["value"] spIsMo) : FnOk P w K mg base (L2.CX P w) 6 f fd ["value"] (spSecs (ga K "Moment")) := by
  refine F.ok c_seconds_of (fun vs H Q E h => ?_) (fun cdv A outer s H vs Q E hr h => ⟨_, pss_cons (ps_if (pt_val (pe_callB call_isi (by rfl) T.z_isinstance (by decide +kernel) (pa_cons (pv 0) (pa_cons (pe_glob (v := .ref _) rfl T.g_Moment rfl) (pa_nil)))))
      (pss_one (ps_ret (pe_fld (pv 0) rfl)))
      (pss_nil))
      (pss_cons (ps_if (pt_not (pt_val (pe_dn D_is_moment (rm hr) rfl T.g_is_moment (passes_call (takes_of rfl rfl rfl rfl) fun _ _ _ _ h => h) (pa_cons (pv 0) (pa_nil)))))
      (pss_one (ps_never))
      (pss_nil))
      (pss_one (ps_ret (pv 0)))), ?_⟩)
  · obtain ⟨v, n, rfl, _⟩ := h
    rfl
  · obtain ⟨v, n, rfl, ha, h1, h2, k⟩ := h
    cases ha with
    | int =>
      (purse 7012 => fail)
      refine g_isi (.own _) (.base (.int n)) T.ki ?_
      (purse 7012 => fail)
      (purse 7016 => fail)
      (purse 7012 => fail)
      refine use_ismo h1 h2 ?_
      (purse 7012 => fail)
      (purse 7016 => fail)
      (purse 7012 => fail)
      exact k
    | mom hp =>
      (purse 7012 => fail)
      refine g_isi (.own _) (.base (.ins hp T.icM.cl T.icM.ha T.icM.hn T.icM.htk T.icM.hm)) T.icM.me ?_
      (purse 7012 => fail)
      (purse 7015 => fail)
      (purse 7012 => fail)
      refine g_kfld (K := K) hp T.icM.cl T.mnN rfl ?_
      exact k
theorem ok_marks (F : FnP K "marks" "File.marks" s_File_marks f fd) (T : TF K w mg) : FnOk P w K mg base (L2.CX P w) 2 f fd ["self"] (spMarks (ga K "File")) := by
  refine F.ok c_File_marks (fun vs H Q E h => ?_) (fun cdv A outer s H vs Q E hr h => ⟨_, pss_one (ps_ret (pe_callTy cl_dictD (by rfl) T.z_dict (by decide +kernel) (pa_cons (pe_fld (pv 0) rfl) (pa_nil)))), ?_⟩)
  · obtain ⟨a, dx, r, d, m, h, kvs, rfl, _⟩ := h
    rfl
  · obtain ⟨a, dx, r, d, m, b, kvs, rfl, ha, hd, k⟩ := h
    have S : Sh H (fun _ => False) H [] := Sh.start
    have t1 := T.cl
    have t2 := T.nN
    (purse 7012 => fail)
    refine g_kfld (K := K) ha T.cl T.nN rfl ?_
    (purse 7012 => fail)
    refine g_dictD S hd fun p H' hp S' => ?_
    exact end_dK S' List.mem_cons_self k
theorem know0 {H0 H : Hp} {M : Addr → Prop} {l : List Ent} {p : Addr} {o : HO} (S : Sh H0 M H l) (h : H p = some o) (e : (l.all fun e => !e.2.2) = true) : Sh H0 M H ((p, o, false) :: l) :=
  S.know h fun x hx ht => by
    have := List.all_eq_true.mp e x hx
    rw [ht] at this
    cases this
theorem g_neS {i j : Str} {r : Bool} {H : Hp} {Q : VK} (e : decide (V.str i = V.str j) = r) (q : Q (.bl (!r)) H) : rNe (.str i) (.str j) H Q := ⟨rfl, by rw [e]; exact q⟩
theorem g_eqS {i j : Str} {r : Bool} {H : Hp} {Q : VK} (e : decide (V.str i = V.str j) = r) (q : Q (.bl r) H) : rEq (.str i) (.str j) H Q := ⟨rfl, by rw [e]; exact q⟩
theorem use_marks {H0 H : Hp} {M : Addr → Prop} {l : List Ent} {C a dx r d : Addr} {m : Int} {h : Bool} {kvs : List (Key × V)} {Q : VK} {E : XK} (S : Sh H0 M H l) (o : On l a (.ins C dx (fl r d m h))) (od : On l d (.dK kvs))
    (q : ∀ p H', H p = none → Sh H0 M H' ((p, .dK kvs, true) :: l) → Q (.ref p) H') : spMarks C [.ref a] H Q E :=
  ⟨a, dx, r, d, m, h, kvs, rfl, S.has_ o, S.has_ od, fun p H' hp c e => q p H' hp (S.add c hp e)⟩
theorem ok_told (F : FnP K "__call__" "Rule.__call__" s_Rule___call__ f fd) (T : TF K w mg) (D_seconds_of : Dn P w K mg base 6 (ga K "seconds_of") ["value"] (spSecs (ga K "Moment"))) (H_marks : Hn P w K mg base 2 (ga K "File") "marks" (spMarks (ga K "File"))) :
    FnOk P w K mg base (L2.CX P w) 8 f fd ["self", "file", "at"] (spTold (ga K "Rule") (ga K "File")) := by
  refine F.ok c_Rule___call__ (fun vs H Q E h => ?_) (fun cdv A outer s H vs Q E hr h => ⟨_, pss_cons (ps_if (pt_not (pt_val (pe_callB call_isi (by rfl) T.z_isinstance (by decide +kernel) (pa_cons (pv 1) (pa_cons (pe_glob (v := .ref _) rfl T.g_AnyFile rfl) (pa_nil))))))
      (pss_one (ps_never))
      (pss_nil))
      (pss_cons (ps_set (i := 3) c_Rule___call__.nd rfl (Or.inl rfl) (pe_dn D_seconds_of (rm hr) rfl T.g_seconds_of (passes_call (takes_of rfl rfl rfl rfl) fun _ _ _ _ h => h) (pa_cons (pv 2) (pa_nil))))
      (pss_cons (ps_if (pt_cmpR op_ne (pe_fld (pv 0) rfl) (pe_str) (nomark _))
      (pss_one (ps_ret (pe_cmpR op_eq (pe_fld (pv 0) rfl) (pe_str) (nomark _))))
      (pss_nil))
      (pss_cons (ps_set (i := 4) c_Rule___call__.nd rfl (Or.inl rfl) (pe_dm0 H_marks (rm hr) (passes_call (takes_of rfl rfl rfl rfl) fun _ _ _ _ h => h) (pv 1)))
      (pss_cons (ps_set (i := 5) c_Rule___call__.nd rfl (Or.inl rfl) (pe_dget (hu_of hr) ((pv 4)) ((pe_str)) (fun _ _ => rfl)))
      (pss_one (ps_ret (pe_or (pe_cmpR op_le (pv 5) (pe_dget (hu_of hr) ((pv 4)) ((pe_str)) (fun _ _ => rfl)) (nomark _)) (pe_or (pe_cmpR op_le (pv 5) (pe_dget (hu_of hr) ((pv 4)) ((pe_str)) (fun _ _ => rfl)) (nomark _)) (pe_one (pe_cmpR op_ge (pe_op op_sub (pv 3) (pv 5)) (pe_fld (pv 0) rfl) (nomark _))))))))))), ?_⟩)
  · obtain ⟨q, dq, a, dx, r, d, m, x, y, z, n, h, k, rfl, _⟩ := h
    rfl
  · obtain ⟨q, dq, a, dx, r, d, m, x, y, z, n, b, k, rfl, hq, ha, hd, hqa, h1, h2, w⟩ := h
    have S : Sh H (fun _ => False) H [(q, .ins (ga K "Rule") dq k.fs, false), (a, .ins (ga K "File") dx (fl r d m b), false), (d, .dK (mk3 x y z), false)] := know0 (know0 (know0 Sh.start hd rfl) ha rfl) hq rfl
    have t1 := T.rcl
    have t2 := T.nC
    have t3 := T.nW
    (purse 7012 => fail)
    refine g_isi (.own _) (.base (.ins ha T.ic.cl T.ic.ha T.ic.hn T.ic.htk T.ic.hm)) T.kF ?_
    (purse 7012 => fail)
    (purse 7016 => fail)
    (purse 7012 => fail)
    refine ⟨_, n, rfl, .int n, h1, h2, ?_⟩
    (purse 7012 => fail)
    cases k with
    | always =>
      refine g_kfld (K := K) hq T.rcl T.nC rfl ?_
      (purse 7012 => fail)
      refine g_neS (r := false) (by decide) ?_
      (purse 7012 => fail)
      (purse 7015 => fail)
      (purse 7012 => fail)
      refine g_eqS (r := true) (by decide) ?_
      exact w H Ch.rfl'
    | never =>
      refine g_kfld (K := K) hq T.rcl T.nC rfl ?_
      (purse 7012 => fail)
      refine g_neS (r := false) (by decide) ?_
      (purse 7012 => fail)
      (purse 7015 => fail)
      (purse 7012 => fail)
      refine g_eqS (r := false) (by decide) ?_
      exact w H Ch.rfl'
    | seldom k =>
      refine g_kfld (K := K) hq T.rcl T.nC rfl ?_
      (purse 7012 => fail)
      refine g_neS (r := true) (by decide) ?_
      (purse 7012 => fail)
      (purse 7016 => fail)
      (purse 7012 => fail)
      refine use_marks S (by (purse 7004 => fail)) (by (purse 7004 => fail)) fun p H' hp S' => ?_
      (purse 7012 => fail)
      refine g_dg (v := .int x) (S'.has_ .here) rfl ?_
      (purse 7012 => fail)
      refine g_dg (v := .int y) (S'.has_ .here) rfl ?_
      (purse 7012 => fail)
      have w1 : Q (.bl (decide (x ≤ y) || (decide (x ≤ z) || decide (k ≤ n - x)))) H' := w H' (S'.out fun _ h => h.elim)
      by_cases c1 : x ≤ y
      · rw [decide_eq_true c1] at w1 ⊢
        exact w1
      · rw [decide_eq_false c1] at w1 ⊢
        (purse 7016 => fail)
        (purse 7012 => fail)
        refine g_dg (v := .int z) (S'.has_ .here) rfl ?_
        (purse 7012 => fail)
        by_cases c2 : x ≤ z
        · rw [decide_eq_true c2] at w1 ⊢
          exact w1
        · rw [decide_eq_false c2] at w1 ⊢
          (purse 7016 => fail)
          (purse 7012 => fail)
          exact w1
end

end KF
namespace KF
open PySem PySem.Spec PyProof.Rows L2 AF
open K1
open C8 (pe_gc)
local macro_rules | `(tactic| purse 7003 => fail) => `(tactic| k_dflt (refine Sh.has_ (by assumption) ?_; repeat (first | exact On.here | apply On.next)))
local macro_rules | `(tactic| purse 7004 => fail) => `(tactic| k_dflt (repeat (first | exact On.here | apply On.next)))
local macro_rules | `(tactic| purse 7005 => fail) => `(tactic| (repeat (first | exact Rep.here | apply Rep.next)))
local macro_rules | `(tactic| purse 7006 => fail) => `(tactic| (exact Sh.out (by assumption) (fun b h => by simp [h])))
local macro_rules | `(tactic| purse 7007 => fail) => `(tactic| k_dflt (first | ((with_reducible refine cdivw ?_ ?_) <;> omega) | ((with_reducible show CDiv _ _); constructor <;> omega) | ((with_reducible show CMul _ _); (first | (left; constructor <;> omega) | (right; constructor <;> omega))) | (show (0 : Int) < _; omega)))
local macro_rules | `(tactic| purse 7008 => fail) => `(tactic| first | exact Kd.int _ | exact Kd.bl _ | exact Kd.non | exact Kd.str _ | exact Kd.ins (by (purse 7003 => fail)) | exact Kd.lst (by (purse 7003 => fail)) | exact Kd.tup (by (purse 7003 => fail)))
local macro_rules | `(tactic| purse 7009 => fail) => `(tactic| first | exact DpAll.nil | (apply DpAll.cons; (purse 7010 => fail); (purse 7009 => fail)))
local macro_rules | `(tactic| purse 7010 => fail) => `(tactic| first | exact Dp.int _ | exact Dp.bl _ | exact Dp.non | exact Dp.str _ | (refine dp_int ?_; omega) | (refine dp_bl ?_; simp only [decide_eq_decide]; omega) | (apply dp_lst; (purse 7003 => fail); (purse 7009 => fail)) | (apply dp_tup; (purse 7003 => fail); (purse 7009 => fail)))
local macro_rules | `(tactic| purse 7011 => fail) => `(tactic| first | assumption | omega)
local macro_rules | `(tactic| purse 7001 => fail) => `(tactic| fail "no use")
local macro_rules | `(tactic| purse 7002 => fail) => `(tactic| first
  | (with_reducible refine set_go ?_)
  | (with_reducible refine Step.go ?_)
  | (with_reducible first | refine g_pow10_6 ?_ | refine g_pow10_7 ?_ | refine g_pow10_18 ?_ | refine g_pow10_29 ?_ | refine g_pow10_30 ?_)
  | ((with_reducible refine' g_I ?a0 ?_); (case a0 => (purse 7007 => fail)))
  | ((with_reducible refine' g_ixL ?a0 ?a1 ?_); (case a0 => (purse 7003 => fail)); (case a1 => k_dflt (exact rfl)))
  | ((with_reducible refine' g_kfld ?a0 ?a1 ?a2 ?a3 ?_); (case a0 => (purse 7003 => fail)); (case a1 => k_dflt (assumption)); (case a2 => k_dflt (assumption)); (case a3 => k_dflt (exact rfl)))
  | ((with_reducible refine' g_kprop ?a0 ?_); (case a0 => (purse 7003 => fail)))
  | ((with_reducible refine' g_kmeth ?a0 ?a1 ?_); (case a0 => (purse 7003 => fail)); (case a1 => k_dflt (exact rfl)))
  | ((with_reducible refine' g_own ?a0 ?a1 ?a2 ?_); (case a0 => (purse 7003 => fail)); (case a1 => (purse 7008 => fail)); (case a2 => k_dflt (assumption)))
  | ((with_reducible refine' g_cmp ?a0 ?a1 ?a2 ?_); (case a0 => (purse 7003 => fail)); (case a1 => (purse 7008 => fail)); (case a2 => k_dflt (assumption)))
  | ((with_reducible refine' g_neq ?a0 ?a1 ?a2 ?_); (case a0 => (purse 7003 => fail)); (case a1 => (purse 7008 => fail)); (case a2 => k_dflt (assumption)))
  | ((with_reducible refine' g_right ?a0 ?_); (case a0 => (purse 7003 => fail)))
  | ((with_reducible refine' use_draw ?a0 ?a1 ?a2 ?a3 ?a4 ?_); (case a0 => assumption); (case a1 => intro _ _; (purse 7005 => fail)); (case a2 => assumption); (case a3 => (purse 7011 => fail)); (case a4 => (purse 7011 => fail)); intro _ _ _ _ _ _ _ _)
  | ((with_reducible refine' use_giveI ?a0 ?a1 ?a2 ?_); (case a0 => assumption); (case a1 => intro _ _; (purse 7005 => fail)); (case a2 => assumption); intro _ _ _ _ _ _ _ _)
  | ((with_reducible refine' use_source ?a0 ?a1 ?_); (case a0 => assumption); (case a1 => k_dflt (assumption)); intro _ _ _ _ _ _)
  | (with_reducible refine g_absN ?_; intro _ _)
  | (with_reducible refine g_maxN ?_; intro _ _ _ _)
  | (with_reducible refine g_minN ?_; intro _ _ _ _)
  | ((with_reducible refine' g_kR1 ?a0 ?a1 ?_); (case a0 => omega); (case a1 => omega))
  | ((with_reducible refine' g_neD ?a0 ?a1 ?a2 ?_); (case a0 => (purse 7010 => fail)); (case a1 => (purse 7010 => fail)); (case a2 => k_dflt (rfl)))
  | ((with_reducible refine' g_eqD ?a0 ?a1 ?a2 ?_); (case a0 => (purse 7010 => fail)); (case a1 => (purse 7010 => fail)); (case a2 => k_dflt (rfl)))
  | ((with_reducible refine' g_klst ?a0 ?a1 ?_); (case a0 => assumption); (case a1 => k_dflt (exact rfl)); intro _ _ _ _)
  | ((with_reducible refine' g_ktup ?a0 ?a1 ?_); (case a0 => assumption); (case a1 => k_dflt (exact rfl)); intro _ _ _ _)
  | ((with_reducible refine' g_setL ?a0 ?a1 ?a2 ?_); (case a0 => assumption); (case a1 => (purse 7005 => fail)); (case a2 => k_dflt (exact rfl)); intro _ _)
  | ((with_reducible refine' g_unl3 ?a0 ?_); (case a0 => (purse 7003 => fail)))
  | (purse 7001 => fail))
local macro_rules | `(tactic| purse 7012 => fail) => `(tactic| ((try (with_reducible refine start_go ?_)); repeat (purse 7002 => fail)))
local macro_rules | `(tactic| purse 7013 => fail) => `(tactic| first | rfl | (refine decide_eq_true ?_; omega) | (simp only [Bool.not_eq_true', Bool.not_eq_false', decide_eq_false_iff_not, decide_eq_true_eq, Bool.not_not, decide_eq_decide]; done) | (simp only [Bool.not_eq_true', Bool.not_eq_false', decide_eq_false_iff_not, decide_eq_true_eq, Bool.not_not, decide_eq_decide]; omega))
local macro_rules | `(tactic| purse 7014 => fail) => `(tactic| first | rfl | (refine decide_eq_false ?_; omega) | (simp only [Bool.not_eq_true', Bool.not_eq_false', decide_eq_false_iff_not, decide_eq_true_eq, Bool.not_not, decide_eq_decide]; done) | (simp only [Bool.not_eq_true', Bool.not_eq_false', decide_eq_false_iff_not, decide_eq_true_eq, Bool.not_not, decide_eq_decide]; omega))
local macro_rules | `(tactic| purse 7015 => fail) => `(tactic| ((refine g_yes ?h ?_); (case h => (purse 7013 => fail))))
local macro_rules | `(tactic| purse 7016 => fail) => `(tactic| ((refine g_no ?h ?_); (case h => (purse 7014 => fail))))
local macro_rules | `(tactic| purse 7017 => fail) => `(tactic| first | (purse 7015 => fail) | (purse 7016 => fail))
local macro_rules | `(tactic| purse 7018 => fail) => `(tactic| repeat ((purse 7012 => fail); (purse 7017 => fail)))
local macro_rules | `(tactic| purse 7019 => fail) => `(tactic| repeat (first | exact intIn_nil | refine intIn_cons (by omega) (by omega) ?_))
local macro_rules | `(tactic| purse 7020 => fail) => `(tactic| (simp only [List.length_cons, List.length_nil]; omega))
local macro_rules | `(tactic| purse 7021 => fail) => `(tactic| (refine g_two (fun c => ?_) (fun c => ?_) <;> first | (have c := of_decide_eq_true c) | (have c := of_decide_eq_false c) | skip))
local macro_rules | `(tactic| purse 7022 => fail) => `(tactic| ((purse 7018 => fail); (purse 7012 => fail); try ((purse 7021 => fail) <;> (purse 7022 => fail))))

/-! files: how they are made, changed and told -/
open He in
structure TF2 (K : PySem.W.Frag) (w : World) (mg : Str → Option Value) : Prop extends TF K w mg, TD K w mg where
  g_Rule : mg "Rule" = some (.ref (ga K "Rule"))
  g_backs : mg "backs" = some (.ref (ga K "backs"))
  z_list : mg "list" = none
  nR : NoAttr K (ga K "File") "ruling"
  nD : NoAttr K (ga K "File") "done_at"
  nH : NoAttr K (ga K "File") "holding"
  ci : CI K (ga K "Rule") (ma K (ga K "Rule") "__call__")
  icR : C8.InsC K (ga K "Rule")
  ceR : Cmp K .Eq (ga K "Rule") (ma K (ga K "Rule") "__eq__")
  nfR : PySem.W.notFirst K (ga K "Rule") (.ref (ga K "Rule")) = true
/-- the marks that a deed which makes leaves -/
inductive Mk3 (n : Int) : List V → Int → Int → Int → Prop where
  | make : Mk3 n [.str "make"] n n n
  | unpack {b : Int} (h1 : 1 ≤ b) (h2 : b ≤ 1000000000) : Mk3 n [.str "unpack", .int b] n (n - b) n
/-- what a deed later leaves, and tells -/
inductive Af (k : RK) (x y z n : Int) : List V → List V → Int → Int → Int → Prop where
  | make : Af k x y z n [.str "make"] [.str "read", .str "written", .str "changed"] n n n
  | touch : Af k x y z n [.str "touch"] [.str "read", .str "written", .str "changed"] n n n
  | write : Af k x y z n [.str "write"] [.str "written", .str "changed"] x n n
  | rename : Af k x y z n [.str "rename"] [.str "changed"] x y n
  | unpack {b : Int} : Af k x y z n [.str "unpack", .int b] [.str "read", .str "written", .str "changed"] n (n - b) n
  | setback {b : Int} : Af k x y z n [.str "setback", .int b] [.str "read", .str "written", .str "changed"] (n - b) (n - b) n
  | read1 (h : k.told x y z n = true) : Af k x y z n [.str "read"] [.str "read"] n y z
  | read0 (h : k.told x y z n = false) : Af k x y z n [.str "read"] [] x y z
/-- the marks that a deed shifts -/
inductive Sf (k : RK) (x y z n : Int) : List V → List (Key × V) → Prop where
  | other {xs : List V} {kvs : List (Key × V)} (h : Bk xs kvs) (hn : xs ≠ [.str "read"]) : Sf k x y z n xs kvs
  | read1 (h : k.told x y z n = true) : Sf k x y z n [.str "read"] [(.inr "read", .int 0)]
  | read0 (h : k.told x y z n = false) : Sf k x y z n [.str "read"] []
def heldBy (xs : List V) (h : Bool) : Bool := if inV (xs.getD 0 .non) [.str "make", .str "unpack"] = true then false else h
def Mo30 (n : Int) : Prop := -1000000000000000000000000000000 ≤ n ∧ n ≤ 1000000000000000000000000000000
def spFInit (R C M : Addr) : Sp := fun vs H Q _ => ∃ (p dx q dq t : Addr) (k : RK) (xs : List V) (v : V) (n x y z : Int), vs = [.ref p, .ref q, .ref t, v] ∧ At M H v n ∧ H p = some (.ins C dx []) ∧ H q = some (.ins R dq k.fs) ∧ H t = some (.tup xs) ∧ Mk3 n xs x y z ∧ Mo30 n ∧
  ∀ nd H', H nd = none → Ch [p] H H' → H' p = some (.ins C dx (fl q nd n false)) → H' nd = some (.dK (mk3 x y z)) → Q .non H'
def spShifts (R C : Addr) : Sp := fun vs H Q _ => ∃ (a dx r dr d t : Addr) (k : RK) (xs : List V) (kvs : List (Key × V)) (m n x y z : Int) (h : Bool), vs = [.ref a, .ref t, .int n] ∧ H a = some (.ins C dx (fl r d m h)) ∧ H r = some (.ins R dr k.fs) ∧ H d = some (.dK (mk3 x y z)) ∧ H t = some (.tup xs) ∧ Bk xs kvs ∧ Mo30 n ∧
  ∀ p kvs' H', H p = none → Ch [] H H' → H' p = some (.dK kvs') → Sf k x y z n xs kvs' → Q (.ref p) H'
def spDo (R C M : Addr) : Sp := fun vs H Q _ => ∃ (a dx r dr d t : Addr) (k : RK) (xs : List V) (kvs : List (Key × V)) (v : V) (m n x y z : Int) (h : Bool), vs = [.ref a, .ref t, v] ∧ At M H v n ∧ H a = some (.ins C dx (fl r d m h)) ∧ H r = some (.ins R dr k.fs) ∧ H d = some (.dK (mk3 x y z)) ∧ H t = some (.tup xs) ∧ Bk xs kvs ∧ Mo30 n ∧ m < n ∧
  ∀ p ps x' y' z' H', H p = none → Ch [a, d] H H' → H' a = some (.ins C dx (fl r d n (heldBy xs h))) → H' d = some (.dK (mk3 x' y' z')) → H' p = some (.lst ps) → Af k x y z n xs ps x' y' z' → Q (.ref p) H'
def spDouble (R C : Addr) : Sp := fun vs H Q _ => ∃ (a dx r dr d : Addr) (k : RK) (m x y z : Int) (h : Bool), vs = [.ref a] ∧ H a = some (.ins C dx (fl r d m h)) ∧ H r = some (.ins R dr k.fs) ∧ H d = some (.dK (mk3 x y z)) ∧ Mo30 m ∧
  ∀ b dy e H', H b = none → H e = none → b ≠ e → Ch [] H H' → H' b = some (.ins C dy (fl r e m h)) → H' e = some (.dK (mk3 x y z)) → Q (.ref b) H'
def spFGet (C M : Addr) : Sp := fun vs H Q _ => ∃ (a dx r d : Addr) (m x y z v : Int) (h : Bool) (s : Str), vs = [.ref a, .str s] ∧ H a = some (.ins C dx (fl r d m h)) ∧ H d = some (.dK (mk3 x y z)) ∧ ((s = "read" ∧ v = x) ∨ (s = "written" ∧ v = y) ∨ (s = "changed" ∧ v = z)) ∧ Mo30 v ∧ New M (mo v) H Q
/-- equal rules -/
def RK.eqb : RK → RK → Bool
  | always, always => true
  | never, never => true
  | seldom a, seldom b => decide (a = b)
  | _, _ => false
theorem RK.eqb_self (k : RK) : RK.eqb k k = true := by cases k <;> simp [RK.eqb]
def e3 (x y z x' y' z' : Int) : Bool := decide (x = x') && (decide (y = y') && (decide (z = z') && true))
def spREq (R : Addr) : Sp := fun vs H Q _ => ∃ (q dq q' dq' : Addr) (k k' : RK), vs = [.ref q, .ref q'] ∧ H q = some (.ins R dq k.fs) ∧ H q' = some (.ins R dq' k'.fs) ∧ Q (.bl (k.eqb k')) H
def spFEq (R C : Addr) : Sp := fun vs H Q _ => ∃ (a dx b dy r dr r' dr' d e : Addr) (k k' : RK) (m m' x y z x' y' z' : Int) (h h' : Bool), vs = [.ref a, .ref b] ∧ H a = some (.ins C dx (fl r d m h)) ∧ H b = some (.ins C dy (fl r' e m' h')) ∧ H r = some (.ins R dr k.fs) ∧ H r' = some (.ins R dr' k'.fs) ∧ H d = some (.dK (mk3 x y z)) ∧ H e = some (.dK (mk3 x' y' z')) ∧ Q (.bl (k.eqb k' && (e3 x y z x' y' z' && (decide (m = m') && decide (h = h'))))) H
def spLast (C : Addr) : Sp := fun vs H Q _ => ∃ (a dx r d : Addr) (m : Int) (h : Bool), vs = [.ref a] ∧ H a = some (.ins C dx (fl r d m h)) ∧ Q (.int m) H
def spHeld (C : Addr) : Sp := fun vs H Q _ => ∃ (a dx r d : Addr) (m : Int) (h : Bool), vs = [.ref a] ∧ H a = some (.ins C dx (fl r d m h)) ∧ Q (.bl h) H
section
open He
variable {P : Program} {w : World} {K : PySem.W.Frag} {mg : Str → Option Value} {base : Heap} {f : Addr} {fd : FuncData}
theorem ty_ru {H : Hp} {a dx : Addr} {fs : List (Str × V)} (T : TF2 K w mg) (h : H a = some (.ins (ga K "Rule") dx fs)) : TyX K H (.ref a) (.ref (ga K "Rule")) := .base (.ins h T.icR.cl T.icR.ha T.icR.hn T.icR.htk T.icR.hm)
theorem ty_fi {H : Hp} {a dx : Addr} {fs : List (Str × V)} (T : TF2 K w mg) (h : H a = some (.ins (ga K "File") dx fs)) : TyX K H (.ref a) (.ref (ga K "File")) := .base (.ins h T.ic.cl T.ic.ha T.ic.hn T.ic.htk T.ic.hm)
theorem RK.fs_ne (k : RK) : k.fs ≠ [] := by cases k <;> exact fun z => nomatch z
theorem use_makes {H0 H : Hp} {M : Addr → Prop} {l : List Ent} {a : Addr} {xs : List V} {kvs : List (Key × V)} {Q : VK} {E : XK} {r : Bool} (S : Sh H0 M H l) (o : On l a (.tup xs)) (hd : Bk xs kvs) (hr : inV (xs.getD 0 .non) [.str "make", .str "unpack"] = r) (q : ∀ H', Sh H0 M H' l → Q (.bl r) H') : spMakes [.ref a] H Q E :=
  ⟨a, xs, kvs, rfl, S.has_ o, hd, fun H' c => by rw [hr]; exact q H' (S.ch0 c)⟩
theorem use_backs {H0 H : Hp} {M : Addr → Prop} {l : List Ent} {a : Addr} {xs : List V} {kvs : List (Key × V)} {Q : VK} {E : XK} (S : Sh H0 M H l) (o : On l a (.tup xs)) (hd : Bk xs kvs) (q : ∀ p H', H p = none → Sh H0 M H' ((p, .dK kvs, true) :: l) → Q (.ref p) H') : spBacks [.ref a] H Q E :=
  ⟨a, xs, kvs, rfl, S.has_ o, hd, fun p H' hp c h => q p H' hp (S.add c hp h)⟩
theorem use_secs {M : Addr} {v : V} {n : Int} {H : Hp} {Q : VK} {E : XK} (a : At M H v n) (h : Mo30 n) (q : Q (.int n) H) : spSecs M [v] H Q E := ⟨v, n, rfl, a, h.1, h.2, q⟩
theorem use_told {H0 H : Hp} {M : Addr → Prop} {l : List Ent} {R C q dq a dx r d : Addr} {m x y z n : Int} {h : Bool} {k : RK} {Q : VK} {E : XK} (S : Sh H0 M H l) (oq : On l q (.ins R dq k.fs)) (oa : On l a (.ins C dx (fl r d m h))) (od : On l d (.dK (mk3 x y z))) (hne : q ≠ a) (hn : Mo30 n)
    (c : ∀ H', Sh H0 M H' l → Q (.bl (k.told x y z n)) H') : spTold R C [.ref q, .ref a, .int n] H Q E :=
  ⟨q, dq, a, dx, r, d, m, x, y, z, n, h, k, rfl, S.has_ oq, S.has_ oa, S.has_ od, hne, hn.1, hn.2, fun H' c1 => c H' (S.ch0 c1)⟩
theorem fl_ne_ru {k : RK} {r d : Addr} {m : Int} {h : Bool} : k.fs ≠ fl r d m h := by cases k <;> exact fun z => by simp [RK.fs, ru, fl] at z
local macro_rules | `(tactic| purse 7023 => fail) => `(tactic| (intro e he ht; simp only [List.mem_cons, List.not_mem_nil, or_false] at he; (repeat' (rcases he with he | he)); all_goals (subst he; first | (exact Bool.noConfusion ht) | (intro z; subst z; simp_all [RK.fs_ne, fl]))))
local macro_rules | `(tactic| purse 7024 => fail) => `(tactic| (refine g_eachC1 (by rfl) (by assumption) (by (purse 7003 => fail)) ?_; intro _ _ _; (purse 7012 => fail); refine g_kput (by assumption) (by (purse 7005 => fail)) rfl rfl ?_; intro _ _))
local macro_rules | `(tactic| purse 7025 => fail) => `(tactic| ((purse 7012 => fail); (purse 7016 => fail); (purse 7012 => fail); refine use_secs (At.out (by assumption) (by assumption) (by assumption)) (by assumption) ?_; (purse 7012 => fail); refine g_ksfld (by assumption) (by (purse 7005 => fail)) (by assumption) (by assumption) (by decide) ?_; intro _ _; (purse 7012 => fail)))
local macro_rules | `(tactic| purse 7026 => fail) => `(tactic| (repeat (first | exact List.mem_cons_self | apply List.mem_cons_of_mem)))
local macro_rules | `(tactic| purse 7027 => fail) => `(tactic| (refine g_ksfld (by assumption) (by (purse 7005 => fail)) (by assumption) (by assumption) (by exact Nat.le_of_ble_eq_true rfl) ?_; intro _ _; (purse 7012 => fail)))
local macro_rules | `(tactic| purse 7028 => fail) => `(tactic| (refine g_lk (by assumption) (fun _ => by (purse 7005 => fail)) ?_; intro _ _ _; refine g_dc (by assumption) (by (purse 7003 => fail)) ?_; intro _ _ _; (purse 7024 => fail); (purse 7024 => fail); (purse 7024 => fail); refine g_eachC0 (by (purse 7003 => fail)) ?_; (purse 7012 => fail); (purse 7027 => fail); (purse 7027 => fail); (purse 7027 => fail)))
theorem ok_finit (F : FnP K "__init__" "File.__init__" s_File___init__ f fd) (T : TF2 K w mg) (D_makes : Dn P w K mg base 8 (ga K "makes") ["value"] spMakes) (D_seconds_of : Dn P w K mg base 6 (ga K "seconds_of") ["value"] (spSecs (ga K "Moment"))) (D_backs : Dn P w K mg base 8 (ga K "backs") ["deed"] spBacks) :
    FnOk P w K mg base (L2.CX P w) 10 f fd ["self", "rule", "deed", "at"] (spFInit (ga K "Rule") (ga K "File") (ga K "Moment")) := by
  refine F.ok c_File___init__ (fun vs H Q E h => ?_) (fun cdv A outer s H vs Q E hr h => ⟨_, pss_cons (ps_if (pt_not (pt_val (pe_callB call_isi (by rfl) T.z_isinstance (by decide +kernel) (pa_cons (pv 1) (pa_cons (pe_glob (v := .ref _) rfl T.g_Rule rfl) (pa_nil))))))
      (pss_one (ps_never))
      (pss_nil))
      (pss_cons (ps_if (pt_not (pt_val (pe_dn D_makes (rm hr) rfl T.g_makes (passes_call (takes_of rfl rfl rfl rfl) fun _ _ _ _ h => h) (pa_cons (pv 2) (pa_nil)))))
      (pss_one (ps_never))
      (pss_nil))
      (pss_cons (ps_set (i := 4) c_File___init__.nd rfl (Or.inr rfl) (pe_dn D_seconds_of (rm hr) rfl T.g_seconds_of (passes_call (takes_of rfl rfl rfl rfl) fun _ _ _ _ h => h) (pa_cons (pv 3) (pa_nil))))
      (pss_cons (ps_fld (pv 0) (pv 1) rfl)
      (pss_cons (ps_fld (pv 0) (pe_dc (own := [("mark", 5), ("back", 6)]) (g := gTup K 2 (gCons (gName 5) (gCons (gName 6) (gNil)))) (tt := tYes) rfl c_File___init__.nd (pi_items (pe_lk (pe_dn D_backs (rm hr) rfl T.g_backs (passes_call (takes_of rfl rfl rfl rfl) fun _ _ _ _ h => h) (pa_cons (pv 2) (pa_nil))))) (blkOk_by (own := [("mark", 5), ("back", 6)]) (N := ["self", "rule", "deed", "at", "moment", "mark", "back"]) (sc := defScope s_File___init__) (by decide +kernel)) (fun _ _ _ _ _ => pg_tup rfl (pgs_cons (pg_name (i := 5) c_File___init__.nd rfl (Or.inl rfl)) (pgs_cons (pg_name (i := 6) c_File___init__.nd rfl (Or.inl rfl)) (pgs_nil)))) (fun _ _ _ _ _ => pts_nil) (fun _ _ _ _ _ => pv 5) (fun _ _ _ _ _ => pe_op op_sub (pv 4) (pv 6))) rfl)
      (pss_cons (ps_fld (pv 0) (pv 4) rfl)
      (pss_one (ps_fld (pv 0) (pe_bl) rfl))))))), ?_⟩)
  · obtain ⟨p, dx, q, dq, t, k, xs, v, n, x, y, z, rfl, _⟩ := h
    rfl
  · obtain ⟨p, dx, q, dq, t, k, xs, v, n, x, y, z, rfl, hat, hp, hq, ht, hm, hn, w⟩ := h
    have hnn : ∀ q dq, H q = some (.ins (ga K "Moment") dq (mo n)) → ¬ (q = p) := fun q dq h e => by
      rw [e, hp] at h
      simp [mo] at h
    have nq : q ≠ p := fun z => by rw [z, hp] at hq; simp only [Option.some.injEq, HO.ins.injEq] at hq; exact k.fs_ne hq.2.2.symm
    have nt : t ≠ p := fun z => by rw [z, hp] at ht; cases ht
    have S0 : Sh H (fun b => b = p) H [(p, .ins (ga K "File") dx [], true)] := Sh.start.take hp rfl (fun _ h => nomatch h)
    have S : Sh H (fun b => b = p) H [(t, .tup xs, false), (q, .ins (ga K "Rule") dq k.fs, false), (p, .ins (ga K "File") dx [], true)] := (S0.know hq (fun e he _ => by simp only [List.mem_cons, List.not_mem_nil, or_false] at he; subst he; exact nq)).know ht (fun e he hh => by
      simp only [List.mem_cons, List.not_mem_nil, or_false] at he
      rcases he with he | he
      · subst he; cases hh
      · subst he; exact nt)
    have t1 := T.cl
    have t2 := T.nR
    have t3 := T.nN
    have t4 := T.nD
    have t5 := T.nH
    (purse 7012 => fail)
    refine g_isi (.own _) (ty_ru T hq) T.icR.me ?_
    (purse 7012 => fail)
    (purse 7016 => fail)
    (purse 7012 => fail)
    have fin : ∀ {nd : Addr} {H' : Hp} {l : List Ent} {kvs : List (Key × V)}, Sh H (fun b => b = p) H' l → On l p (.ins (ga K "File") dx (fl q nd n false)) → (nd, .dK kvs, true) ∈ l → kvs = mk3 x y z → Q .non H' := fun {nd H' l kvs} S' o m ek => by
      subst ek
      exact
      have ne : nd ≠ p := fun e => by
        have a := S'.has_ o
        have b := S'.has _ m
        rw [show ((nd, HO.dK (mk3 x y z), true) : Ent).1 = p from e] at b
        rw [a] at b
        cases b
      w nd H' ((S'.mu _ m rfl).elim (fun e => absurd e ne) id) (S'.out fun b e => by simp [e]) (S'.has_ o) (S'.has _ m)
    cases hm with
    | make =>
      refine use_makes (kvs := _) S (by (purse 7004 => fail)) .make rfl fun H1 S1 => ?_
      (purse 7025 => fail)
      refine use_backs (by assumption) (by (purse 7004 => fail)) .make ?_
      intro nb _ _ _
      refine g_lk (by assumption) (fun _ => by (purse 7005 => fail)) ?_
      intro _ _ _
      refine g_dc (by assumption) (by (purse 7003 => fail)) ?_
      intro _ _ _
      refine g_eachC1 (by rfl) (by assumption) (by (purse 7003 => fail)) ?_
      intro _ _ _
      (purse 7012 => fail)
      refine g_kput (by assumption) (by (purse 7005 => fail)) rfl rfl ?_
      intro _ _
      (purse 7024 => fail)
      (purse 7024 => fail)
      refine g_eachC0 (by (purse 7003 => fail)) ?_
      (purse 7012 => fail)
      (purse 7027 => fail)
      (purse 7027 => fail)
      (purse 7027 => fail)
      exact fin (by assumption) (by (purse 7004 => fail)) (by (purse 7026 => fail)) (by simp only [Int.sub_zero]; rfl)
    | unpack h1 h2 =>
      refine use_makes (kvs := _) S (by (purse 7004 => fail)) (.unpack h1 h2) rfl fun H1 S1 => ?_
      (purse 7025 => fail)
      refine use_backs (by assumption) (by (purse 7004 => fail)) (.unpack h1 h2) ?_
      intro nb _ _ _
      (purse 7028 => fail)
      exact fin (by assumption) (by (purse 7004 => fail)) (by (purse 7026 => fail)) (by simp only [Int.sub_zero]; rfl)
theorem g_mkfile {H0 : Hp} {M : Addr → Prop} {H : Hp} {l : List Ent} {R C MC q dq t : Addr} {k : RK} {xs : List V} {v : V} {n x y z : Int} {E : XK} {Q : VK} (S : Sh H0 M H l) (av : AtL MC l v n) (oq : On l q (.ins R dq k.fs)) (ot : On l t (.tup xs)) (hm : Mk3 n xs x y z) (hn : Mo30 n)
    (c : ∀ a dx nd H', Sh H0 M H' ((nd, .dK (mk3 x y z), true) :: (a, .ins C dx (fl q nd n false), true) :: l) → Q (.ref a) H') : kMake C (spFInit R C MC) E Q [.ref q, .ref t, v] H :=
  g_kmake2 (fs := fun nd => fl q nd n false) S (fun a dx H1 Q' ha S1 w => ⟨a, dx, q, dq, t, k, xs, v, n, x, y, z, rfl, av.next.next.at_ S1, ha, S1.has_ (.next (.next oq)), S1.has_ (.next (.next ot)), hm, hn, w⟩) c
theorem ne_of_obj {H : Hp} {p q : Addr} {o o' : HO} (h : H p = some o) (h' : H q = some o') (ne : o ≠ o') : p ≠ q := fun z => ne (by rw [z, h'] at h; exact (Option.some.inj h).symm)
theorem ins_ne {k : RK} {C R dx dr r d : Addr} {m : Int} {h : Bool} : HO.ins R dr k.fs ≠ HO.ins C dx (fl r d m h) := fun z => by
  simp only [HO.ins.injEq] at z
  exact fl_ne_ru z.2.2
theorem ok_shifts (F : FnP K "shifts" "File.shifts" s_File_shifts f fd) (T : TF2 K w mg) (D_backs : Dn P w K mg base 8 (ga K "backs") ["deed"] spBacks) (D_call : Dn P w K mg base 8 (ma K (ga K "Rule") "__call__") ["self", "file", "at"] (spTold (ga K "Rule") (ga K "File"))) :
    FnOk P w K mg base (L2.CX P w) 10 f fd ["self", "deed", "moment"] (spShifts (ga K "Rule") (ga K "File")) := by
  refine F.ok c_File_shifts (fun vs H Q E h => ?_) (fun cdv A outer s H vs Q E hr h => ⟨_, pss_cons (ps_if (pt_cmpR op_ne (pe_ix ix_tup (pv 1) (pe_int) (fun _ _ => rfl)) (pe_str) (nomark _))
      (pss_one (ps_ret (pe_dn D_backs (rm hr) rfl T.g_backs (passes_call (takes_of rfl rfl rfl rfl) fun _ _ _ _ h => h) (pa_cons (pv 1) (pa_nil)))))
      (pss_nil))
      (pss_cons (ps_if (pt_val (pe_cf D_call T.ci (rm hr) (passes_call (takes_of rfl rfl rfl rfl) fun _ _ _ _ h => h) T.cl T.nR ((pv 0)) (pa_cons (pv 0) (pa_cons (pv 2) (pa_nil)))))
      (pss_one (ps_ret (pe_disp (pps_cons (pe_str) (pe_int) (pps_nil)) rfl rfl (by decide) (by decide))))
      (pss_nil))
      (pss_one (ps_ret (pe_dnewK)))), ?_⟩)
  · obtain ⟨a, dx, r, dr, d, t, k, xs, kvs, m, n, x, y, z, h, rfl, _⟩ := h
    rfl
  · obtain ⟨a, dx, r, dr, d, t, k, xs, kvs, m, n, x, y, z, b, rfl, ha, hr1, hd, ht, hb, hn, w⟩ := h
    have S : Sh H (fun _ => False) H [(t, .tup xs, false), (r, .ins (ga K "Rule") dr k.fs, false), (a, .ins (ga K "File") dx (fl r d m b), false), (d, .dK (mk3 x y z), false)] := know0 (know0 (know0 (know0 Sh.start hd rfl) ha rfl) hr1 rfl) ht rfl
    have hne : r ≠ a := ne_of_obj hr1 ha ins_ne
    have t1 := T.cl
    have t2 := T.nR
    have fin : ∀ {p : Addr} {H' : Hp} {kvs' : List (Key × V)} {l : List Ent}, Sh H (fun _ => False) H' ((p, .dK kvs', true) :: l) → Sf k x y z n xs kvs' → Q (.ref p) H' := fun {p H' kvs' l} S' hs =>
      w p kvs' H' ((S'.mu _ List.mem_cons_self rfl).elim False.elim id) (S'.out fun b e => e.elim) (S'.has_ .here) hs
    (purse 7012 => fail)
    have hb0 := hb
    cases hb with
    | read =>
      refine g_ixT (by (purse 7003 => fail)) rfl ?_
      (purse 7012 => fail)
      refine g_neS (r := true) (by decide) ?_
      (purse 7012 => fail)
      (purse 7016 => fail)
      (purse 7012 => fail)
      refine g_kcf (by (purse 7003 => fail)) rfl ?_
      refine g_kci ?_
      (purse 7012 => fail)
      refine ⟨⟨_, _, by (purse 7003 => fail)⟩, use_told S (by (purse 7004 => fail)) (by (purse 7004 => fail)) (by (purse 7004 => fail)) hne hn fun H' S' => ?_⟩
      (purse 7012 => fail)
      cases e : k.told x y z n with
      | true =>
        (purse 7015 => fail)
        (purse 7012 => fail)
        refine g_disp1 (by assumption) ?_
        intro p H' _ _
        exact fin (by assumption) (.read1 e)
      | false =>
        (purse 7016 => fail)
        (purse 7012 => fail)
        refine g_dnew (by assumption) ?_
        intro p H' _ _
        exact fin (by assumption) (.read0 e)
    | _ =>
      refine g_ixT (by (purse 7003 => fail)) rfl ?_
      (purse 7012 => fail)
      refine g_neS (r := false) (by decide) ?_
      (purse 7012 => fail)
      (purse 7015 => fail)
      (purse 7012 => fail)
      refine use_backs (by assumption) (by (purse 7004 => fail)) hb0 ?_
      intro p H' _ _
      exact fin (by assumption) (.other hb0 (by intro z; simp at z <;> (revert z; decide)))
theorem use_shifts {H0 H : Hp} {M : Addr → Prop} {l : List Ent} {R C a dx r dr d t : Addr} {k : RK} {xs : List V} {kvs : List (Key × V)} {m n x y z : Int} {h : Bool} {Q : VK} {E : XK} (S : Sh H0 M H l) (oa : On l a (.ins C dx (fl r d m h))) (or : On l r (.ins R dr k.fs)) (od : On l d (.dK (mk3 x y z))) (ot : On l t (.tup xs))
    (hb : Bk xs kvs) (hn : Mo30 n) (c : ∀ p kvs' H', Sf k x y z n xs kvs' → Sh H0 M H' ((p, .dK kvs', true) :: l) → Q (.ref p) H') : spShifts R C [.ref a, .ref t, .int n] H Q E :=
  ⟨a, dx, r, dr, d, t, k, xs, kvs, m, n, x, y, z, h, rfl, S.has_ oa, S.has_ or, S.has_ od, S.has_ ot, hb, hn, fun p kvs' H' hp c1 e hs => c p kvs' H' hs (S.add c1 hp e)⟩
local macro_rules | `(tactic| purse 7029 => fail) => `(tactic| (refine g_each1 (by assumption) (by (purse 7003 => fail)) ?_; intro _ _ _; refine g_tup2 (by (purse 7003 => fail)) ?_; (purse 7012 => fail); refine g_setD (by assumption) (by (purse 7005 => fail)) (by exact rfl) (by exact rfl) ?_; intro _ _; (purse 7012 => fail)))
local macro_rules | `(tactic| purse 7030 => fail) => `(tactic| (refine g_each0 (by (purse 7003 => fail)) ?_; (purse 7012 => fail); (purse 7027 => fail); refine use_makes (by assumption) (by (purse 7004 => fail)) (by assumption) rfl ?_; intro _ _; (purse 7012 => fail); (purse 7017 => fail); (purse 7012 => fail); (try (purse 7027 => fail)); refine g_listKf (by assumption) (by (purse 7003 => fail)) ?_; intro _ _ _ _))
theorem ok_do (F : FnP K "do" "File.do" s_File_do f fd) (T : TF2 K w mg) (D_is_deed : Dn P w K mg base 6 (ga K "is_deed") ["value"] spDeed) (D_seconds_of : Dn P w K mg base 6 (ga K "seconds_of") ["value"] (spSecs (ga K "Moment"))) (D_makes : Dn P w K mg base 8 (ga K "makes") ["value"] spMakes)
    (H_shifts : Hn P w K mg base 10 (ga K "File") "shifts" (spShifts (ga K "Rule") (ga K "File"))) : FnOk P w K mg base (L2.CX P w) 12 f fd ["self", "deed", "at"] (spDo (ga K "Rule") (ga K "File") (ga K "Moment")) := by
  refine F.ok c_File_do (fun vs H Q E h => ?_) (fun cdv A outer s H vs Q E hr h => ⟨_, pss_cons (ps_if (pt_not (pt_val (pe_dn D_is_deed (rm hr) rfl T.g_is_deed (passes_call (takes_of rfl rfl rfl rfl) fun _ _ _ _ h => h) (pa_cons (pv 1) (pa_nil)))))
      (pss_one (ps_never))
      (pss_nil))
      (pss_cons (ps_set (i := 3) c_File_do.nd rfl (Or.inl rfl) (pe_dn D_seconds_of (rm hr) rfl T.g_seconds_of (passes_call (takes_of rfl rfl rfl rfl) fun _ _ _ _ h => h) (pa_cons (pv 2) (pa_nil))))
      (pss_cons (ps_if (pt_cmpR op_le (pv 3) (pe_fld (pv 0) rfl) (nomark _))
      (pss_one (ps_never))
      (pss_nil))
      (pss_cons (ps_set (i := 4) c_File_do.nd rfl (Or.inl rfl) (pe_dm H_shifts (rm hr) (passes_call (takes_of rfl rfl rfl rfl) fun _ _ _ _ h => h) (pv 0) (pa_cons (pv 1) (pa_cons (pv 3) (pa_nil)))))
      (pss_cons (ps_for (passes_of rfl) rfl (pi_items (pe_lk (pv 4))) (pg_tup (n := 2) rfl (pgs_cons (pg_name (i := 5) c_File_do.nd rfl (Or.inl rfl)) (pgs_cons (pg_name (i := 6) c_File_do.nd rfl (Or.inl rfl)) (pgs_nil))))
      (pss_one (ps_asg (pe_op op_sub (pv 3) (pv 6)) (pg_sub (pe_fld (pv 0) rfl) (pv 5) (set_dict (hu_of hr))))))
      (pss_cons (ps_fld (pv 0) (pv 3) rfl)
      (pss_cons (ps_if (pt_val (pe_dn D_makes (rm hr) rfl T.g_makes (passes_call (takes_of rfl rfl rfl rfl) fun _ _ _ _ h => h) (pa_cons (pv 1) (pa_nil))))
      (pss_one (ps_fld (pv 0) (pe_bl) rfl))
      (pss_nil))
      (pss_one (ps_ret (pe_callTy (cl_listK rfl) (by rfl) T.z_list (by decide +kernel) (pa_cons (pv 4) (pa_nil))))))))))), ?_⟩)
  · obtain ⟨a, dx, r, dr, d, t, k, xs, kvs, v, m, n, x, y, z, h, rfl, _⟩ := h
    rfl
  · obtain ⟨a, dx, r, dr, d, t, k, xs, kvs, v, m, n, x, y, z, b, rfl, hat, ha, hr1, hd, ht, hb, hn, hmn, w⟩ := h
    have hnn : ∀ q dq, H q = some (.ins (ga K "Moment") dq (mo n)) → ¬ (q = a ∨ q = d) := fun q dq h e => by
      rcases e with e | e
      · rw [e, ha] at h
        simp [mo, fl] at h
      · rw [e, hd] at h
        cases h
    have na : a ≠ d := ne_of_obj ha hd (fun z => nomatch z)
    have nr : r ≠ a := ne_of_obj hr1 ha ins_ne
    have nr2 : r ≠ d := ne_of_obj hr1 hd (fun z => nomatch z)
    have nt : t ≠ a := ne_of_obj ht ha (fun z => nomatch z)
    have nt2 : t ≠ d := ne_of_obj ht hd (fun z => nomatch z)
    have S1 : Sh H (fun b => b = a ∨ b = d) H [(a, .ins (ga K "File") dx (fl r d m b), true), (d, .dK (mk3 x y z), true)] := (Sh.start.take hd (.inr rfl) (fun _ h => nomatch h)).take ha (.inl rfl) (fun e he => by
      simp only [List.mem_cons, List.not_mem_nil, or_false] at he; subst he; exact na)
    have S2 : Sh H (fun b => b = a ∨ b = d) H [(r, .ins (ga K "Rule") dr k.fs, false), (a, .ins (ga K "File") dx (fl r d m b), true), (d, .dK (mk3 x y z), true)] := S1.know hr1 (fun e he _ => by
      simp only [List.mem_cons, List.not_mem_nil, or_false] at he
      rcases he with he | he
      · subst he; exact nr
      · subst he; exact nr2)
    have S : Sh H (fun b => b = a ∨ b = d) H [(t, .tup xs, false), (r, .ins (ga K "Rule") dr k.fs, false), (a, .ins (ga K "File") dx (fl r d m b), true), (d, .dK (mk3 x y z), true)] := S2.know ht (fun e he hh => by
      simp only [List.mem_cons, List.not_mem_nil, or_false] at he
      rcases he with he | he | he
      · subst he; cases hh
      · subst he; exact nt
      · subst he; exact nt2)
    have fin : ∀ {p : Addr} {H' : Hp} {l : List Ent} {kvs' : List (Key × V)} {ps : List V} {x' y' z' : Int} {h' : Bool}, Sh H (fun b => b = a ∨ b = d) H' ((p, .lst ps, true) :: l) → On l a (.ins (ga K "File") dx (fl r d n h')) → On l d (.dK kvs') → h' = heldBy xs b → kvs' = mk3 x' y' z' → Af k x y z n xs ps x' y' z' → Q (.ref p) H' :=
      fun {p H' l kvs' ps x' y' z' h'} S' oa od eh ek af => by
        subst eh ek
        have hp := S'.has_ (p := p) (o := .lst ps) .here
        have pa := ne_of_obj hp (S'.has_ (.next oa)) (fun z => nomatch z)
        have pd := ne_of_obj hp (S'.has_ (.next od)) (fun z => nomatch z)
        exact w p ps x' y' z' H' ((S'.mu _ List.mem_cons_self rfl).elim (fun e => e.elim (fun e => absurd e pa) (fun e => absurd e pd)) id) (S'.out fun b e => by simp only [List.mem_cons, List.not_mem_nil, or_false]; exact e) (S'.has_ (.next oa)) (S'.has_ (.next od)) hp af
    have t1 := T.cl
    have t2 := T.nR
    have t3 := T.nN
    have t4 := T.nD
    have t5 := T.nH
    (purse 7012 => fail)
    refine use_deed S (by (purse 7004 => fail)) hb.dd fun H1 S1 => ?_
    (purse 7012 => fail)
    (purse 7016 => fail)
    (purse 7012 => fail)
    refine use_secs (At.out (by assumption) hat hnn) hn ?_
    (purse 7012 => fail)
    (purse 7016 => fail)
    (purse 7012 => fail)
    refine use_shifts (by assumption) (by (purse 7004 => fail)) (by (purse 7004 => fail)) (by (purse 7004 => fail)) (by (purse 7004 => fail)) hb hn ?_
    intro p kvs' H2 hs S2
    (purse 7012 => fail)
    refine g_lk (by assumption) (fun _ => by (purse 7005 => fail)) ?_
    intro od H3 S3
    refine g_it (by (purse 7003 => fail)) ?_
    cases hs with
    | other hb' hn' =>
      cases hb' with
      | make =>
        (purse 7029 => fail)
        (purse 7029 => fail)
        (purse 7029 => fail)
        (purse 7030 => fail)
        exact fin (by assumption) (by (purse 7004 => fail)) (by (purse 7004 => fail)) rfl (by (try simp only [Int.sub_zero]); (try rfl)) .make
      | touch =>
        (purse 7029 => fail)
        (purse 7029 => fail)
        (purse 7029 => fail)
        (purse 7030 => fail)
        exact fin (by assumption) (by (purse 7004 => fail)) (by (purse 7004 => fail)) rfl (by (try simp only [Int.sub_zero]); (try rfl)) .touch
      | write =>
        (purse 7029 => fail)
        (purse 7029 => fail)
        (purse 7030 => fail)
        exact fin (by assumption) (by (purse 7004 => fail)) (by (purse 7004 => fail)) rfl (by (try simp only [Int.sub_zero]); (try rfl)) .write
      | rename =>
        (purse 7029 => fail)
        (purse 7030 => fail)
        exact fin (by assumption) (by (purse 7004 => fail)) (by (purse 7004 => fail)) rfl (by (try simp only [Int.sub_zero]); (try rfl)) .rename
      | unpack h1 h2 =>
        (purse 7029 => fail)
        (purse 7029 => fail)
        (purse 7029 => fail)
        (purse 7030 => fail)
        exact fin (by assumption) (by (purse 7004 => fail)) (by (purse 7004 => fail)) rfl (by (try simp only [Int.sub_zero]); (try rfl)) .unpack
      | setback h1 h2 =>
        (purse 7029 => fail)
        (purse 7029 => fail)
        (purse 7029 => fail)
        (purse 7030 => fail)
        exact fin (by assumption) (by (purse 7004 => fail)) (by (purse 7004 => fail)) rfl (by (try simp only [Int.sub_zero]); (try rfl)) .setback
      | read => exact absurd rfl hn'
    | read1 e =>
      (purse 7029 => fail)
      (purse 7030 => fail)
      exact fin (by assumption) (by (purse 7004 => fail)) (by (purse 7004 => fail)) rfl (by (try simp only [Int.sub_zero]); (try rfl)) (.read1 e)
    | read0 e =>
      (purse 7030 => fail)
      exact fin (by assumption) (by (purse 7004 => fail)) (by (purse 7004 => fail)) rfl (by (try simp only [Int.sub_zero]); (try rfl)) (.read0 e)
theorem ok_held (F : FnP K "held" "File.held" s_File_held f fd) (T : TF2 K w mg) : FnOk P w K mg base (L2.CX P w) 2 f fd ["self"] (spHeld (ga K "File")) := by
  refine F.ok c_File_held (fun vs H Q E h => ?_) (fun cdv A outer s H vs Q E hr h => ⟨_, pss_one (ps_ret (pe_fld (pv 0) rfl)), ?_⟩)
  · obtain ⟨a, dx, r, d, m, h, rfl, _⟩ := h
    rfl
  · obtain ⟨a, dx, r, d, m, h, rfl, ha, k⟩ := h
    (purse 7012 => fail)
    refine g_kfld (K := K) ha T.cl T.nH rfl ?_
    exact k
end
open He in
structure TFL (K : PySem.W.Frag) (w : World) (mg : Str → Option Value) : Prop extends TF2 K w mg where
  g_is_looks : mg "is_looks" = some (.ref (ga K "is_looks"))
  z_max : mg "max" = none
  z_all : mg "all" = none
def IsMax (ns : List Int) (v : Int) : Prop := v ∈ ns ∧ ∀ y, y ∈ ns → y ≤ v
theorem IsMax.uniq {ns : List Int} {v w : Int} (a : IsMax ns v) (b : IsMax ns w) : v = w := Int.le_antisymm (b.2 _ a.1) (a.2 _ b.1)
def spLatest (C : Addr) : Sp := fun vs H Q _ => ∃ (a dx r d t : Addr) (ls : List V) (ns : List Int) (m x y z : Int) (h : Bool), vs = [.ref a, .ref t] ∧ H a = some (.ins C dx (fl r d m h)) ∧ H d = some (.dK (mk3 x y z)) ∧ H t = some (.tup ls) ∧ K1.Lk x y z ls ns ∧ ∀ v H', Ch [] H H' → IsMax ns v → Q (.int v) H'
theorem use_looks {K : PySem.W.Frag} {H0 H : Hp} {M : Addr → Prop} {l : List Ent} {t : Addr} {ls : List V} {ns : List Int} {x y z : Int} {Q : VK} {E : XK} (S : Sh H0 M H l) (o : On l t (.tup ls)) (hk : K1.Lk x y z ls ns) (q : ∀ H', Sh H0 M H' l → Q (.bl true) H') : K1.spLooks K [.ref t] H Q E :=
  .inl ⟨t, ls, ns, x, y, z, rfl, S.has_ o, hk, fun H' c => q H' (S.ch0 c)⟩
local macro_rules | `(tactic| purse 7031 => fail) => `(tactic| (refine g_eachQ1 (by rfl) (by (purse 7003 => fail)) ?_; (purse 7012 => fail); refine g_dg (by (purse 7003 => fail)) (by rfl) ?_; (purse 7012 => fail); refine g_kel (by assumption) (by (purse 7005 => fail)) (by exact Nat.le_of_ble_eq_true rfl) ?_; intro _ _))
section
open He
variable {P : Program} {w : World} {K : PySem.W.Frag} {mg : Str → Option Value} {base : Heap} {f : Addr} {fd : FuncData}
theorem ok_latest (F : FnP K "latest" "File.latest" s_File_latest f fd) (T : TFL K w mg) (D_is_looks : Dn P w K mg base 4 (ga K "is_looks") ["value"] (K1.spLooks K)) : FnOk P w K mg base (L2.CX P w) 6 f fd ["self", "looks"] (spLatest (ga K "File")) := by
  refine F.ok c_File_latest (fun vs H Q E h => ?_) (fun cdv A outer s H vs Q E hr h => ⟨_, pss_cons (ps_if (pt_not (pt_val (pe_dn D_is_looks (rm hr) rfl T.g_is_looks (passes_call (takes_of rfl rfl rfl rfl) fun _ _ _ _ h => h) (pa_cons (pv 1) (pa_nil)))))
      (pss_one (ps_never))
      (pss_nil))
      (pss_one (ps_ret (pe_callB (cl_maxL rfl) (by rfl) T.z_max (by decide +kernel) (pa_cons (pe_lc (own := [("mark", 2)]) (g := gName 2) (tt := tYes) rfl c_File_latest.nd (pi_tup (pv 1)) (blkOk_by (own := [("mark", 2)]) (N := ["self", "looks", "mark"]) (sc := defScope s_File_latest) (by decide +kernel)) (fun _ _ _ _ _ => pg_name (i := 2) c_File_latest.nd rfl (Or.inl rfl)) (fun _ _ _ _ _ => pts_nil) (fun _ _ _ _ _ => pe_callTy cl_int (by rfl) T.z_int (by decide +kernel) (pa_cons (pe_dget (hu_of hr) ((pe_fldK (K := K) (pv 0) rfl)) ((pv 2)) (fun _ _ => rfl)) (pa_nil)))) (pa_nil))))), ?_⟩)
  · obtain ⟨a, dx, r, d, t, ls, ns, m, x, y, z, h, rfl, _⟩ := h
    rfl
  · obtain ⟨a, dx, r, d, t, ls, ns, m, x, y, z, b, rfl, ha, hd, ht, hk, q⟩ := h
    have S : Sh H (fun _ => False) H [(a, .ins (ga K "File") dx (fl r d m b), false), (d, .dK (mk3 x y z), false), (t, .tup ls, false)] := know0 (know0 (know0 Sh.start ht rfl) hd rfl) ha rfl
    have t1 := T.cl
    have t3 := T.nN
    (purse 7012 => fail)
    refine use_looks (by assumption) (by (purse 7004 => fail)) hk ?_
    intro _ _
    (purse 7012 => fail)
    (purse 7016 => fail)
    (purse 7012 => fail)
    refine g_lcT (fun H => H t = some (.tup ls)) (fun _ h => SqT.of h) (SqT.of (by (purse 7003 => fail))) (by assumption) ?_
    intro D _ _ _
    cases hk with
    | r =>
      (purse 7031 => fail)
      refine g_eachQ0 (by (purse 7003 => fail)) ?_
      (purse 7012 => fail)
      refine g_maxL (ns := [x]) (SqL.of (by (purse 7003 => fail))) (by exact Nat.succ_pos _) ?_
      intro v hv hall
      exact q v _ (by (purse 7006 => fail)) ⟨hv, hall⟩
    | w =>
      (purse 7031 => fail)
      refine g_eachQ0 (by (purse 7003 => fail)) ?_
      (purse 7012 => fail)
      refine g_maxL (ns := [y]) (SqL.of (by (purse 7003 => fail))) (by exact Nat.succ_pos _) ?_
      intro v hv hall
      exact q v _ (by (purse 7006 => fail)) ⟨hv, hall⟩
    | c =>
      (purse 7031 => fail)
      refine g_eachQ0 (by (purse 7003 => fail)) ?_
      (purse 7012 => fail)
      refine g_maxL (ns := [z]) (SqL.of (by (purse 7003 => fail))) (by exact Nat.succ_pos _) ?_
      intro v hv hall
      exact q v _ (by (purse 7006 => fail)) ⟨hv, hall⟩
    | rw =>
      (purse 7031 => fail)
      (purse 7031 => fail)
      refine g_eachQ0 (by (purse 7003 => fail)) ?_
      (purse 7012 => fail)
      refine g_maxL (ns := [x, y]) (SqL.of (by (purse 7003 => fail))) (by exact Nat.succ_pos _) ?_
      intro v hv hall
      exact q v _ (by (purse 7006 => fail)) ⟨hv, hall⟩
    | wc =>
      (purse 7031 => fail)
      (purse 7031 => fail)
      refine g_eachQ0 (by (purse 7003 => fail)) ?_
      (purse 7012 => fail)
      refine g_maxL (ns := [y, z]) (SqL.of (by (purse 7003 => fail))) (by exact Nat.succ_pos _) ?_
      intro v hv hall
      exact q v _ (by (purse 7006 => fail)) ⟨hv, hall⟩
    | rc =>
      (purse 7031 => fail)
      (purse 7031 => fail)
      refine g_eachQ0 (by (purse 7003 => fail)) ?_
      (purse 7012 => fail)
      refine g_maxL (ns := [x, z]) (SqL.of (by (purse 7003 => fail))) (by exact Nat.succ_pos _) ?_
      intro v hv hall
      exact q v _ (by (purse 7006 => fail)) ⟨hv, hall⟩
    | rwc =>
      (purse 7031 => fail)
      (purse 7031 => fail)
      (purse 7031 => fail)
      refine g_eachQ0 (by (purse 7003 => fail)) ?_
      (purse 7012 => fail)
      refine g_maxL (ns := [x, y, z]) (SqL.of (by (purse 7003 => fail))) (by exact Nat.succ_pos _) ?_
      intro v hv hall
      exact q v _ (by (purse 7006 => fail)) ⟨hv, hall⟩
end

end KF
namespace K1
open PySem PySem.Spec PyProof.Rows L2 AF
open C8 (pe_gc)
local macro_rules | `(tactic| purse 7003 => fail) => `(tactic| k_dflt (refine Sh.has_ (by assumption) ?_; repeat (first | exact On.here | apply On.next)))
local macro_rules | `(tactic| purse 7004 => fail) => `(tactic| k_dflt (repeat (first | exact On.here | apply On.next)))
local macro_rules | `(tactic| purse 7005 => fail) => `(tactic| (repeat (first | exact Rep.here | apply Rep.next)))
local macro_rules | `(tactic| purse 7006 => fail) => `(tactic| (exact Sh.out (by assumption) (fun b h => by simp [h])))
local macro_rules | `(tactic| purse 7007 => fail) => `(tactic| k_dflt (first | ((with_reducible refine cdivw ?_ ?_) <;> omega) | ((with_reducible show CDiv _ _); constructor <;> omega) | ((with_reducible show CMul _ _); (first | (left; constructor <;> omega) | (right; constructor <;> omega))) | (show (0 : Int) < _; omega)))
local macro_rules | `(tactic| purse 7008 => fail) => `(tactic| first | exact Kd.int _ | exact Kd.bl _ | exact Kd.non | exact Kd.str _ | exact Kd.ins (by (purse 7003 => fail)) | exact Kd.lst (by (purse 7003 => fail)) | exact Kd.tup (by (purse 7003 => fail)))
local macro_rules | `(tactic| purse 7009 => fail) => `(tactic| first | exact DpAll.nil | (apply DpAll.cons; (purse 7010 => fail); (purse 7009 => fail)))
local macro_rules | `(tactic| purse 7010 => fail) => `(tactic| first | exact Dp.int _ | exact Dp.bl _ | exact Dp.non | exact Dp.str _ | (refine dp_int ?_; omega) | (refine dp_bl ?_; simp only [decide_eq_decide]; omega) | (apply dp_lst; (purse 7003 => fail); (purse 7009 => fail)) | (apply dp_tup; (purse 7003 => fail); (purse 7009 => fail)))
local macro_rules | `(tactic| purse 7011 => fail) => `(tactic| first | assumption | omega)
local macro_rules | `(tactic| purse 7001 => fail) => `(tactic| fail "no use")
local macro_rules | `(tactic| purse 7002 => fail) => `(tactic| first
  | (with_reducible refine set_go ?_)
  | (with_reducible refine Step.go ?_)
  | (with_reducible first | refine g_pow10_6 ?_ | refine g_pow10_7 ?_ | refine g_pow10_18 ?_ | refine g_pow10_29 ?_ | refine g_pow10_30 ?_)
  | ((with_reducible refine' g_I ?a0 ?_); (case a0 => (purse 7007 => fail)))
  | ((with_reducible refine' g_ixL ?a0 ?a1 ?_); (case a0 => (purse 7003 => fail)); (case a1 => k_dflt (exact rfl)))
  | ((with_reducible refine' g_kfld ?a0 ?a1 ?a2 ?a3 ?_); (case a0 => (purse 7003 => fail)); (case a1 => k_dflt (assumption)); (case a2 => k_dflt (assumption)); (case a3 => k_dflt (exact rfl)))
  | ((with_reducible refine' g_kprop ?a0 ?_); (case a0 => (purse 7003 => fail)))
  | ((with_reducible refine' g_kmeth ?a0 ?a1 ?_); (case a0 => (purse 7003 => fail)); (case a1 => k_dflt (exact rfl)))
  | ((with_reducible refine' g_own ?a0 ?a1 ?a2 ?_); (case a0 => (purse 7003 => fail)); (case a1 => (purse 7008 => fail)); (case a2 => k_dflt (assumption)))
  | ((with_reducible refine' g_cmp ?a0 ?a1 ?a2 ?_); (case a0 => (purse 7003 => fail)); (case a1 => (purse 7008 => fail)); (case a2 => k_dflt (assumption)))
  | ((with_reducible refine' g_neq ?a0 ?a1 ?a2 ?_); (case a0 => (purse 7003 => fail)); (case a1 => (purse 7008 => fail)); (case a2 => k_dflt (assumption)))
  | ((with_reducible refine' g_right ?a0 ?_); (case a0 => (purse 7003 => fail)))
  | ((with_reducible refine' use_draw ?a0 ?a1 ?a2 ?a3 ?a4 ?_); (case a0 => assumption); (case a1 => intro _ _; (purse 7005 => fail)); (case a2 => assumption); (case a3 => (purse 7011 => fail)); (case a4 => (purse 7011 => fail)); intro _ _ _ _ _ _ _ _)
  | ((with_reducible refine' use_giveI ?a0 ?a1 ?a2 ?_); (case a0 => assumption); (case a1 => intro _ _; (purse 7005 => fail)); (case a2 => assumption); intro _ _ _ _ _ _ _ _)
  | ((with_reducible refine' use_source ?a0 ?a1 ?_); (case a0 => assumption); (case a1 => k_dflt (assumption)); intro _ _ _ _ _ _)
  | (with_reducible refine g_absN ?_; intro _ _)
  | (with_reducible refine g_maxN ?_; intro _ _ _ _)
  | (with_reducible refine g_minN ?_; intro _ _ _ _)
  | ((with_reducible refine' g_kR1 ?a0 ?a1 ?_); (case a0 => omega); (case a1 => omega))
  | ((with_reducible refine' g_neD ?a0 ?a1 ?a2 ?_); (case a0 => (purse 7010 => fail)); (case a1 => (purse 7010 => fail)); (case a2 => k_dflt (rfl)))
  | ((with_reducible refine' g_eqD ?a0 ?a1 ?a2 ?_); (case a0 => (purse 7010 => fail)); (case a1 => (purse 7010 => fail)); (case a2 => k_dflt (rfl)))
  | ((with_reducible refine' g_klst ?a0 ?a1 ?_); (case a0 => assumption); (case a1 => k_dflt (exact rfl)); intro _ _ _ _)
  | ((with_reducible refine' g_ktup ?a0 ?a1 ?_); (case a0 => assumption); (case a1 => k_dflt (exact rfl)); intro _ _ _ _)
  | ((with_reducible refine' g_setL ?a0 ?a1 ?a2 ?_); (case a0 => assumption); (case a1 => (purse 7005 => fail)); (case a2 => k_dflt (exact rfl)); intro _ _)
  | ((with_reducible refine' g_unl3 ?a0 ?_); (case a0 => (purse 7003 => fail)))
  | (purse 7001 => fail))
local macro_rules | `(tactic| purse 7012 => fail) => `(tactic| ((try (with_reducible refine start_go ?_)); repeat (purse 7002 => fail)))
local macro_rules | `(tactic| purse 7013 => fail) => `(tactic| first | rfl | (refine decide_eq_true ?_; omega) | (simp only [Bool.not_eq_true', Bool.not_eq_false', decide_eq_false_iff_not, decide_eq_true_eq, Bool.not_not, decide_eq_decide]; done) | (simp only [Bool.not_eq_true', Bool.not_eq_false', decide_eq_false_iff_not, decide_eq_true_eq, Bool.not_not, decide_eq_decide]; omega))
local macro_rules | `(tactic| purse 7014 => fail) => `(tactic| first | rfl | (refine decide_eq_false ?_; omega) | (simp only [Bool.not_eq_true', Bool.not_eq_false', decide_eq_false_iff_not, decide_eq_true_eq, Bool.not_not, decide_eq_decide]; done) | (simp only [Bool.not_eq_true', Bool.not_eq_false', decide_eq_false_iff_not, decide_eq_true_eq, Bool.not_not, decide_eq_decide]; omega))
local macro_rules | `(tactic| purse 7015 => fail) => `(tactic| ((refine g_yes ?h ?_); (case h => (purse 7013 => fail))))
local macro_rules | `(tactic| purse 7016 => fail) => `(tactic| ((refine g_no ?h ?_); (case h => (purse 7014 => fail))))
local macro_rules | `(tactic| purse 7017 => fail) => `(tactic| first | (purse 7015 => fail) | (purse 7016 => fail))
local macro_rules | `(tactic| purse 7018 => fail) => `(tactic| repeat ((purse 7012 => fail); (purse 7017 => fail)))
local macro_rules | `(tactic| purse 7019 => fail) => `(tactic| repeat (first | exact intIn_nil | refine intIn_cons (by omega) (by omega) ?_))
local macro_rules | `(tactic| purse 7020 => fail) => `(tactic| (simp only [List.length_cons, List.length_nil]; omega))
local macro_rules | `(tactic| purse 7021 => fail) => `(tactic| (refine g_two (fun c => ?_) (fun c => ?_) <;> first | (have c := of_decide_eq_true c) | (have c := of_decide_eq_false c) | skip))
local macro_rules | `(tactic| purse 7022 => fail) => `(tactic| ((purse 7018 => fail); (purse 7012 => fail); try ((purse 7021 => fail) <;> (purse 7022 => fail))))

/-! the law's helpers -/
structure TL (K : PySem.W.Frag) (mg : Str → Option Value) : Prop where
  z_int : mg "int" = none
  z_abs : mg "abs" = none
  z_len : mg "len" = none
section
open He
variable {P : Program} {w : World} {K : PySem.W.Frag} {mg : Str → Option Value} {base : Heap} {f : Addr} {fd : FuncData}
theorem ok_draw (F : FunD K "_law_draw" "_law_draw" (defArgs s_law_draw) (defBody s_law_draw) (defScope s_law_draw) [] [] f fd) (T : TL K mg) : FnOk P w K mg base (L2.CX P w) 2 f fd ["source", "amount"] spDraw := by
  refine F.ok c_law_draw (fun vs H Q E h => ?_) (fun cdv A outer s H vs Q E hr h => ⟨_, pss_cons (ps_if (pt_cmpR op_gt (pe_ix ix_list (pv 0) (pe_int) (fun _ _ => rfl)) (pe_int) (nomark _))
      (pss_cons (ps_set (i := 2) c_law_draw.nd rfl (Or.inl rfl) (pe_op op_mod (pe_callTy cl_int (by rfl) T.z_int (by decide +kernel) (pa_cons (pe_ix ix_list (pv 0) (pe_int) (fun _ _ => rfl)) (pa_nil))) (pv 1)))
      (pss_cons (ps_asg (pe_op op_fdivW (pe_ix ix_list (pv 0) (pe_int) (fun _ _ => rfl)) (pv 1)) (pg_sub (pv 0) (pe_int) set_list))
      (pss_one (ps_ret (pv 2)))))
      (pss_nil))
      (pss_cons (ps_asg (pe_op op_mod (pe_callTy cl_int (by rfl) T.z_int (by decide +kernel) (pa_cons (pe_op op_add (pe_op op_mul (pe_ix ix_list (pv 0) (pe_int) (fun _ _ => rfl)) (pe_int)) (pe_int)) (pa_nil))) (pe_int)) (pg_sub (pv 0) (pe_int) set_list))
      (pss_cons (ps_set (i := 3) c_law_draw.nd rfl (Or.inl rfl) (pe_op op_fdiv (pe_op op_mod (pe_callTy cl_int (by rfl) T.z_int (by decide +kernel) (pa_cons (pe_op op_mul (pe_ix ix_list (pv 0) (pe_int) (fun _ _ => rfl)) (pe_ix ix_list (pv 0) (pe_int) (fun _ _ => rfl))) (pa_nil))) (pe_int)) (pe_int)))
      (pss_cons (ps_if (pt_cmpR op_gt (pv 1) (pe_op op_pow (pe_int) (pe_int)) (nomark _))
      (pss_cons (ps_asg (pe_op op_mod (pe_callTy cl_int (by rfl) T.z_int (by decide +kernel) (pa_cons (pe_op op_add (pe_op op_mul (pe_ix ix_list (pv 0) (pe_int) (fun _ _ => rfl)) (pe_int)) (pe_int)) (pa_nil))) (pe_int)) (pg_sub (pv 0) (pe_int) set_list))
      (pss_one (ps_set (i := 3) c_law_draw.nd rfl (Or.inl rfl) (pe_op op_add (pe_op op_mul (pv 3) (pe_int)) (pe_op op_fdiv (pe_op op_mod (pe_callTy cl_int (by rfl) T.z_int (by decide +kernel) (pa_cons (pe_op op_mul (pe_ix ix_list (pv 0) (pe_int) (fun _ _ => rfl)) (pe_ix ix_list (pv 0) (pe_int) (fun _ _ => rfl))) (pa_nil))) (pe_int)) (pe_int))))))
      (pss_nil))
      (pss_one (ps_ret (pe_op op_mod (pe_callTy cl_int (by rfl) T.z_int (by decide +kernel) (pa_cons (pv 3) (pa_nil))) (pv 1))))))), ?_⟩)
  · obtain ⟨a, n, s, m, rfl, _⟩ := h
    rfl
  · obtain ⟨a, n, s, m, rfl, ha, hs, h1, h2, k⟩ := h
    have S : Sh H (fun b => b = a) H [(a, .lst [.int n, .int s], true)] := Sh.start.take ha rfl (fun _ h => nomatch h)
    obtain ⟨s0, s1, s2⟩ := hs
    (purse 7012 => fail)
    refine g_two (fun c => ?_) (fun c => ?_)
    · have c := of_decide_eq_true c
      (purse 7012 => fail)
      refine k _ _ _ _ (by (purse 7006 => fail)) (by (purse 7003 => fail)) ?_ ?_ ?_
      · exact Int.emod_nonneg _ (by omega)
      · exact Int.emod_lt_of_pos _ (by omega)
      · exact ⟨Int.ediv_nonneg s0 (by omega), s1, s2⟩
    · (purse 7012 => fail)
      refine g_two (fun c2 => ?_) (fun c2 => ?_)
      · (purse 7012 => fail)
        refine k _ _ _ _ (by (purse 7006 => fail)) (by (purse 7003 => fail)) ?_ ?_ ?_
        · exact Int.emod_nonneg _ (by omega)
        · exact Int.emod_lt_of_pos _ (by omega)
        · exact ⟨s0, Int.emod_nonneg _ (by omega), Int.emod_lt_of_pos _ (by omega)⟩
      · (purse 7012 => fail)
        refine k _ _ _ _ (by (purse 7006 => fail)) (by (purse 7003 => fail)) ?_ ?_ ?_
        · exact Int.emod_nonneg _ (by omega)
        · exact Int.emod_lt_of_pos _ (by omega)
        · exact ⟨s0, Int.emod_nonneg _ (by omega), Int.emod_lt_of_pos _ (by omega)⟩
theorem ok_source (F : FunD K "_law_source" "_law_source" (defArgs s_law_source) (defBody s_law_source) (defScope s_law_source) [] [] f fd) (T : TL K mg) : FnOk P w K mg base (L2.CX P w) 2 f fd ["script", "turn"] (spSource K) := by
  refine F.ok c_law_source (fun vs H Q E h => ?_) (fun cdv A outer s H vs Q E hr h => ⟨_, pss_cons (ps_set (i := 2) c_law_source.nd rfl (Or.inl rfl) (pe_int))
      (pss_cons (ps_if (pt_cmpR op_lt (pv 1) (pe_callB cl_len (by rfl) T.z_len (by decide +kernel) (pa_cons (pv 0) (pa_nil))) (nomark _))
      (pss_one (ps_set (i := 2) c_law_source.nd rfl (Or.inl rfl) (pe_ix ix_list (pv 0) (pv 1) (fun _ _ => rfl))))
      (pss_nil))
      (pss_cons (ps_set (i := 3) c_law_source.nd rfl (Or.inl rfl) (pe_callB cl_abs (by rfl) T.z_abs (by decide +kernel) (pa_cons (pv 2) (pa_nil))))
      (pss_cons (ps_set (i := 4) c_law_source.nd rfl (Or.inl rfl) (pe_op op_mod (pe_callTy cl_int (by rfl) T.z_int (by decide +kernel) (pa_cons (pe_op op_add (pe_op op_add (pe_op op_mul (pe_op op_mod (pe_callTy cl_int (by rfl) T.z_int (by decide +kernel) (pa_cons (pv 3) (pa_nil))) (pe_int)) (pe_int)) (pe_op op_mul (pe_int) (pv 1))) (pe_int)) (pa_nil))) (pe_int)))
      (pss_cons (ps_if (pt_cmpR op_lt (pv 3) (pe_op op_pow (pe_int) (pe_int)) (nomark _))
      (pss_one (ps_set (i := 3) c_law_source.nd rfl (Or.inl rfl) (pe_int)))
      (pss_nil))
      (pss_one (ps_ret (pe_lst (pa_cons (pv 3) (pa_cons (pv 4) (pa_nil)))))))))), ?_⟩)
  · obtain ⟨a, ns, t, rfl, _⟩ := h
    rfl
  · obtain ⟨a, ns, t, rfl, hS, k⟩ := h
    have S : Sh H (fun _ => False) H [] := Sh.start
    have fin : ∀ {q : Addr} {n s : Int} {H' : Hp} {l : List Ent}, Sh H (fun _ => False) H' ((q, .lst [.int n, .int (s % 2147483647)], true) :: l) → 0 ≤ n → Q (.ref q) H' := fun {q n s H' l} S' h0 =>
      k q n _ H' ((S'.mu _ List.mem_cons_self rfl).elim False.elim id) (S'.out fun _ h => h.elim) (S'.has_ .here) ⟨h0, Int.emod_nonneg _ (by omega), Int.emod_lt_of_pos _ (by omega)⟩
    (purse 7012 => fail)
    refine g_lenL hS ?_
    (purse 7012 => fail)
    refine g_two (fun c => ?_) (fun c => ?_)
    · have c := of_decide_eq_true c
      (purse 7012 => fail)
      obtain ⟨v, hv, e⟩ := atI_some (xs := ns.map V.int) (i := (t : Int)) (by omega) c
      obtain ⟨z, _, rfl⟩ := List.mem_map.mp hv
      refine g_ixQ hS e ?_
      (purse 7012 => fail)
      refine g_two (fun c2 => ?_) (fun c2 => ?_)
      · (purse 7012 => fail)
        refine fin (by assumption) ?_; omega
      · (purse 7012 => fail)
        refine fin (by assumption) ?_; omega
    · (purse 7012 => fail)
      refine g_two (fun c2 => ?_) (fun c2 => ?_)
      · (purse 7012 => fail)
        refine fin (by assumption) ?_; omega
      · (purse 7012 => fail)
        refine fin (by assumption) ?_; omega
end

/-! the law's books *-/
open He in
structure TE17 (K : PySem.W.Frag) (w : World) (mg : Str → Option Value) : Prop extends TC17 K w mg where
  g_law_source : mg "_law_source" = some (.ref (ga K "_law_source"))
  g_law_draw : mg "_law_draw" = some (.ref (ga K "_law_draw"))
  g_law_pick : mg "_law_pick" = some (.ref (ga K "_law_pick"))
  g_law_looks : mg "_law_looks" = some (.ref (ga K "_law_looks"))
  g_law_parts : mg "_law_parts" = some (.ref (ga K "_law_parts"))
  g_law_wide : mg "_law_wide" = some (.ref (ga K "_law_wide"))
  g_law_book : mg "_law_book" = some (.ref (ga K "_law_book"))
  z_min : mg "min" = none
  z_range : mg "range" = none
theorem UpX.setF {sr : Addr} {H H' : Hp} {p : Addr} {o : HO} (u : UpX sr H H') (h : H p = none) : UpX sr H (upd H' p o) := fun b x n e => by
  rw [upd_ne (fun z => by rw [z] at e; rw [h] at e; cases e)]
  exact u _ _ n e
theorem UpX.none {sr : Addr} {H : Hp} {p : Addr} (hp : H p = none) {o : HO} (hs : H sr = some o) : p ≠ sr := fun z => by rw [z] at hp; rw [hp] at hs; cases hs
theorem g_setU {H : Hp} {p : Addr} {kvs : List (Key × V)} {z : Str} {v : V} {P : Hp → Prop} (h : H p = some (.dK kvs)) (hn : Nat.blt kvs.length 1000 = true) (q : P (upd H p (.dK (putK kvs (.inr z) v)))) : rSetD (.ref p) (.str z) v H P :=
  ⟨p, _, rfl, .inl ⟨kvs, .inr z, h, rfl, Nat.lt_trans (Nat.le_of_ble_eq_true hn) (small1000 (Nat.le_refl _)), rfl⟩, q⟩
def spLk35 : Sp := fun vs H Q _ => ∃ (sr : Addr) (n s : Int), vs = [.ref sr] ∧ H sr = some (.lst [.int n, .int s]) ∧ Sd n s ∧ ∀ t l n' s' H', UpX sr H H' → H' sr = some (.lst [.int n', .int s']) → Sd n' s' → H' t = some (.tup (l.map V.str)) → l ∈ allLk → Q (.ref t) H'
def Pd0 (H : Hp) (d : Addr) (p : Bp) : Prop := ∃ t, H d = some (.dK (kv9 p t)) ∧ H t = some (.tup (p.lk.map V.str))
def spParts17 (K : PySem.W.Frag) (as : List V) : Sp := fun vs H Q _ => ∃ (sr : Addr) (n s : Int), vs = .ref sr :: as ∧ H sr = some (.lst [.int n, .int s]) ∧ Sd n s ∧ ∀ d p n' s' H', H d = none → UpX sr H H' → H' sr = some (.lst [.int n', .int s']) → Sd n' s' → Pd0 H' d p → p.Ok → Q (.ref d) H'
def spParts36 : Sp := fun vs H Q _ => ∃ (sr : Addr) (n s ma gb : Int), vs = [.ref sr, .int ma, .int gb] ∧ 1 ≤ ma ∧ ma ≤ 100 ∧ 1 ≤ gb ∧ gb ≤ 100 ∧ H sr = some (.lst [.int n, .int s]) ∧ Sd n s ∧ ∀ d p n' s' H', H d = none → UpX sr H H' → H' sr = some (.lst [.int n', .int s']) → Sd n' s' → Pd0 H' d p → p.Ok → Q (.ref d) H'
def spBook17 (K : PySem.W.Frag) (C : Addr) : Sp := fun vs H Q _ => ∃ (d t : Addr) (p : Bp), vs = [.ref d] ∧ H d = some (.dK (kv9 p t)) ∧ Tk K H t p.lk ∧ p.Ok ∧ NewB C H p t Q
section
open He
variable {P : Program} {w : World} {K : PySem.W.Frag} {mg : Str → Option Value} {base : Heap} {f : Addr} {fd : FuncData}
theorem ok_pick (F : FnP K "_law_pick" "_law_pick" s_law_pick f fd) (T : TE17 K w mg) (D_law_draw : Dn P w K mg base 2 (ga K "_law_draw") ["source", "amount"] spDraw) : FnOk P w K mg base (L2.CX P w) 4 f fd ["source", "items"] spPick := by
  refine F.ok c_law_pick (fun vs H Q E h => ?_) (fun cdv A outer s H vs Q E hr h => ⟨_, pss_one (ps_ret (pe_ix ix_list (pv 1) (pe_dn D_law_draw (rm hr) rfl T.g_law_draw (passes_call (takes_of rfl rfl rfl rfl) fun _ _ _ _ h => h) (pa_cons (pv 0) (pa_cons (pe_callB cl_len (by rfl) T.z_len (by decide +kernel) (pa_cons (pv 1) (pa_nil))) (pa_nil)))) (fun _ _ => rfl))), ?_⟩)
  · obtain ⟨a, p, n, s, xs, rfl, _⟩ := h
    rfl
  · obtain ⟨a, p, n, s, xs, rfl, ha, hs, hp, h1, h2, hne, k⟩ := h
    have S0 : Sh H (fun b => b = a) H [(a, .lst [.int n, .int s], true)] := Sh.start.take ha rfl (fun _ h => nomatch h)
    have S : Sh H (fun b => b = a) H [(p, .lst xs, false), (a, .lst [.int n, .int s], true)] := S0.know hp (fun e he _ => by simp only [List.mem_cons, List.not_mem_nil, or_false] at he; subst he; exact hne)
    (purse 7012 => fail)
    refine g_lenl (by (purse 7003 => fail)) ?_
    (purse 7012 => fail)
    refine g_ixW (by (purse 7003 => fail)) (by assumption) (by assumption) ?_
    intro v hv
    exact k v _ _ _ (by (purse 7006 => fail)) (by (purse 7003 => fail)) hv (by assumption)
theorem ok_llooks (F : FnP K "_law_looks" "_law_looks" s_law_looks f fd) (T : TE17 K w mg) (D_law_pick : Dn P w K mg base 4 (ga K "_law_pick") ["source", "items"] spPick) : FnOk P w K mg base (L2.CX P w) 6 f fd ["source"] spLk35 := by
  refine F.ok c_law_looks (fun vs H Q E h => ?_) (fun cdv A outer s H vs Q E hr h => ⟨_, pss_one (ps_ret (pe_dn D_law_pick (rm hr) rfl T.g_law_pick (passes_call (takes_of rfl rfl rfl rfl) fun _ _ _ _ h => h) (pa_cons (pv 0) (pa_cons (pe_lst (pa_cons (pe_tup (pa_cons (pe_str) (pa_cons (pe_str) (pa_cons (pe_str) (pa_nil))))) (pa_cons (pe_tup (pa_cons (pe_str) (pa_nil))) (pa_cons (pe_tup (pa_cons (pe_str) (pa_nil))) (pa_cons (pe_tup (pa_cons (pe_str) (pa_nil))) (pa_cons (pe_tup (pa_cons (pe_str) (pa_cons (pe_str) (pa_nil)))) (pa_cons (pe_tup (pa_cons (pe_str) (pa_cons (pe_str) (pa_nil)))) (pa_cons (pe_tup (pa_cons (pe_str) (pa_cons (pe_str) (pa_nil)))) (pa_nil))))))))) (pa_nil))))), ?_⟩)
  · obtain ⟨sr, n, s, rfl, _⟩ := h
    rfl
  · obtain ⟨sr, n, s, rfl, hs, sd, k⟩ := h
    (purse 7012 => fail)
    refine g_t0 (by rfl) fun a1 h1 => ?_
    have v1 := Up.new (o := .tup [.str "read", .str "written", .str "changed"]) h1
    have t1 : upd H a1 (.tup [.str "read", .str "written", .str "changed"]) a1 = some (.tup [.str "read", .str "written", .str "changed"]) := upd_same
    generalize upd H a1 (.tup [.str "read", .str "written", .str "changed"]) = H1 at v1 t1 ⊢
    have u1 : Up H H1 := v1
    have e1 := UpX.none h1 (hs)
    (purse 7012 => fail)
    refine g_t0 (by rfl) fun a2 h2 => ?_
    have v2 := Up.new (o := .tup [.str "read"]) h2
    have t2 : upd H1 a2 (.tup [.str "read"]) a2 = some (.tup [.str "read"]) := upd_same
    generalize upd H1 a2 (.tup [.str "read"]) = H2 at v2 t2 ⊢
    have u2 : Up H H2 := u1.trans v2
    have e2 := UpX.none h2 (u1 _ _ hs)
    (purse 7012 => fail)
    refine g_t0 (by rfl) fun a3 h3 => ?_
    have v3 := Up.new (o := .tup [.str "written"]) h3
    have t3 : upd H2 a3 (.tup [.str "written"]) a3 = some (.tup [.str "written"]) := upd_same
    generalize upd H2 a3 (.tup [.str "written"]) = H3 at v3 t3 ⊢
    have u3 : Up H H3 := u2.trans v3
    have e3 := UpX.none h3 (u2 _ _ hs)
    (purse 7012 => fail)
    refine g_t0 (by rfl) fun a4 h4 => ?_
    have v4 := Up.new (o := .tup [.str "changed"]) h4
    have t4 : upd H3 a4 (.tup [.str "changed"]) a4 = some (.tup [.str "changed"]) := upd_same
    generalize upd H3 a4 (.tup [.str "changed"]) = H4 at v4 t4 ⊢
    have u4 : Up H H4 := u3.trans v4
    have e4 := UpX.none h4 (u3 _ _ hs)
    (purse 7012 => fail)
    refine g_t0 (by rfl) fun a5 h5 => ?_
    have v5 := Up.new (o := .tup [.str "read", .str "written"]) h5
    have t5 : upd H4 a5 (.tup [.str "read", .str "written"]) a5 = some (.tup [.str "read", .str "written"]) := upd_same
    generalize upd H4 a5 (.tup [.str "read", .str "written"]) = H5 at v5 t5 ⊢
    have u5 : Up H H5 := u4.trans v5
    have e5 := UpX.none h5 (u4 _ _ hs)
    (purse 7012 => fail)
    refine g_t0 (by rfl) fun a6 h6 => ?_
    have v6 := Up.new (o := .tup [.str "read", .str "changed"]) h6
    have t6 : upd H5 a6 (.tup [.str "read", .str "changed"]) a6 = some (.tup [.str "read", .str "changed"]) := upd_same
    generalize upd H5 a6 (.tup [.str "read", .str "changed"]) = H6 at v6 t6 ⊢
    have u6 : Up H H6 := u5.trans v6
    have e6 := UpX.none h6 (u5 _ _ hs)
    (purse 7012 => fail)
    refine g_t0 (by rfl) fun a7 h7 => ?_
    have v7 := Up.new (o := .tup [.str "written", .str "changed"]) h7
    have t7 : upd H6 a7 (.tup [.str "written", .str "changed"]) a7 = some (.tup [.str "written", .str "changed"]) := upd_same
    generalize upd H6 a7 (.tup [.str "written", .str "changed"]) = H7 at v7 t7 ⊢
    have u7 : Up H H7 := u6.trans v7
    have e7 := UpX.none h7 (u6 _ _ hs)
    (purse 7012 => fail)
    refine g_l0 (by rfl) fun pl hpl => ?_
    have ul := Up.new (o := .lst [.ref a1, .ref a2, .ref a3, .ref a4, .ref a5, .ref a6, .ref a7]) hpl
    have hl : upd H7 pl (.lst [.ref a1, .ref a2, .ref a3, .ref a4, .ref a5, .ref a6, .ref a7]) pl = some (.lst [.ref a1, .ref a2, .ref a3, .ref a4, .ref a5, .ref a6, .ref a7]) := upd_same
    generalize upd H7 pl (.lst [.ref a1, .ref a2, .ref a3, .ref a4, .ref a5, .ref a6, .ref a7]) = H8 at ul hl ⊢
    have u8 := u7.trans ul
    have nl := UpX.none hpl (u7 _ _ hs)
    (purse 7012 => fail)
    refine ⟨sr, pl, n, s, _, rfl, u8 _ _ hs, sd, hl, by simp, by simp, nl, fun v n' s' H' ch hs' hv sd' => ?_⟩
    have w8 : UpX sr H8 H' := UpX.of ch
    have fin : ∀ (a : Addr) (l : List Str), a ≠ sr → H8 a = some (.tup (l.map V.str)) → l ∈ allLk → Q (.ref a) H' := fun a l ne h hl => k a l n' s' H' (u8.toX.trans w8) hs' sd' (w8 _ _ ne h) hl
    simp only [List.mem_cons, List.not_mem_nil, or_false] at hv
    rcases hv with rfl | rfl | rfl | rfl | rfl | rfl | rfl
    · exact fin a1 ["read", "written", "changed"] e1 ((v2.trans (v3.trans (v4.trans (v5.trans (v6.trans (v7.trans (ul))))))) _ _ t1) (by decide)
    · exact fin a2 ["read"] e2 ((v3.trans (v4.trans (v5.trans (v6.trans (v7.trans (ul)))))) _ _ t2) (by decide)
    · exact fin a3 ["written"] e3 ((v4.trans (v5.trans (v6.trans (v7.trans (ul))))) _ _ t3) (by decide)
    · exact fin a4 ["changed"] e4 ((v5.trans (v6.trans (v7.trans (ul)))) _ _ t4) (by decide)
    · exact fin a5 ["read", "written"] e5 ((v6.trans (v7.trans (ul))) _ _ t5) (by decide)
    · exact fin a6 ["read", "changed"] e6 ((v7.trans (ul)) _ _ t6) (by decide)
    · exact fin a7 ["written", "changed"] e7 ((ul) _ _ t7) (by decide)
theorem ok_lparts (F : FnP K "_law_parts" "_law_parts" s_law_parts f fd) (T : TE17 K w mg) (D_law_draw : Dn P w K mg base 2 (ga K "_law_draw") ["source", "amount"] spDraw) (D_law_pick : Dn P w K mg base 4 (ga K "_law_pick") ["source", "items"] spPick) (D_law_looks : Dn P w K mg base 6 (ga K "_law_looks") ["source"] spLk35) :
    FnOk P w K mg base (L2.CX P w) 8 f fd ["source", "most", "grains"] spParts36 := by
  refine F.ok c_law_parts (fun vs H Q E h => ?_) (fun cdv A outer s H vs Q E hr h => ⟨_, pss_cons (ps_set (i := 3) c_law_parts.nd rfl (Or.inl rfl) (pe_disp (pps_cons (pe_str) (pe_dn D_law_draw (rm hr) rfl T.g_law_draw (passes_call (takes_of rfl rfl rfl rfl) fun _ _ _ _ h => h) (pa_cons (pv 0) (pa_cons (pv 1) (pa_nil)))) (pps_cons (pe_str) (pe_dn D_law_looks (rm hr) rfl T.g_law_looks (passes_call (takes_of rfl rfl rfl rfl) fun _ _ _ _ h => h) (pa_cons (pv 0) (pa_nil))) (pps_nil))) rfl rfl (by decide) (by decide)))
      (pss_cons (ps_asg (pe_dn D_law_pick (rm hr) rfl T.g_law_pick (passes_call (takes_of rfl rfl rfl rfl) fun _ _ _ _ h => h) (pa_cons (pv 0) (pa_cons (pe_lst (pa_cons (pe_str) (pa_cons (pe_str) (pa_nil)))) (pa_nil)))) (pg_sub (pv 3) (pe_str) (set_dict (hu_of hr))))
      (pss_cons (ps_asg (pe_ix ix_list (pe_lst (pa_cons (pe_int) (pa_cons (pe_op op_add (pe_int) (pe_dn D_law_draw (rm hr) rfl T.g_law_draw (passes_call (takes_of rfl rfl rfl rfl) fun _ _ _ _ h => h) (pa_cons (pv 0) (pa_cons (pe_int) (pa_nil))))) (pa_nil)))) (pe_dn D_law_draw (rm hr) rfl T.g_law_draw (passes_call (takes_of rfl rfl rfl rfl) fun _ _ _ _ h => h) (pa_cons (pv 0) (pa_cons (pe_int) (pa_nil)))) (fun _ _ => rfl)) (pg_sub (pv 3) (pe_str) (set_dict (hu_of hr))))
      (pss_cons (ps_asg (pe_ix ix_list (pe_lst (pa_cons (pe_int) (pa_cons (pe_op op_add (pe_int) (pe_dn D_law_draw (rm hr) rfl T.g_law_draw (passes_call (takes_of rfl rfl rfl rfl) fun _ _ _ _ h => h) (pa_cons (pv 0) (pa_cons (pv 2) (pa_nil))))) (pa_nil)))) (pe_dn D_law_draw (rm hr) rfl T.g_law_draw (passes_call (takes_of rfl rfl rfl rfl) fun _ _ _ _ h => h) (pa_cons (pv 0) (pa_cons (pe_int) (pa_nil)))) (fun _ _ => rfl)) (pg_sub (pv 3) (pe_str) (set_dict (hu_of hr))))
      (pss_cons (ps_asg (pe_cmpR op_eq (pe_dn D_law_draw (rm hr) rfl T.g_law_draw (passes_call (takes_of rfl rfl rfl rfl) fun _ _ _ _ h => h) (pa_cons (pv 0) (pa_cons (pe_int) (pa_nil)))) (pe_int) (nomark _)) (pg_sub (pv 3) (pe_str) (set_dict (hu_of hr))))
      (pss_cons (ps_asg (pe_ix ix_list (pe_lst (pa_cons (pe_int) (pa_cons (pe_dn D_law_draw (rm hr) rfl T.g_law_draw (passes_call (takes_of rfl rfl rfl rfl) fun _ _ _ _ h => h) (pa_cons (pv 0) (pa_cons (pe_int) (pa_nil)))) (pa_nil)))) (pe_dn D_law_draw (rm hr) rfl T.g_law_draw (passes_call (takes_of rfl rfl rfl rfl) fun _ _ _ _ h => h) (pa_cons (pv 0) (pa_cons (pe_int) (pa_nil)))) (fun _ _ => rfl)) (pg_sub (pv 3) (pe_str) (set_dict (hu_of hr))))
      (pss_cons (ps_asg (pe_cmpR op_eq (pe_dn D_law_draw (rm hr) rfl T.g_law_draw (passes_call (takes_of rfl rfl rfl rfl) fun _ _ _ _ h => h) (pa_cons (pv 0) (pa_cons (pe_int) (pa_nil)))) (pe_int) (nomark _)) (pg_sub (pv 3) (pe_str) (set_dict (hu_of hr))))
      (pss_cons (ps_asg (pe_op op_add (pe_int) (pe_dn D_law_draw (rm hr) rfl T.g_law_draw (passes_call (takes_of rfl rfl rfl rfl) fun _ _ _ _ h => h) (pa_cons (pv 0) (pa_cons (pe_int) (pa_nil))))) (pg_sub (pv 3) (pe_str) (set_dict (hu_of hr))))
      (pss_one (ps_ret (pv 3)))))))))), ?_⟩)
  · obtain ⟨sr, n, s, ma, gb, rfl, _⟩ := h
    rfl
  · obtain ⟨sr, n, s, ma, gb, rfl, ma0, ma1, gb0, gb1, hs, sd, k⟩ := h
    (purse 7012 => fail)
    refine fun pd hpd => ?_
    have nd := UpX.none hpd hs
    have u1 : Up H (upd H pd (.dK [])) := Up.new hpd
    have hd1 : upd H pd (.dK []) pd = some (.dK []) := upd_same
    generalize upd H pd (.dK []) = H1 at u1 hd1 ⊢
    (purse 7012 => fail)
    refine ⟨sr, n, s, ma, rfl, u1 _ _ hs, sd, by omega, by omega, fun b n2 s2 H2 ch2 hs2 b0 b1 sd2 => ?_⟩
    have w2 : UpX sr H1 H2 := UpX.of ch2
    (purse 7012 => fail)
    refine ⟨sr, n2, s2, rfl, hs2, sd2, fun t l n3 s3 H3 w3 hs3 sd3 ht3 hl3 => ?_⟩
    have W3 : UpX sr H H3 := u1.toX.trans (w2.trans w3)
    have hd3 : H3 pd = some (.dK []) := (w2.trans w3) _ _ nd hd1
    have nt : t ≠ sr := fun z => by rw [z, hs3] at ht3; cases ht3
    have ntd : t ≠ pd := fun z => by rw [z, hd3] at ht3; cases ht3
    have nsd : sr ≠ pd := fun z => nd z.symm
    (purse 7012 => fail)
    refine ⟨hd3, [(.inr "bound", .int b), (.inr "looks", .ref t)], rfl, by exact Nat.le_of_ble_eq_true rfl, ?_⟩
    rw [show mergeK [] [((.inr "bound", .int b) : Key × V), (.inr "looks", .ref t)] = [(.inr "bound", .int b), (.inr "looks", .ref t)] from rfl]
    have W4 : UpX sr H (upd H3 pd (.dK [(.inr "bound", .int b), (.inr "looks", .ref t)])) := UpX.setF W3 hpd
    have hs4 : upd H3 pd (.dK [(.inr "bound", .int b), (.inr "looks", .ref t)]) sr = some (.lst [.int n3, .int s3]) := by rw [upd_ne nsd]; exact hs3
    have ht4 : upd H3 pd (.dK [(.inr "bound", .int b), (.inr "looks", .ref t)]) t = some (.tup (l.map V.str)) := by rw [upd_ne ntd]; exact ht3
    have hd4 : upd H3 pd (.dK [(.inr "bound", .int b), (.inr "looks", .ref t)]) pd = some (.dK [(.inr "bound", .int b), (.inr "looks", .ref t)]) := upd_same
    generalize upd H3 pd (.dK [(.inr "bound", .int b), (.inr "looks", .ref t)]) = H4 at W4 hs4 ht4 hd4 ⊢
    have sd4 := sd3
    generalize n3 = n4 at hs4 sd4
    generalize s3 = s4 at hs4 sd4
    (purse 7012 => fail)
    refine g_l0 (by rfl) fun ph hpph => ?_
    have v5 := Up.new (o := .lst [.str "above", .str "from"]) hpph
    have lph : upd H4 ph (.lst [.str "above", .str "from"]) ph = some (.lst [.str "above", .str "from"]) := upd_same
    have nph := UpX.none hpph hs4
    generalize upd H4 ph (.lst [.str "above", .str "from"]) = H5 at v5 lph ⊢
    have W5 : UpX sr H H5 := W4.trans v5.toX
    have hs5 := v5 _ _ hs4
    have hd5 := v5 _ _ hd4
    have ht5 := v5 _ _ ht4
    have sd5 := sd4
    generalize n4 = n5 at hs5 sd5
    generalize s4 = s5 at hs5 sd5
    (purse 7012 => fail)
    refine ⟨sr, ph, n5, s5, _, rfl, hs5, sd5, lph, by decide, by decide, nph, fun vh n6 s6 H6 ch6 hs6 hvh sd6 => ?_⟩
    have w6 : UpX sr H5 H6 := UpX.of ch6
    have W6 : UpX sr H H6 := W5.trans w6
    have hd6 := w6 _ _ nd hd5
    have ht6 := w6 _ _ nt ht5
    obtain ⟨ab, rfl⟩ : ∃ ab, vh = .str (hw ab) := by
      simp only [List.mem_cons, List.not_mem_nil, or_false] at hvh
      rcases hvh with rfl | rfl
      · exact ⟨true, rfl⟩
      · exact ⟨false, rfl⟩
    (purse 7012 => fail)
    refine g_setU hd6 (by rfl) ?_
    rw [show putK ([(.inr "bound", .int b), (.inr "looks", .ref t)] : List (Key × V)) (.inr "how" : Key) (.str (hw ab)) = [(.inr "bound", .int b), (.inr "looks", .ref t), (.inr "how", .str (hw ab))] from rfl]
    have W7 : UpX sr H (upd H6 pd (.dK [(.inr "bound", .int b), (.inr "looks", .ref t), (.inr "how", .str (hw ab))])) := UpX.setF W6 hpd
    have hs7 : upd H6 pd (.dK [(.inr "bound", .int b), (.inr "looks", .ref t), (.inr "how", .str (hw ab))]) sr = some (.lst [.int n6, .int s6]) := by rw [upd_ne nsd]; exact hs6
    have ht7 : upd H6 pd (.dK [(.inr "bound", .int b), (.inr "looks", .ref t), (.inr "how", .str (hw ab))]) t = some (.tup (l.map V.str)) := by rw [upd_ne ntd]; exact ht6
    have hd7 : upd H6 pd (.dK [(.inr "bound", .int b), (.inr "looks", .ref t), (.inr "how", .str (hw ab))]) pd = some (.dK [(.inr "bound", .int b), (.inr "looks", .ref t), (.inr "how", .str (hw ab))]) := upd_same
    generalize upd H6 pd (.dK [(.inr "bound", .int b), (.inr "looks", .ref t), (.inr "how", .str (hw ab))]) = H7 at W7 hs7 ht7 hd7 ⊢
    have sd7 := sd6
    generalize n6 = n7 at hs7 sd7
    generalize s6 = s7 at hs7 sd7
    (purse 7012 => fail)
    refine ⟨sr, n7, s7, 4, rfl, hs7, sd7, by omega, by omega, fun xdy n8 s8 H8 ch8 hs8 xdy0 xdy1 sd8 => ?_⟩
    have w8 : UpX sr H7 H8 := UpX.of ch8
    have W8 : UpX sr H H8 := W7.trans w8
    have hd8 := w8 _ _ nd hd7
    have ht8 := w8 _ _ nt ht7
    (purse 7012 => fail)
    refine g_l0 (by rfl) fun qdy hpqdy => ?_
    have v9 := Up.new (o := .lst [.int 1, .int (1 + xdy)]) hpqdy
    have lqdy : upd H8 qdy (.lst [.int 1, .int (1 + xdy)]) qdy = some (.lst [.int 1, .int (1 + xdy)]) := upd_same
    have nqdy := UpX.none hpqdy hs8
    generalize upd H8 qdy (.lst [.int 1, .int (1 + xdy)]) = H9 at v9 lqdy ⊢
    have W9 : UpX sr H H9 := W8.trans v9.toX
    have hs9 := v9 _ _ hs8
    have hd9 := v9 _ _ hd8
    have ht9 := v9 _ _ ht8
    have sd9 := sd8
    generalize n8 = n9 at hs9 sd9
    generalize s8 = s9 at hs9 sd9
    (purse 7012 => fail)
    refine ⟨sr, n9, s9, 2, rfl, hs9, sd9, by omega, by omega, fun idy n10 s10 H10 ch10 hs10 idy0 idy1 sd10 => ?_⟩
    have w10 : UpX sr H9 H10 := UpX.of ch10
    have W10 : UpX sr H H10 := W9.trans w10
    have hd10 := w10 _ _ nd hd9
    have ht10 := w10 _ _ nt ht9
    obtain ⟨dy, hxdy, dy0, dy1⟩ : ∃ v : Int, atI [V.int 1, V.int (1 + xdy)] idy = some (.int v) ∧ 1 ≤ v ∧ v ≤ 4 := by
      rcases (show idy = 0 ∨ idy = 1 by omega) with rfl | rfl
      · exact ⟨1, rfl, by decide, by decide⟩
      · exact ⟨_, rfl, by omega, by omega⟩
    refine g_ixL (w10 _ _ nqdy lqdy) hxdy ?_
    (purse 7012 => fail)
    refine g_setU hd10 (by rfl) ?_
    rw [show putK ([(.inr "bound", .int b), (.inr "looks", .ref t), (.inr "how", .str (hw ab))] : List (Key × V)) (.inr "day" : Key) (.int dy) = [(.inr "bound", .int b), (.inr "looks", .ref t), (.inr "how", .str (hw ab)), (.inr "day", .int dy)] from rfl]
    have W11 : UpX sr H (upd H10 pd (.dK [(.inr "bound", .int b), (.inr "looks", .ref t), (.inr "how", .str (hw ab)), (.inr "day", .int dy)])) := UpX.setF W10 hpd
    have hs11 : upd H10 pd (.dK [(.inr "bound", .int b), (.inr "looks", .ref t), (.inr "how", .str (hw ab)), (.inr "day", .int dy)]) sr = some (.lst [.int n10, .int s10]) := by rw [upd_ne nsd]; exact hs10
    have ht11 : upd H10 pd (.dK [(.inr "bound", .int b), (.inr "looks", .ref t), (.inr "how", .str (hw ab)), (.inr "day", .int dy)]) t = some (.tup (l.map V.str)) := by rw [upd_ne ntd]; exact ht10
    have hd11 : upd H10 pd (.dK [(.inr "bound", .int b), (.inr "looks", .ref t), (.inr "how", .str (hw ab)), (.inr "day", .int dy)]) pd = some (.dK [(.inr "bound", .int b), (.inr "looks", .ref t), (.inr "how", .str (hw ab)), (.inr "day", .int dy)]) := upd_same
    generalize upd H10 pd (.dK [(.inr "bound", .int b), (.inr "looks", .ref t), (.inr "how", .str (hw ab)), (.inr "day", .int dy)]) = H11 at W11 hs11 ht11 hd11 ⊢
    have sd11 := sd10
    generalize n10 = n11 at hs11 sd11
    generalize s10 = s11 at hs11 sd11
    (purse 7012 => fail)
    refine ⟨sr, n11, s11, gb, rfl, hs11, sd11, by omega, by omega, fun xgr n12 s12 H12 ch12 hs12 xgr0 xgr1 sd12 => ?_⟩
    have w12 : UpX sr H11 H12 := UpX.of ch12
    have W12 : UpX sr H H12 := W11.trans w12
    have hd12 := w12 _ _ nd hd11
    have ht12 := w12 _ _ nt ht11
    (purse 7012 => fail)
    refine g_l0 (by rfl) fun qgr hpqgr => ?_
    have v13 := Up.new (o := .lst [.int 1, .int (1 + xgr)]) hpqgr
    have lqgr : upd H12 qgr (.lst [.int 1, .int (1 + xgr)]) qgr = some (.lst [.int 1, .int (1 + xgr)]) := upd_same
    have nqgr := UpX.none hpqgr hs12
    generalize upd H12 qgr (.lst [.int 1, .int (1 + xgr)]) = H13 at v13 lqgr ⊢
    have W13 : UpX sr H H13 := W12.trans v13.toX
    have hs13 := v13 _ _ hs12
    have hd13 := v13 _ _ hd12
    have ht13 := v13 _ _ ht12
    have sd13 := sd12
    generalize n12 = n13 at hs13 sd13
    generalize s12 = s13 at hs13 sd13
    (purse 7012 => fail)
    refine ⟨sr, n13, s13, 2, rfl, hs13, sd13, by omega, by omega, fun igr n14 s14 H14 ch14 hs14 igr0 igr1 sd14 => ?_⟩
    have w14 : UpX sr H13 H14 := UpX.of ch14
    have W14 : UpX sr H H14 := W13.trans w14
    have hd14 := w14 _ _ nd hd13
    have ht14 := w14 _ _ nt ht13
    obtain ⟨gr, hxgr, gr0, gr1⟩ : ∃ v : Int, atI [V.int 1, V.int (1 + xgr)] igr = some (.int v) ∧ 1 ≤ v ∧ v ≤ 100 := by
      rcases (show igr = 0 ∨ igr = 1 by omega) with rfl | rfl
      · exact ⟨1, rfl, by decide, by decide⟩
      · exact ⟨_, rfl, by omega, by omega⟩
    refine g_ixL (w14 _ _ nqgr lqgr) hxgr ?_
    (purse 7012 => fail)
    refine g_setU hd14 (by rfl) ?_
    rw [show putK ([(.inr "bound", .int b), (.inr "looks", .ref t), (.inr "how", .str (hw ab)), (.inr "day", .int dy)] : List (Key × V)) (.inr "grain" : Key) (.int gr) = [(.inr "bound", .int b), (.inr "looks", .ref t), (.inr "how", .str (hw ab)), (.inr "day", .int dy), (.inr "grain", .int gr)] from rfl]
    have W15 : UpX sr H (upd H14 pd (.dK [(.inr "bound", .int b), (.inr "looks", .ref t), (.inr "how", .str (hw ab)), (.inr "day", .int dy), (.inr "grain", .int gr)])) := UpX.setF W14 hpd
    have hs15 : upd H14 pd (.dK [(.inr "bound", .int b), (.inr "looks", .ref t), (.inr "how", .str (hw ab)), (.inr "day", .int dy), (.inr "grain", .int gr)]) sr = some (.lst [.int n14, .int s14]) := by rw [upd_ne nsd]; exact hs14
    have ht15 : upd H14 pd (.dK [(.inr "bound", .int b), (.inr "looks", .ref t), (.inr "how", .str (hw ab)), (.inr "day", .int dy), (.inr "grain", .int gr)]) t = some (.tup (l.map V.str)) := by rw [upd_ne ntd]; exact ht14
    have hd15 : upd H14 pd (.dK [(.inr "bound", .int b), (.inr "looks", .ref t), (.inr "how", .str (hw ab)), (.inr "day", .int dy), (.inr "grain", .int gr)]) pd = some (.dK [(.inr "bound", .int b), (.inr "looks", .ref t), (.inr "how", .str (hw ab)), (.inr "day", .int dy), (.inr "grain", .int gr)]) := upd_same
    generalize upd H14 pd (.dK [(.inr "bound", .int b), (.inr "looks", .ref t), (.inr "how", .str (hw ab)), (.inr "day", .int dy), (.inr "grain", .int gr)]) = H15 at W15 hs15 ht15 hd15 ⊢
    have sd15 := sd14
    generalize n14 = n15 at hs15 sd15
    generalize s14 = s15 at hs15 sd15
    (purse 7012 => fail)
    refine ⟨sr, n15, s15, 2, rfl, hs15, sd15, by omega, by omega, fun xs n16 s16 H16 ch16 hs16 xs0 xs1 sd16 => ?_⟩
    have w16 : UpX sr H15 H16 := UpX.of ch16
    have W16 : UpX sr H H16 := W15.trans w16
    have hd16 := w16 _ _ nd hd15
    have ht16 := w16 _ _ nt ht15
    (purse 7012 => fail)
    refine g_setU hd16 (by rfl) ?_
    rw [show putK ([(.inr "bound", .int b), (.inr "looks", .ref t), (.inr "how", .str (hw ab)), (.inr "day", .int dy), (.inr "grain", .int gr)] : List (Key × V)) (.inr "spares" : Key) (.bl (decide (xs = 0))) = [(.inr "bound", .int b), (.inr "looks", .ref t), (.inr "how", .str (hw ab)), (.inr "day", .int dy), (.inr "grain", .int gr), (.inr "spares", .bl (decide (xs = 0)))] from rfl]
    have W17 : UpX sr H (upd H16 pd (.dK [(.inr "bound", .int b), (.inr "looks", .ref t), (.inr "how", .str (hw ab)), (.inr "day", .int dy), (.inr "grain", .int gr), (.inr "spares", .bl (decide (xs = 0)))])) := UpX.setF W16 hpd
    have hs17 : upd H16 pd (.dK [(.inr "bound", .int b), (.inr "looks", .ref t), (.inr "how", .str (hw ab)), (.inr "day", .int dy), (.inr "grain", .int gr), (.inr "spares", .bl (decide (xs = 0)))]) sr = some (.lst [.int n16, .int s16]) := by rw [upd_ne nsd]; exact hs16
    have ht17 : upd H16 pd (.dK [(.inr "bound", .int b), (.inr "looks", .ref t), (.inr "how", .str (hw ab)), (.inr "day", .int dy), (.inr "grain", .int gr), (.inr "spares", .bl (decide (xs = 0)))]) t = some (.tup (l.map V.str)) := by rw [upd_ne ntd]; exact ht16
    have hd17 : upd H16 pd (.dK [(.inr "bound", .int b), (.inr "looks", .ref t), (.inr "how", .str (hw ab)), (.inr "day", .int dy), (.inr "grain", .int gr), (.inr "spares", .bl (decide (xs = 0)))]) pd = some (.dK [(.inr "bound", .int b), (.inr "looks", .ref t), (.inr "how", .str (hw ab)), (.inr "day", .int dy), (.inr "grain", .int gr), (.inr "spares", .bl (decide (xs = 0)))]) := upd_same
    generalize upd H16 pd (.dK [(.inr "bound", .int b), (.inr "looks", .ref t), (.inr "how", .str (hw ab)), (.inr "day", .int dy), (.inr "grain", .int gr), (.inr "spares", .bl (decide (xs = 0)))]) = H17 at W17 hs17 ht17 hd17 ⊢
    have sd17 := sd16
    generalize n16 = n17 at hs17 sd17
    generalize s16 = s17 at hs17 sd17
    (purse 7012 => fail)
    refine ⟨sr, n17, s17, 4, rfl, hs17, sd17, by omega, by omega, fun xlt n18 s18 H18 ch18 hs18 xlt0 xlt1 sd18 => ?_⟩
    have w18 : UpX sr H17 H18 := UpX.of ch18
    have W18 : UpX sr H H18 := W17.trans w18
    have hd18 := w18 _ _ nd hd17
    have ht18 := w18 _ _ nt ht17
    (purse 7012 => fail)
    refine g_l0 (by rfl) fun qlt hpqlt => ?_
    have v19 := Up.new (o := .lst [.int 0, .int xlt]) hpqlt
    have lqlt : upd H18 qlt (.lst [.int 0, .int xlt]) qlt = some (.lst [.int 0, .int xlt]) := upd_same
    have nqlt := UpX.none hpqlt hs18
    generalize upd H18 qlt (.lst [.int 0, .int xlt]) = H19 at v19 lqlt ⊢
    have W19 : UpX sr H H19 := W18.trans v19.toX
    have hs19 := v19 _ _ hs18
    have hd19 := v19 _ _ hd18
    have ht19 := v19 _ _ ht18
    have sd19 := sd18
    generalize n18 = n19 at hs19 sd19
    generalize s18 = s19 at hs19 sd19
    (purse 7012 => fail)
    refine ⟨sr, n19, s19, 2, rfl, hs19, sd19, by omega, by omega, fun ilt n20 s20 H20 ch20 hs20 ilt0 ilt1 sd20 => ?_⟩
    have w20 : UpX sr H19 H20 := UpX.of ch20
    have W20 : UpX sr H H20 := W19.trans w20
    have hd20 := w20 _ _ nd hd19
    have ht20 := w20 _ _ nt ht19
    obtain ⟨lt, hxlt, lt0, lt1⟩ : ∃ v : Int, atI [V.int 0, V.int xlt] ilt = some (.int v) ∧ 0 ≤ v ∧ v ≤ 3 := by
      rcases (show ilt = 0 ∨ ilt = 1 by omega) with rfl | rfl
      · exact ⟨0, rfl, by decide, by decide⟩
      · exact ⟨_, rfl, by omega, by omega⟩
    refine g_ixL (w20 _ _ nqlt lqlt) hxlt ?_
    (purse 7012 => fail)
    refine g_setU hd20 (by rfl) ?_
    rw [show putK ([(.inr "bound", .int b), (.inr "looks", .ref t), (.inr "how", .str (hw ab)), (.inr "day", .int dy), (.inr "grain", .int gr), (.inr "spares", .bl (decide (xs = 0)))] : List (Key × V)) (.inr "late" : Key) (.int lt) = [(.inr "bound", .int b), (.inr "looks", .ref t), (.inr "how", .str (hw ab)), (.inr "day", .int dy), (.inr "grain", .int gr), (.inr "spares", .bl (decide (xs = 0))), (.inr "late", .int lt)] from rfl]
    have W21 : UpX sr H (upd H20 pd (.dK [(.inr "bound", .int b), (.inr "looks", .ref t), (.inr "how", .str (hw ab)), (.inr "day", .int dy), (.inr "grain", .int gr), (.inr "spares", .bl (decide (xs = 0))), (.inr "late", .int lt)])) := UpX.setF W20 hpd
    have hs21 : upd H20 pd (.dK [(.inr "bound", .int b), (.inr "looks", .ref t), (.inr "how", .str (hw ab)), (.inr "day", .int dy), (.inr "grain", .int gr), (.inr "spares", .bl (decide (xs = 0))), (.inr "late", .int lt)]) sr = some (.lst [.int n20, .int s20]) := by rw [upd_ne nsd]; exact hs20
    have ht21 : upd H20 pd (.dK [(.inr "bound", .int b), (.inr "looks", .ref t), (.inr "how", .str (hw ab)), (.inr "day", .int dy), (.inr "grain", .int gr), (.inr "spares", .bl (decide (xs = 0))), (.inr "late", .int lt)]) t = some (.tup (l.map V.str)) := by rw [upd_ne ntd]; exact ht20
    have hd21 : upd H20 pd (.dK [(.inr "bound", .int b), (.inr "looks", .ref t), (.inr "how", .str (hw ab)), (.inr "day", .int dy), (.inr "grain", .int gr), (.inr "spares", .bl (decide (xs = 0))), (.inr "late", .int lt)]) pd = some (.dK [(.inr "bound", .int b), (.inr "looks", .ref t), (.inr "how", .str (hw ab)), (.inr "day", .int dy), (.inr "grain", .int gr), (.inr "spares", .bl (decide (xs = 0))), (.inr "late", .int lt)]) := upd_same
    generalize upd H20 pd (.dK [(.inr "bound", .int b), (.inr "looks", .ref t), (.inr "how", .str (hw ab)), (.inr "day", .int dy), (.inr "grain", .int gr), (.inr "spares", .bl (decide (xs = 0))), (.inr "late", .int lt)]) = H21 at W21 hs21 ht21 hd21 ⊢
    have sd21 := sd20
    generalize n20 = n21 at hs21 sd21
    generalize s20 = s21 at hs21 sd21
    (purse 7012 => fail)
    refine ⟨sr, n21, s21, 2, rfl, hs21, sd21, by omega, by omega, fun xa n22 s22 H22 ch22 hs22 xa0 xa1 sd22 => ?_⟩
    have w22 : UpX sr H21 H22 := UpX.of ch22
    have W22 : UpX sr H H22 := W21.trans w22
    have hd22 := w22 _ _ nd hd21
    have ht22 := w22 _ _ nt ht21
    (purse 7012 => fail)
    refine g_setU hd22 (by rfl) ?_
    rw [show putK ([(.inr "bound", .int b), (.inr "looks", .ref t), (.inr "how", .str (hw ab)), (.inr "day", .int dy), (.inr "grain", .int gr), (.inr "spares", .bl (decide (xs = 0))), (.inr "late", .int lt)] : List (Key × V)) (.inr "again" : Key) (.bl (decide (xa = 0))) = [(.inr "bound", .int b), (.inr "looks", .ref t), (.inr "how", .str (hw ab)), (.inr "day", .int dy), (.inr "grain", .int gr), (.inr "spares", .bl (decide (xs = 0))), (.inr "late", .int lt), (.inr "again", .bl (decide (xa = 0)))] from rfl]
    have W23 : UpX sr H (upd H22 pd (.dK [(.inr "bound", .int b), (.inr "looks", .ref t), (.inr "how", .str (hw ab)), (.inr "day", .int dy), (.inr "grain", .int gr), (.inr "spares", .bl (decide (xs = 0))), (.inr "late", .int lt), (.inr "again", .bl (decide (xa = 0)))])) := UpX.setF W22 hpd
    have hs23 : upd H22 pd (.dK [(.inr "bound", .int b), (.inr "looks", .ref t), (.inr "how", .str (hw ab)), (.inr "day", .int dy), (.inr "grain", .int gr), (.inr "spares", .bl (decide (xs = 0))), (.inr "late", .int lt), (.inr "again", .bl (decide (xa = 0)))]) sr = some (.lst [.int n22, .int s22]) := by rw [upd_ne nsd]; exact hs22
    have ht23 : upd H22 pd (.dK [(.inr "bound", .int b), (.inr "looks", .ref t), (.inr "how", .str (hw ab)), (.inr "day", .int dy), (.inr "grain", .int gr), (.inr "spares", .bl (decide (xs = 0))), (.inr "late", .int lt), (.inr "again", .bl (decide (xa = 0)))]) t = some (.tup (l.map V.str)) := by rw [upd_ne ntd]; exact ht22
    have hd23 : upd H22 pd (.dK [(.inr "bound", .int b), (.inr "looks", .ref t), (.inr "how", .str (hw ab)), (.inr "day", .int dy), (.inr "grain", .int gr), (.inr "spares", .bl (decide (xs = 0))), (.inr "late", .int lt), (.inr "again", .bl (decide (xa = 0)))]) pd = some (.dK [(.inr "bound", .int b), (.inr "looks", .ref t), (.inr "how", .str (hw ab)), (.inr "day", .int dy), (.inr "grain", .int gr), (.inr "spares", .bl (decide (xs = 0))), (.inr "late", .int lt), (.inr "again", .bl (decide (xa = 0)))]) := upd_same
    generalize upd H22 pd (.dK [(.inr "bound", .int b), (.inr "looks", .ref t), (.inr "how", .str (hw ab)), (.inr "day", .int dy), (.inr "grain", .int gr), (.inr "spares", .bl (decide (xs = 0))), (.inr "late", .int lt), (.inr "again", .bl (decide (xa = 0)))]) = H23 at W23 hs23 ht23 hd23 ⊢
    have sd23 := sd22
    generalize n22 = n23 at hs23 sd23
    generalize s22 = s23 at hs23 sd23
    (purse 7012 => fail)
    refine ⟨sr, n23, s23, 5, rfl, hs23, sd23, by omega, by omega, fun xp n24 s24 H24 ch24 hs24 xp0 xp1 sd24 => ?_⟩
    have w24 : UpX sr H23 H24 := UpX.of ch24
    have W24 : UpX sr H H24 := W23.trans w24
    have hd24 := w24 _ _ nd hd23
    have ht24 := w24 _ _ nt ht23
    (purse 7012 => fail)
    refine g_setU hd24 (by rfl) ?_
    rw [show putK ([(.inr "bound", .int b), (.inr "looks", .ref t), (.inr "how", .str (hw ab)), (.inr "day", .int dy), (.inr "grain", .int gr), (.inr "spares", .bl (decide (xs = 0))), (.inr "late", .int lt), (.inr "again", .bl (decide (xa = 0)))] : List (Key × V)) (.inr "period" : Key) (.int (1 + xp)) = [(.inr "bound", .int b), (.inr "looks", .ref t), (.inr "how", .str (hw ab)), (.inr "day", .int dy), (.inr "grain", .int gr), (.inr "spares", .bl (decide (xs = 0))), (.inr "late", .int lt), (.inr "again", .bl (decide (xa = 0))), (.inr "period", .int (1 + xp))] from rfl]
    have W25 : UpX sr H (upd H24 pd (.dK [(.inr "bound", .int b), (.inr "looks", .ref t), (.inr "how", .str (hw ab)), (.inr "day", .int dy), (.inr "grain", .int gr), (.inr "spares", .bl (decide (xs = 0))), (.inr "late", .int lt), (.inr "again", .bl (decide (xa = 0))), (.inr "period", .int (1 + xp))])) := UpX.setF W24 hpd
    have hs25 : upd H24 pd (.dK [(.inr "bound", .int b), (.inr "looks", .ref t), (.inr "how", .str (hw ab)), (.inr "day", .int dy), (.inr "grain", .int gr), (.inr "spares", .bl (decide (xs = 0))), (.inr "late", .int lt), (.inr "again", .bl (decide (xa = 0))), (.inr "period", .int (1 + xp))]) sr = some (.lst [.int n24, .int s24]) := by rw [upd_ne nsd]; exact hs24
    have ht25 : upd H24 pd (.dK [(.inr "bound", .int b), (.inr "looks", .ref t), (.inr "how", .str (hw ab)), (.inr "day", .int dy), (.inr "grain", .int gr), (.inr "spares", .bl (decide (xs = 0))), (.inr "late", .int lt), (.inr "again", .bl (decide (xa = 0))), (.inr "period", .int (1 + xp))]) t = some (.tup (l.map V.str)) := by rw [upd_ne ntd]; exact ht24
    have hd25 : upd H24 pd (.dK [(.inr "bound", .int b), (.inr "looks", .ref t), (.inr "how", .str (hw ab)), (.inr "day", .int dy), (.inr "grain", .int gr), (.inr "spares", .bl (decide (xs = 0))), (.inr "late", .int lt), (.inr "again", .bl (decide (xa = 0))), (.inr "period", .int (1 + xp))]) pd = some (.dK [(.inr "bound", .int b), (.inr "looks", .ref t), (.inr "how", .str (hw ab)), (.inr "day", .int dy), (.inr "grain", .int gr), (.inr "spares", .bl (decide (xs = 0))), (.inr "late", .int lt), (.inr "again", .bl (decide (xa = 0))), (.inr "period", .int (1 + xp))]) := upd_same
    generalize upd H24 pd (.dK [(.inr "bound", .int b), (.inr "looks", .ref t), (.inr "how", .str (hw ab)), (.inr "day", .int dy), (.inr "grain", .int gr), (.inr "spares", .bl (decide (xs = 0))), (.inr "late", .int lt), (.inr "again", .bl (decide (xa = 0))), (.inr "period", .int (1 + xp))]) = H25 at W25 hs25 ht25 hd25 ⊢
    have sd25 := sd24
    generalize n24 = n25 at hs25 sd25
    generalize s24 = s25 at hs25 sd25
    (purse 7012 => fail)
    exact k pd ⟨b, l, ab, dy, gr, decide (xs = 0), lt, decide (xa = 0), 1 + xp⟩ n25 s25 H25 hpd W25 hs25 sd25 ⟨t, hd25, ht25⟩ ⟨b0, by show b ≤ 1000000000000; omega, hl3, dy0, by show dy ≤ 1000000000; omega, gr0, by show gr ≤ 1000000; omega, lt0, by show lt ≤ 1000000000; omega, by show 1 ≤ 1 + xp; omega, by show 1 + xp ≤ 1000000000; omega⟩
local macro_rules | `(tactic| purse 7001 => fail) => `(tactic| first | (with_reducible refine g_pow10_9 ?_) | (with_reducible refine g_pow10_12 ?_))
theorem ok_lwide (F : FnP K "_law_wide" "_law_wide" s_law_wide f fd) (T : TE17 K w mg) (D_law_draw : Dn P w K mg base 2 (ga K "_law_draw") ["source", "amount"] spDraw) (D_law_pick : Dn P w K mg base 4 (ga K "_law_pick") ["source", "items"] spPick) (D_law_looks : Dn P w K mg base 6 (ga K "_law_looks") ["source"] spLk35) :
    FnOk P w K mg base (L2.CX P w) 8 f fd ["source"] (spParts17 K []) := by
  refine F.ok c_law_wide (fun vs H Q E h => ?_) (fun cdv A outer s H vs Q E hr h => ⟨_, pss_cons (ps_set (i := 1) c_law_wide.nd rfl (Or.inl rfl) (pe_disp (pps_cons (pe_str) (pe_dn D_law_draw (rm hr) rfl T.g_law_draw (passes_call (takes_of rfl rfl rfl rfl) fun _ _ _ _ h => h) (pa_cons (pv 0) (pa_cons (pe_op op_add (pe_op op_pow (pe_int) (pe_int)) (pe_int)) (pa_nil)))) (pps_cons (pe_str) (pe_dn D_law_looks (rm hr) rfl T.g_law_looks (passes_call (takes_of rfl rfl rfl rfl) fun _ _ _ _ h => h) (pa_cons (pv 0) (pa_nil))) (pps_nil))) rfl rfl (by decide) (by decide)))
      (pss_cons (ps_asg (pe_dn D_law_pick (rm hr) rfl T.g_law_pick (passes_call (takes_of rfl rfl rfl rfl) fun _ _ _ _ h => h) (pa_cons (pv 0) (pa_cons (pe_lst (pa_cons (pe_str) (pa_cons (pe_str) (pa_nil)))) (pa_nil)))) (pg_sub (pv 1) (pe_str) (set_dict (hu_of hr))))
      (pss_cons (ps_asg (pe_op op_add (pe_int) (pe_dn D_law_draw (rm hr) rfl T.g_law_draw (passes_call (takes_of rfl rfl rfl rfl) fun _ _ _ _ h => h) (pa_cons (pv 0) (pa_cons (pe_op op_pow (pe_int) (pe_int)) (pa_nil))))) (pg_sub (pv 1) (pe_str) (set_dict (hu_of hr))))
      (pss_cons (ps_asg (pe_op op_add (pe_int) (pe_dn D_law_draw (rm hr) rfl T.g_law_draw (passes_call (takes_of rfl rfl rfl rfl) fun _ _ _ _ h => h) (pa_cons (pv 0) (pa_cons (pe_op op_pow (pe_int) (pe_int)) (pa_nil))))) (pg_sub (pv 1) (pe_str) (set_dict (hu_of hr))))
      (pss_cons (ps_asg (pe_cmpR op_eq (pe_dn D_law_draw (rm hr) rfl T.g_law_draw (passes_call (takes_of rfl rfl rfl rfl) fun _ _ _ _ h => h) (pa_cons (pv 0) (pa_cons (pe_int) (pa_nil)))) (pe_int) (nomark _)) (pg_sub (pv 1) (pe_str) (set_dict (hu_of hr))))
      (pss_cons (ps_asg (pe_dn D_law_draw (rm hr) rfl T.g_law_draw (passes_call (takes_of rfl rfl rfl rfl) fun _ _ _ _ h => h) (pa_cons (pv 0) (pa_cons (pe_op op_add (pe_op op_pow (pe_int) (pe_int)) (pe_int)) (pa_nil)))) (pg_sub (pv 1) (pe_str) (set_dict (hu_of hr))))
      (pss_cons (ps_asg (pe_cmpR op_eq (pe_dn D_law_draw (rm hr) rfl T.g_law_draw (passes_call (takes_of rfl rfl rfl rfl) fun _ _ _ _ h => h) (pa_cons (pv 0) (pa_cons (pe_int) (pa_nil)))) (pe_int) (nomark _)) (pg_sub (pv 1) (pe_str) (set_dict (hu_of hr))))
      (pss_cons (ps_asg (pe_op op_add (pe_int) (pe_dn D_law_draw (rm hr) rfl T.g_law_draw (passes_call (takes_of rfl rfl rfl rfl) fun _ _ _ _ h => h) (pa_cons (pv 0) (pa_cons (pe_op op_pow (pe_int) (pe_int)) (pa_nil))))) (pg_sub (pv 1) (pe_str) (set_dict (hu_of hr))))
      (pss_one (ps_ret (pv 1)))))))))), ?_⟩)
  · obtain ⟨sr, n, s, rfl, _⟩ := h
    rfl
  · obtain ⟨sr, n, s, rfl, hs, sd, k⟩ := h
    (purse 7012 => fail)
    refine fun pd hpd => ?_
    have nd := UpX.none hpd hs
    have u1 : Up H (upd H pd (.dK [])) := Up.new hpd
    have hd1 : upd H pd (.dK []) pd = some (.dK []) := upd_same
    generalize upd H pd (.dK []) = H1 at u1 hd1 ⊢
    (purse 7012 => fail)
    refine ⟨sr, n, s, 1000000000001, rfl, u1 _ _ hs, sd, by omega, by omega, fun b n2 s2 H2 ch2 hs2 b0 b1 sd2 => ?_⟩
    have w2 : UpX sr H1 H2 := UpX.of ch2
    (purse 7012 => fail)
    refine ⟨sr, n2, s2, rfl, hs2, sd2, fun t l n3 s3 H3 w3 hs3 sd3 ht3 hl3 => ?_⟩
    have W3 : UpX sr H H3 := u1.toX.trans (w2.trans w3)
    have hd3 : H3 pd = some (.dK []) := (w2.trans w3) _ _ nd hd1
    have nt : t ≠ sr := fun z => by rw [z, hs3] at ht3; cases ht3
    have ntd : t ≠ pd := fun z => by rw [z, hd3] at ht3; cases ht3
    have nsd : sr ≠ pd := fun z => nd z.symm
    (purse 7012 => fail)
    refine ⟨hd3, [(.inr "bound", .int b), (.inr "looks", .ref t)], rfl, by exact Nat.le_of_ble_eq_true rfl, ?_⟩
    rw [show mergeK [] [((.inr "bound", .int b) : Key × V), (.inr "looks", .ref t)] = [(.inr "bound", .int b), (.inr "looks", .ref t)] from rfl]
    have W4 : UpX sr H (upd H3 pd (.dK [(.inr "bound", .int b), (.inr "looks", .ref t)])) := UpX.setF W3 hpd
    have hs4 : upd H3 pd (.dK [(.inr "bound", .int b), (.inr "looks", .ref t)]) sr = some (.lst [.int n3, .int s3]) := by rw [upd_ne nsd]; exact hs3
    have ht4 : upd H3 pd (.dK [(.inr "bound", .int b), (.inr "looks", .ref t)]) t = some (.tup (l.map V.str)) := by rw [upd_ne ntd]; exact ht3
    have hd4 : upd H3 pd (.dK [(.inr "bound", .int b), (.inr "looks", .ref t)]) pd = some (.dK [(.inr "bound", .int b), (.inr "looks", .ref t)]) := upd_same
    generalize upd H3 pd (.dK [(.inr "bound", .int b), (.inr "looks", .ref t)]) = H4 at W4 hs4 ht4 hd4 ⊢
    have sd4 := sd3
    generalize n3 = n4 at hs4 sd4
    generalize s3 = s4 at hs4 sd4
    (purse 7012 => fail)
    refine g_l0 (by rfl) fun ph hpph => ?_
    have v5 := Up.new (o := .lst [.str "above", .str "from"]) hpph
    have lph : upd H4 ph (.lst [.str "above", .str "from"]) ph = some (.lst [.str "above", .str "from"]) := upd_same
    have nph := UpX.none hpph hs4
    generalize upd H4 ph (.lst [.str "above", .str "from"]) = H5 at v5 lph ⊢
    have W5 : UpX sr H H5 := W4.trans v5.toX
    have hs5 := v5 _ _ hs4
    have hd5 := v5 _ _ hd4
    have ht5 := v5 _ _ ht4
    have sd5 := sd4
    generalize n4 = n5 at hs5 sd5
    generalize s4 = s5 at hs5 sd5
    (purse 7012 => fail)
    refine ⟨sr, ph, n5, s5, _, rfl, hs5, sd5, lph, by decide, by decide, nph, fun vh n6 s6 H6 ch6 hs6 hvh sd6 => ?_⟩
    have w6 : UpX sr H5 H6 := UpX.of ch6
    have W6 : UpX sr H H6 := W5.trans w6
    have hd6 := w6 _ _ nd hd5
    have ht6 := w6 _ _ nt ht5
    obtain ⟨ab, rfl⟩ : ∃ ab, vh = .str (hw ab) := by
      simp only [List.mem_cons, List.not_mem_nil, or_false] at hvh
      rcases hvh with rfl | rfl
      · exact ⟨true, rfl⟩
      · exact ⟨false, rfl⟩
    (purse 7012 => fail)
    refine g_setU hd6 (by rfl) ?_
    rw [show putK ([(.inr "bound", .int b), (.inr "looks", .ref t)] : List (Key × V)) (.inr "how" : Key) (.str (hw ab)) = [(.inr "bound", .int b), (.inr "looks", .ref t), (.inr "how", .str (hw ab))] from rfl]
    have W7 : UpX sr H (upd H6 pd (.dK [(.inr "bound", .int b), (.inr "looks", .ref t), (.inr "how", .str (hw ab))])) := UpX.setF W6 hpd
    have hs7 : upd H6 pd (.dK [(.inr "bound", .int b), (.inr "looks", .ref t), (.inr "how", .str (hw ab))]) sr = some (.lst [.int n6, .int s6]) := by rw [upd_ne nsd]; exact hs6
    have ht7 : upd H6 pd (.dK [(.inr "bound", .int b), (.inr "looks", .ref t), (.inr "how", .str (hw ab))]) t = some (.tup (l.map V.str)) := by rw [upd_ne ntd]; exact ht6
    have hd7 : upd H6 pd (.dK [(.inr "bound", .int b), (.inr "looks", .ref t), (.inr "how", .str (hw ab))]) pd = some (.dK [(.inr "bound", .int b), (.inr "looks", .ref t), (.inr "how", .str (hw ab))]) := upd_same
    generalize upd H6 pd (.dK [(.inr "bound", .int b), (.inr "looks", .ref t), (.inr "how", .str (hw ab))]) = H7 at W7 hs7 ht7 hd7 ⊢
    have sd7 := sd6
    generalize n6 = n7 at hs7 sd7
    generalize s6 = s7 at hs7 sd7
    (purse 7012 => fail)
    refine ⟨sr, n7, s7, 1000000000, rfl, hs7, sd7, by omega, by omega, fun xd n8 s8 H8 ch8 hs8 xd0 xd1 sd8 => ?_⟩
    have w8 : UpX sr H7 H8 := UpX.of ch8
    have W8 : UpX sr H H8 := W7.trans w8
    have hd8 := w8 _ _ nd hd7
    have ht8 := w8 _ _ nt ht7
    (purse 7012 => fail)
    refine g_setU hd8 (by rfl) ?_
    rw [show putK ([(.inr "bound", .int b), (.inr "looks", .ref t), (.inr "how", .str (hw ab))] : List (Key × V)) (.inr "day" : Key) (.int (1 + xd)) = [(.inr "bound", .int b), (.inr "looks", .ref t), (.inr "how", .str (hw ab)), (.inr "day", .int (1 + xd))] from rfl]
    have W9 : UpX sr H (upd H8 pd (.dK [(.inr "bound", .int b), (.inr "looks", .ref t), (.inr "how", .str (hw ab)), (.inr "day", .int (1 + xd))])) := UpX.setF W8 hpd
    have hs9 : upd H8 pd (.dK [(.inr "bound", .int b), (.inr "looks", .ref t), (.inr "how", .str (hw ab)), (.inr "day", .int (1 + xd))]) sr = some (.lst [.int n8, .int s8]) := by rw [upd_ne nsd]; exact hs8
    have ht9 : upd H8 pd (.dK [(.inr "bound", .int b), (.inr "looks", .ref t), (.inr "how", .str (hw ab)), (.inr "day", .int (1 + xd))]) t = some (.tup (l.map V.str)) := by rw [upd_ne ntd]; exact ht8
    have hd9 : upd H8 pd (.dK [(.inr "bound", .int b), (.inr "looks", .ref t), (.inr "how", .str (hw ab)), (.inr "day", .int (1 + xd))]) pd = some (.dK [(.inr "bound", .int b), (.inr "looks", .ref t), (.inr "how", .str (hw ab)), (.inr "day", .int (1 + xd))]) := upd_same
    generalize upd H8 pd (.dK [(.inr "bound", .int b), (.inr "looks", .ref t), (.inr "how", .str (hw ab)), (.inr "day", .int (1 + xd))]) = H9 at W9 hs9 ht9 hd9 ⊢
    have sd9 := sd8
    generalize n8 = n9 at hs9 sd9
    generalize s8 = s9 at hs9 sd9
    (purse 7012 => fail)
    refine ⟨sr, n9, s9, 1000000, rfl, hs9, sd9, by omega, by omega, fun xg n10 s10 H10 ch10 hs10 xg0 xg1 sd10 => ?_⟩
    have w10 : UpX sr H9 H10 := UpX.of ch10
    have W10 : UpX sr H H10 := W9.trans w10
    have hd10 := w10 _ _ nd hd9
    have ht10 := w10 _ _ nt ht9
    (purse 7012 => fail)
    refine g_setU hd10 (by rfl) ?_
    rw [show putK ([(.inr "bound", .int b), (.inr "looks", .ref t), (.inr "how", .str (hw ab)), (.inr "day", .int (1 + xd))] : List (Key × V)) (.inr "grain" : Key) (.int (1 + xg)) = [(.inr "bound", .int b), (.inr "looks", .ref t), (.inr "how", .str (hw ab)), (.inr "day", .int (1 + xd)), (.inr "grain", .int (1 + xg))] from rfl]
    have W11 : UpX sr H (upd H10 pd (.dK [(.inr "bound", .int b), (.inr "looks", .ref t), (.inr "how", .str (hw ab)), (.inr "day", .int (1 + xd)), (.inr "grain", .int (1 + xg))])) := UpX.setF W10 hpd
    have hs11 : upd H10 pd (.dK [(.inr "bound", .int b), (.inr "looks", .ref t), (.inr "how", .str (hw ab)), (.inr "day", .int (1 + xd)), (.inr "grain", .int (1 + xg))]) sr = some (.lst [.int n10, .int s10]) := by rw [upd_ne nsd]; exact hs10
    have ht11 : upd H10 pd (.dK [(.inr "bound", .int b), (.inr "looks", .ref t), (.inr "how", .str (hw ab)), (.inr "day", .int (1 + xd)), (.inr "grain", .int (1 + xg))]) t = some (.tup (l.map V.str)) := by rw [upd_ne ntd]; exact ht10
    have hd11 : upd H10 pd (.dK [(.inr "bound", .int b), (.inr "looks", .ref t), (.inr "how", .str (hw ab)), (.inr "day", .int (1 + xd)), (.inr "grain", .int (1 + xg))]) pd = some (.dK [(.inr "bound", .int b), (.inr "looks", .ref t), (.inr "how", .str (hw ab)), (.inr "day", .int (1 + xd)), (.inr "grain", .int (1 + xg))]) := upd_same
    generalize upd H10 pd (.dK [(.inr "bound", .int b), (.inr "looks", .ref t), (.inr "how", .str (hw ab)), (.inr "day", .int (1 + xd)), (.inr "grain", .int (1 + xg))]) = H11 at W11 hs11 ht11 hd11 ⊢
    have sd11 := sd10
    generalize n10 = n11 at hs11 sd11
    generalize s10 = s11 at hs11 sd11
    (purse 7012 => fail)
    refine ⟨sr, n11, s11, 2, rfl, hs11, sd11, by omega, by omega, fun xs n12 s12 H12 ch12 hs12 xs0 xs1 sd12 => ?_⟩
    have w12 : UpX sr H11 H12 := UpX.of ch12
    have W12 : UpX sr H H12 := W11.trans w12
    have hd12 := w12 _ _ nd hd11
    have ht12 := w12 _ _ nt ht11
    (purse 7012 => fail)
    refine g_setU hd12 (by rfl) ?_
    rw [show putK ([(.inr "bound", .int b), (.inr "looks", .ref t), (.inr "how", .str (hw ab)), (.inr "day", .int (1 + xd)), (.inr "grain", .int (1 + xg))] : List (Key × V)) (.inr "spares" : Key) (.bl (decide (xs = 0))) = [(.inr "bound", .int b), (.inr "looks", .ref t), (.inr "how", .str (hw ab)), (.inr "day", .int (1 + xd)), (.inr "grain", .int (1 + xg)), (.inr "spares", .bl (decide (xs = 0)))] from rfl]
    have W13 : UpX sr H (upd H12 pd (.dK [(.inr "bound", .int b), (.inr "looks", .ref t), (.inr "how", .str (hw ab)), (.inr "day", .int (1 + xd)), (.inr "grain", .int (1 + xg)), (.inr "spares", .bl (decide (xs = 0)))])) := UpX.setF W12 hpd
    have hs13 : upd H12 pd (.dK [(.inr "bound", .int b), (.inr "looks", .ref t), (.inr "how", .str (hw ab)), (.inr "day", .int (1 + xd)), (.inr "grain", .int (1 + xg)), (.inr "spares", .bl (decide (xs = 0)))]) sr = some (.lst [.int n12, .int s12]) := by rw [upd_ne nsd]; exact hs12
    have ht13 : upd H12 pd (.dK [(.inr "bound", .int b), (.inr "looks", .ref t), (.inr "how", .str (hw ab)), (.inr "day", .int (1 + xd)), (.inr "grain", .int (1 + xg)), (.inr "spares", .bl (decide (xs = 0)))]) t = some (.tup (l.map V.str)) := by rw [upd_ne ntd]; exact ht12
    have hd13 : upd H12 pd (.dK [(.inr "bound", .int b), (.inr "looks", .ref t), (.inr "how", .str (hw ab)), (.inr "day", .int (1 + xd)), (.inr "grain", .int (1 + xg)), (.inr "spares", .bl (decide (xs = 0)))]) pd = some (.dK [(.inr "bound", .int b), (.inr "looks", .ref t), (.inr "how", .str (hw ab)), (.inr "day", .int (1 + xd)), (.inr "grain", .int (1 + xg)), (.inr "spares", .bl (decide (xs = 0)))]) := upd_same
    generalize upd H12 pd (.dK [(.inr "bound", .int b), (.inr "looks", .ref t), (.inr "how", .str (hw ab)), (.inr "day", .int (1 + xd)), (.inr "grain", .int (1 + xg)), (.inr "spares", .bl (decide (xs = 0)))]) = H13 at W13 hs13 ht13 hd13 ⊢
    have sd13 := sd12
    generalize n12 = n13 at hs13 sd13
    generalize s12 = s13 at hs13 sd13
    (purse 7012 => fail)
    refine ⟨sr, n13, s13, 1000000001, rfl, hs13, sd13, by omega, by omega, fun xl n14 s14 H14 ch14 hs14 xl0 xl1 sd14 => ?_⟩
    have w14 : UpX sr H13 H14 := UpX.of ch14
    have W14 : UpX sr H H14 := W13.trans w14
    have hd14 := w14 _ _ nd hd13
    have ht14 := w14 _ _ nt ht13
    (purse 7012 => fail)
    refine g_setU hd14 (by rfl) ?_
    rw [show putK ([(.inr "bound", .int b), (.inr "looks", .ref t), (.inr "how", .str (hw ab)), (.inr "day", .int (1 + xd)), (.inr "grain", .int (1 + xg)), (.inr "spares", .bl (decide (xs = 0)))] : List (Key × V)) (.inr "late" : Key) (.int xl) = [(.inr "bound", .int b), (.inr "looks", .ref t), (.inr "how", .str (hw ab)), (.inr "day", .int (1 + xd)), (.inr "grain", .int (1 + xg)), (.inr "spares", .bl (decide (xs = 0))), (.inr "late", .int xl)] from rfl]
    have W15 : UpX sr H (upd H14 pd (.dK [(.inr "bound", .int b), (.inr "looks", .ref t), (.inr "how", .str (hw ab)), (.inr "day", .int (1 + xd)), (.inr "grain", .int (1 + xg)), (.inr "spares", .bl (decide (xs = 0))), (.inr "late", .int xl)])) := UpX.setF W14 hpd
    have hs15 : upd H14 pd (.dK [(.inr "bound", .int b), (.inr "looks", .ref t), (.inr "how", .str (hw ab)), (.inr "day", .int (1 + xd)), (.inr "grain", .int (1 + xg)), (.inr "spares", .bl (decide (xs = 0))), (.inr "late", .int xl)]) sr = some (.lst [.int n14, .int s14]) := by rw [upd_ne nsd]; exact hs14
    have ht15 : upd H14 pd (.dK [(.inr "bound", .int b), (.inr "looks", .ref t), (.inr "how", .str (hw ab)), (.inr "day", .int (1 + xd)), (.inr "grain", .int (1 + xg)), (.inr "spares", .bl (decide (xs = 0))), (.inr "late", .int xl)]) t = some (.tup (l.map V.str)) := by rw [upd_ne ntd]; exact ht14
    have hd15 : upd H14 pd (.dK [(.inr "bound", .int b), (.inr "looks", .ref t), (.inr "how", .str (hw ab)), (.inr "day", .int (1 + xd)), (.inr "grain", .int (1 + xg)), (.inr "spares", .bl (decide (xs = 0))), (.inr "late", .int xl)]) pd = some (.dK [(.inr "bound", .int b), (.inr "looks", .ref t), (.inr "how", .str (hw ab)), (.inr "day", .int (1 + xd)), (.inr "grain", .int (1 + xg)), (.inr "spares", .bl (decide (xs = 0))), (.inr "late", .int xl)]) := upd_same
    generalize upd H14 pd (.dK [(.inr "bound", .int b), (.inr "looks", .ref t), (.inr "how", .str (hw ab)), (.inr "day", .int (1 + xd)), (.inr "grain", .int (1 + xg)), (.inr "spares", .bl (decide (xs = 0))), (.inr "late", .int xl)]) = H15 at W15 hs15 ht15 hd15 ⊢
    have sd15 := sd14
    generalize n14 = n15 at hs15 sd15
    generalize s14 = s15 at hs15 sd15
    (purse 7012 => fail)
    refine ⟨sr, n15, s15, 2, rfl, hs15, sd15, by omega, by omega, fun xa n16 s16 H16 ch16 hs16 xa0 xa1 sd16 => ?_⟩
    have w16 : UpX sr H15 H16 := UpX.of ch16
    have W16 : UpX sr H H16 := W15.trans w16
    have hd16 := w16 _ _ nd hd15
    have ht16 := w16 _ _ nt ht15
    (purse 7012 => fail)
    refine g_setU hd16 (by rfl) ?_
    rw [show putK ([(.inr "bound", .int b), (.inr "looks", .ref t), (.inr "how", .str (hw ab)), (.inr "day", .int (1 + xd)), (.inr "grain", .int (1 + xg)), (.inr "spares", .bl (decide (xs = 0))), (.inr "late", .int xl)] : List (Key × V)) (.inr "again" : Key) (.bl (decide (xa = 0))) = [(.inr "bound", .int b), (.inr "looks", .ref t), (.inr "how", .str (hw ab)), (.inr "day", .int (1 + xd)), (.inr "grain", .int (1 + xg)), (.inr "spares", .bl (decide (xs = 0))), (.inr "late", .int xl), (.inr "again", .bl (decide (xa = 0)))] from rfl]
    have W17 : UpX sr H (upd H16 pd (.dK [(.inr "bound", .int b), (.inr "looks", .ref t), (.inr "how", .str (hw ab)), (.inr "day", .int (1 + xd)), (.inr "grain", .int (1 + xg)), (.inr "spares", .bl (decide (xs = 0))), (.inr "late", .int xl), (.inr "again", .bl (decide (xa = 0)))])) := UpX.setF W16 hpd
    have hs17 : upd H16 pd (.dK [(.inr "bound", .int b), (.inr "looks", .ref t), (.inr "how", .str (hw ab)), (.inr "day", .int (1 + xd)), (.inr "grain", .int (1 + xg)), (.inr "spares", .bl (decide (xs = 0))), (.inr "late", .int xl), (.inr "again", .bl (decide (xa = 0)))]) sr = some (.lst [.int n16, .int s16]) := by rw [upd_ne nsd]; exact hs16
    have ht17 : upd H16 pd (.dK [(.inr "bound", .int b), (.inr "looks", .ref t), (.inr "how", .str (hw ab)), (.inr "day", .int (1 + xd)), (.inr "grain", .int (1 + xg)), (.inr "spares", .bl (decide (xs = 0))), (.inr "late", .int xl), (.inr "again", .bl (decide (xa = 0)))]) t = some (.tup (l.map V.str)) := by rw [upd_ne ntd]; exact ht16
    have hd17 : upd H16 pd (.dK [(.inr "bound", .int b), (.inr "looks", .ref t), (.inr "how", .str (hw ab)), (.inr "day", .int (1 + xd)), (.inr "grain", .int (1 + xg)), (.inr "spares", .bl (decide (xs = 0))), (.inr "late", .int xl), (.inr "again", .bl (decide (xa = 0)))]) pd = some (.dK [(.inr "bound", .int b), (.inr "looks", .ref t), (.inr "how", .str (hw ab)), (.inr "day", .int (1 + xd)), (.inr "grain", .int (1 + xg)), (.inr "spares", .bl (decide (xs = 0))), (.inr "late", .int xl), (.inr "again", .bl (decide (xa = 0)))]) := upd_same
    generalize upd H16 pd (.dK [(.inr "bound", .int b), (.inr "looks", .ref t), (.inr "how", .str (hw ab)), (.inr "day", .int (1 + xd)), (.inr "grain", .int (1 + xg)), (.inr "spares", .bl (decide (xs = 0))), (.inr "late", .int xl), (.inr "again", .bl (decide (xa = 0)))]) = H17 at W17 hs17 ht17 hd17 ⊢
    have sd17 := sd16
    generalize n16 = n17 at hs17 sd17
    generalize s16 = s17 at hs17 sd17
    (purse 7012 => fail)
    refine ⟨sr, n17, s17, 1000000000, rfl, hs17, sd17, by omega, by omega, fun xp n18 s18 H18 ch18 hs18 xp0 xp1 sd18 => ?_⟩
    have w18 : UpX sr H17 H18 := UpX.of ch18
    have W18 : UpX sr H H18 := W17.trans w18
    have hd18 := w18 _ _ nd hd17
    have ht18 := w18 _ _ nt ht17
    (purse 7012 => fail)
    refine g_setU hd18 (by rfl) ?_
    rw [show putK ([(.inr "bound", .int b), (.inr "looks", .ref t), (.inr "how", .str (hw ab)), (.inr "day", .int (1 + xd)), (.inr "grain", .int (1 + xg)), (.inr "spares", .bl (decide (xs = 0))), (.inr "late", .int xl), (.inr "again", .bl (decide (xa = 0)))] : List (Key × V)) (.inr "period" : Key) (.int (1 + xp)) = [(.inr "bound", .int b), (.inr "looks", .ref t), (.inr "how", .str (hw ab)), (.inr "day", .int (1 + xd)), (.inr "grain", .int (1 + xg)), (.inr "spares", .bl (decide (xs = 0))), (.inr "late", .int xl), (.inr "again", .bl (decide (xa = 0))), (.inr "period", .int (1 + xp))] from rfl]
    have W19 : UpX sr H (upd H18 pd (.dK [(.inr "bound", .int b), (.inr "looks", .ref t), (.inr "how", .str (hw ab)), (.inr "day", .int (1 + xd)), (.inr "grain", .int (1 + xg)), (.inr "spares", .bl (decide (xs = 0))), (.inr "late", .int xl), (.inr "again", .bl (decide (xa = 0))), (.inr "period", .int (1 + xp))])) := UpX.setF W18 hpd
    have hs19 : upd H18 pd (.dK [(.inr "bound", .int b), (.inr "looks", .ref t), (.inr "how", .str (hw ab)), (.inr "day", .int (1 + xd)), (.inr "grain", .int (1 + xg)), (.inr "spares", .bl (decide (xs = 0))), (.inr "late", .int xl), (.inr "again", .bl (decide (xa = 0))), (.inr "period", .int (1 + xp))]) sr = some (.lst [.int n18, .int s18]) := by rw [upd_ne nsd]; exact hs18
    have ht19 : upd H18 pd (.dK [(.inr "bound", .int b), (.inr "looks", .ref t), (.inr "how", .str (hw ab)), (.inr "day", .int (1 + xd)), (.inr "grain", .int (1 + xg)), (.inr "spares", .bl (decide (xs = 0))), (.inr "late", .int xl), (.inr "again", .bl (decide (xa = 0))), (.inr "period", .int (1 + xp))]) t = some (.tup (l.map V.str)) := by rw [upd_ne ntd]; exact ht18
    have hd19 : upd H18 pd (.dK [(.inr "bound", .int b), (.inr "looks", .ref t), (.inr "how", .str (hw ab)), (.inr "day", .int (1 + xd)), (.inr "grain", .int (1 + xg)), (.inr "spares", .bl (decide (xs = 0))), (.inr "late", .int xl), (.inr "again", .bl (decide (xa = 0))), (.inr "period", .int (1 + xp))]) pd = some (.dK [(.inr "bound", .int b), (.inr "looks", .ref t), (.inr "how", .str (hw ab)), (.inr "day", .int (1 + xd)), (.inr "grain", .int (1 + xg)), (.inr "spares", .bl (decide (xs = 0))), (.inr "late", .int xl), (.inr "again", .bl (decide (xa = 0))), (.inr "period", .int (1 + xp))]) := upd_same
    generalize upd H18 pd (.dK [(.inr "bound", .int b), (.inr "looks", .ref t), (.inr "how", .str (hw ab)), (.inr "day", .int (1 + xd)), (.inr "grain", .int (1 + xg)), (.inr "spares", .bl (decide (xs = 0))), (.inr "late", .int xl), (.inr "again", .bl (decide (xa = 0))), (.inr "period", .int (1 + xp))]) = H19 at W19 hs19 ht19 hd19 ⊢
    have sd19 := sd18
    generalize n18 = n19 at hs19 sd19
    generalize s18 = s19 at hs19 sd19
    (purse 7012 => fail)
    exact k pd ⟨b, l, ab, 1 + xd, 1 + xg, decide (xs = 0), xl, decide (xa = 0), 1 + xp⟩ n19 s19 H19 hpd W19 hs19 sd19 ⟨t, hd19, ht19⟩ ⟨b0, by show b ≤ 1000000000000; omega, hl3, by show 1 ≤ 1 + xd; omega, by show 1 + xd ≤ 1000000000; omega, by show 1 ≤ 1 + xg; omega, by show 1 + xg ≤ 1000000; omega, xl0, by show xl ≤ 1000000000; omega, by show 1 ≤ 1 + xp; omega, by show 1 + xp ≤ 1000000000; omega⟩
theorem ok_lbook (F : FnP K "_law_book" "_law_book" s_law_book f fd) (T : TE17 K w mg) (M_Book : Mw P w K mg base 10 (ga K "Book") ["bound", "looks", "how", "day", "grain"] (fun us ws => us ++ ws ++ [.bl false, .int 0, .bl true, .int 1]) (spInit K (ga K "Book"))) (H_change : Hn P w K mg base 10 (ga K "Book") "change" (spChange K (ga K "Book"))) :
    FnOk P w K mg base (L2.CX P w) 12 f fd ["parts"] (spBook17 K (ga K "Book")) := by
  refine F.ok c_law_book (fun vs H Q E h => ?_) (fun cdv A outer s H vs Q E hr h => ⟨_, pss_cons (ps_set (i := 1) c_law_book.nd rfl (Or.inl rfl) (pe_mw M_Book (rm hr) rfl T.g_Book (passes_call (takes_of rfl rfl rfl rfl) fun _ _ _ _ h => h) (pk_cons (pe_dget (hu_of hr) ((pv 0)) ((pe_str)) (fun _ _ => rfl)) (pk_cons (pe_dget (hu_of hr) ((pv 0)) ((pe_str)) (fun _ _ => rfl)) (pk_cons (pe_dget (hu_of hr) ((pv 0)) ((pe_str)) (fun _ _ => rfl)) (pk_cons (pe_dget (hu_of hr) ((pv 0)) ((pe_str)) (fun _ _ => rfl)) (pk_cons (pe_dget (hu_of hr) ((pv 0)) ((pe_str)) (fun _ _ => rfl)) (pk_nil))))))))
      (pss_cons (ps_expr (pe_dm H_change (rm hr) (passes_call (takes_of rfl rfl rfl rfl) fun _ _ _ _ h => h) (pv 1) (pa_cons (pe_str) (pa_cons (pe_dget (hu_of hr) ((pv 0)) ((pe_str)) (fun _ _ => rfl)) (pa_nil)))))
      (pss_cons (ps_expr (pe_dm H_change (rm hr) (passes_call (takes_of rfl rfl rfl rfl) fun _ _ _ _ h => h) (pv 1) (pa_cons (pe_str) (pa_cons (pe_dget (hu_of hr) ((pv 0)) ((pe_str)) (fun _ _ => rfl)) (pa_nil)))))
      (pss_cons (ps_expr (pe_dm H_change (rm hr) (passes_call (takes_of rfl rfl rfl rfl) fun _ _ _ _ h => h) (pv 1) (pa_cons (pe_str) (pa_cons (pe_dget (hu_of hr) ((pv 0)) ((pe_str)) (fun _ _ => rfl)) (pa_nil)))))
      (pss_cons (ps_expr (pe_dm H_change (rm hr) (passes_call (takes_of rfl rfl rfl rfl) fun _ _ _ _ h => h) (pv 1) (pa_cons (pe_str) (pa_cons (pe_dget (hu_of hr) ((pv 0)) ((pe_str)) (fun _ _ => rfl)) (pa_nil)))))
      (pss_one (ps_ret (pv 1))))))), ?_⟩)
  · obtain ⟨d, t, p, rfl, _⟩ := h
    rfl
  · obtain ⟨d, t, p, rfl, hd, ht, ok, k⟩ := h
    (purse 7012 => fail)
    refine g_dg (v := .int p.b) hd (by rfl) ?_
    (purse 7012 => fail)
    refine g_dg (v := .ref t) hd (by rfl) ?_
    (purse 7012 => fail)
    refine g_dg (v := .str (hw p.ab)) hd (by rfl) ?_
    (purse 7012 => fail)
    refine g_dg (v := .int p.day) hd (by rfl) ?_
    (purse 7012 => fail)
    refine g_dg (v := .int p.gr) hd (by rfl) ?_
    (purse 7012 => fail)
    refine ⟨rfl, fun x dx hx hdx hne => ?_⟩
    have h1 : upd H dx (.own x) x = none := by rw [upd_ne (fun z => hne z.symm)]; exact hx
    have u2 : Up H (upd (upd H dx (.own x)) x (.ins (ga K "Book") dx [])) := (Up.new hdx).trans (Up.new h1)
    have hx2 : upd (upd H dx (.own x)) x (.ins (ga K "Book") dx []) x = some (.ins (ga K "Book") dx []) := upd_same
    generalize upd (upd H dx (.own x)) x (.ins (ga K "Book") dx []) = H2 at u2 hx2 ⊢
    obtain ⟨b0, b1, ll, d0, d1, g0, g1, t0, t1, p0, p1⟩ := ok
    refine ⟨x, dx, t, ⟨p.b, p.lk, p.ab, p.day, p.gr, false, 0, true, 1⟩, rfl, hx2, ⟨b0, b1, ll, d0, d1, g0, g1, (by decide : (0 : Int) ≤ 0), (by decide : (0 : Int) ≤ 1000000000), (by decide : (1 : Int) ≤ 1), (by decide : (1 : Int) ≤ 1000000000)⟩, ht.up u2, fun dd H3 hdd ux hx3 hd3 => ⟨rfl, ?_⟩⟩
    have ndd : H dd = none := by
      cases e : H dd with
      | none => rfl
      | some o => rw [u2 _ _ e] at hdd; cases hdd
    have u3 : Up H H3 := (u2.toX.trans ux).up hx
    have nxd : x ≠ dd := fun z => by rw [z, hd3] at hx3; cases hx3
    (purse 7012 => fail)
    refine g_kmeth hx3 rfl ?_
    (purse 7012 => fail)
    refine g_dg (v := .bl p.sp) (u3 _ _ hd) (by rfl) ?_
    (purse 7012 => fail)
    refine ⟨x, dx, dd, _, _, _, rfl, hx3, hd3, by exact Nat.lt_of_lt_of_le (show 9 < 10 by decide) (by decide), .spares _, fun H4 w4 hd4 => ?_⟩
    have hx4 := w4 _ _ nxd hx3
    have u4 : Up H H4 := (u3.toX.trans w4).up ndd
    rw [show putK (kv9 ⟨p.b, p.lk, p.ab, p.day, p.gr, false, 0, true, 1⟩ t) (.inr "spares" : Key) (.bl p.sp) = kv9 ⟨p.b, p.lk, p.ab, p.day, p.gr, p.sp, 0, true, 1⟩ t from rfl] at hd4
    (purse 7012 => fail)
    refine g_kmeth hx4 rfl ?_
    (purse 7012 => fail)
    refine g_dg (v := .int p.lt) (u4 _ _ hd) (by rfl) ?_
    (purse 7012 => fail)
    refine ⟨x, dx, dd, _, _, _, rfl, hx4, hd4, by exact Nat.lt_of_lt_of_le (show 9 < 10 by decide) (by decide), .late t0 t1, fun H5 w5 hd5 => ?_⟩
    have hx5 := w5 _ _ nxd hx4
    have u5 : Up H H5 := (u4.toX.trans w5).up ndd
    rw [show putK (kv9 ⟨p.b, p.lk, p.ab, p.day, p.gr, p.sp, 0, true, 1⟩ t) (.inr "late" : Key) (.int p.lt) = kv9 ⟨p.b, p.lk, p.ab, p.day, p.gr, p.sp, p.lt, true, 1⟩ t from rfl] at hd5
    (purse 7012 => fail)
    refine g_kmeth hx5 rfl ?_
    (purse 7012 => fail)
    refine g_dg (v := .bl p.ag) (u5 _ _ hd) (by rfl) ?_
    (purse 7012 => fail)
    refine ⟨x, dx, dd, _, _, _, rfl, hx5, hd5, by exact Nat.lt_of_lt_of_le (show 9 < 10 by decide) (by decide), .again _, fun H6 w6 hd6 => ?_⟩
    have hx6 := w6 _ _ nxd hx5
    have u6 : Up H H6 := (u5.toX.trans w6).up ndd
    rw [show putK (kv9 ⟨p.b, p.lk, p.ab, p.day, p.gr, p.sp, p.lt, true, 1⟩ t) (.inr "again" : Key) (.bl p.ag) = kv9 ⟨p.b, p.lk, p.ab, p.day, p.gr, p.sp, p.lt, p.ag, 1⟩ t from rfl] at hd6
    (purse 7012 => fail)
    refine g_kmeth hx6 rfl ?_
    (purse 7012 => fail)
    refine g_dg (v := .int p.pd) (u6 _ _ hd) (by rfl) ?_
    (purse 7012 => fail)
    refine ⟨x, dx, dd, _, _, _, rfl, hx6, hd6, by exact Nat.lt_of_lt_of_le (show 9 < 10 by decide) (by decide), .period p0 p1, fun H7 w7 hd7 => ?_⟩
    have hx7 := w7 _ _ nxd hx6
    have u7 : Up H H7 := (u6.toX.trans w7).up ndd
    rw [show putK (kv9 ⟨p.b, p.lk, p.ab, p.day, p.gr, p.sp, p.lt, p.ag, 1⟩ t) (.inr "period" : Key) (.int p.pd) = kv9 ⟨p.b, p.lk, p.ab, p.day, p.gr, p.sp, p.lt, p.ag, p.pd⟩ t from rfl] at hd7
    (purse 7012 => fail)
    exact k x dx dd H7 hx ndd u7 hx7 hd7
end

end K1
namespace K1
open PySem PySem.Spec PyProof.Rows L2 AF
local macro_rules | `(tactic| purse 7003 => fail) => `(tactic| k_dflt (refine Sh.has_ (by assumption) ?_; repeat (first | exact On.here | apply On.next)))
local macro_rules | `(tactic| purse 7004 => fail) => `(tactic| k_dflt (repeat (first | exact On.here | apply On.next)))
local macro_rules | `(tactic| purse 7005 => fail) => `(tactic| (repeat (first | exact Rep.here | apply Rep.next)))
local macro_rules | `(tactic| purse 7006 => fail) => `(tactic| (exact Sh.out (by assumption) (fun b h => by simp [h])))
local macro_rules | `(tactic| purse 7007 => fail) => `(tactic| k_dflt (first | ((with_reducible refine cdivw ?_ ?_) <;> omega) | ((with_reducible show CDiv _ _); constructor <;> omega) | ((with_reducible show CMul _ _); (first | (left; constructor <;> omega) | (right; constructor <;> omega))) | (show (0 : Int) < _; omega)))
local macro_rules | `(tactic| purse 7008 => fail) => `(tactic| first | exact Kd.int _ | exact Kd.bl _ | exact Kd.non | exact Kd.str _ | exact Kd.ins (by (purse 7003 => fail)) | exact Kd.lst (by (purse 7003 => fail)) | exact Kd.tup (by (purse 7003 => fail)))
local macro_rules | `(tactic| purse 7009 => fail) => `(tactic| first | exact DpAll.nil | (apply DpAll.cons; (purse 7010 => fail); (purse 7009 => fail)))
local macro_rules | `(tactic| purse 7010 => fail) => `(tactic| first | exact Dp.int _ | exact Dp.bl _ | exact Dp.non | exact Dp.str _ | (refine dp_int ?_; omega) | (refine dp_bl ?_; simp only [decide_eq_decide]; omega) | (apply dp_lst; (purse 7003 => fail); (purse 7009 => fail)) | (apply dp_tup; (purse 7003 => fail); (purse 7009 => fail)))
local macro_rules | `(tactic| purse 7011 => fail) => `(tactic| first | assumption | omega)
local macro_rules | `(tactic| purse 7001 => fail) => `(tactic| fail "no use")
local macro_rules | `(tactic| purse 7002 => fail) => `(tactic| first
  | (with_reducible refine set_go ?_)
  | (with_reducible refine Step.go ?_)
  | (with_reducible first | refine g_pow10_6 ?_ | refine g_pow10_7 ?_ | refine g_pow10_18 ?_ | refine g_pow10_29 ?_ | refine g_pow10_30 ?_)
  | ((with_reducible refine' g_I ?a0 ?_); (case a0 => (purse 7007 => fail)))
  | ((with_reducible refine' g_ixL ?a0 ?a1 ?_); (case a0 => (purse 7003 => fail)); (case a1 => k_dflt (exact rfl)))
  | ((with_reducible refine' g_kfld ?a0 ?a1 ?a2 ?a3 ?_); (case a0 => (purse 7003 => fail)); (case a1 => k_dflt (assumption)); (case a2 => k_dflt (assumption)); (case a3 => k_dflt (exact rfl)))
  | ((with_reducible refine' g_kprop ?a0 ?_); (case a0 => (purse 7003 => fail)))
  | ((with_reducible refine' g_kmeth ?a0 ?a1 ?_); (case a0 => (purse 7003 => fail)); (case a1 => k_dflt (exact rfl)))
  | ((with_reducible refine' g_own ?a0 ?a1 ?a2 ?_); (case a0 => (purse 7003 => fail)); (case a1 => (purse 7008 => fail)); (case a2 => k_dflt (assumption)))
  | ((with_reducible refine' g_cmp ?a0 ?a1 ?a2 ?_); (case a0 => (purse 7003 => fail)); (case a1 => (purse 7008 => fail)); (case a2 => k_dflt (assumption)))
  | ((with_reducible refine' g_neq ?a0 ?a1 ?a2 ?_); (case a0 => (purse 7003 => fail)); (case a1 => (purse 7008 => fail)); (case a2 => k_dflt (assumption)))
  | ((with_reducible refine' g_right ?a0 ?_); (case a0 => (purse 7003 => fail)))
  | ((with_reducible refine' use_draw ?a0 ?a1 ?a2 ?a3 ?a4 ?_); (case a0 => assumption); (case a1 => intro _ _; (purse 7005 => fail)); (case a2 => assumption); (case a3 => (purse 7011 => fail)); (case a4 => (purse 7011 => fail)); intro _ _ _ _ _ _ _ _)
  | ((with_reducible refine' use_giveI ?a0 ?a1 ?a2 ?_); (case a0 => assumption); (case a1 => intro _ _; (purse 7005 => fail)); (case a2 => assumption); intro _ _ _ _ _ _ _ _)
  | ((with_reducible refine' use_source ?a0 ?a1 ?_); (case a0 => assumption); (case a1 => k_dflt (assumption)); intro _ _ _ _ _ _)
  | (with_reducible refine g_absN ?_; intro _ _)
  | (with_reducible refine g_maxN ?_; intro _ _ _ _)
  | (with_reducible refine g_minN ?_; intro _ _ _ _)
  | ((with_reducible refine' g_kR1 ?a0 ?a1 ?_); (case a0 => omega); (case a1 => omega))
  | ((with_reducible refine' g_neD ?a0 ?a1 ?a2 ?_); (case a0 => (purse 7010 => fail)); (case a1 => (purse 7010 => fail)); (case a2 => k_dflt (rfl)))
  | ((with_reducible refine' g_eqD ?a0 ?a1 ?a2 ?_); (case a0 => (purse 7010 => fail)); (case a1 => (purse 7010 => fail)); (case a2 => k_dflt (rfl)))
  | ((with_reducible refine' g_klst ?a0 ?a1 ?_); (case a0 => assumption); (case a1 => k_dflt (exact rfl)); intro _ _ _ _)
  | ((with_reducible refine' g_ktup ?a0 ?a1 ?_); (case a0 => assumption); (case a1 => k_dflt (exact rfl)); intro _ _ _ _)
  | ((with_reducible refine' g_setL ?a0 ?a1 ?a2 ?_); (case a0 => assumption); (case a1 => (purse 7005 => fail)); (case a2 => k_dflt (exact rfl)); intro _ _)
  | ((with_reducible refine' g_unl3 ?a0 ?_); (case a0 => (purse 7003 => fail)))
  | (purse 7001 => fail))
local macro_rules | `(tactic| purse 7012 => fail) => `(tactic| ((try (with_reducible refine start_go ?_)); repeat (purse 7002 => fail)))
local macro_rules | `(tactic| purse 7013 => fail) => `(tactic| first | rfl | (refine decide_eq_true ?_; omega) | (simp only [Bool.not_eq_true', Bool.not_eq_false', decide_eq_false_iff_not, decide_eq_true_eq, Bool.not_not, decide_eq_decide]; done) | (simp only [Bool.not_eq_true', Bool.not_eq_false', decide_eq_false_iff_not, decide_eq_true_eq, Bool.not_not, decide_eq_decide]; omega))
local macro_rules | `(tactic| purse 7014 => fail) => `(tactic| first | rfl | (refine decide_eq_false ?_; omega) | (simp only [Bool.not_eq_true', Bool.not_eq_false', decide_eq_false_iff_not, decide_eq_true_eq, Bool.not_not, decide_eq_decide]; done) | (simp only [Bool.not_eq_true', Bool.not_eq_false', decide_eq_false_iff_not, decide_eq_true_eq, Bool.not_not, decide_eq_decide]; omega))
local macro_rules | `(tactic| purse 7015 => fail) => `(tactic| ((refine g_yes ?h ?_); (case h => (purse 7013 => fail))))
local macro_rules | `(tactic| purse 7016 => fail) => `(tactic| ((refine g_no ?h ?_); (case h => (purse 7014 => fail))))
local macro_rules | `(tactic| purse 7017 => fail) => `(tactic| first | (purse 7015 => fail) | (purse 7016 => fail))
local macro_rules | `(tactic| purse 7018 => fail) => `(tactic| repeat ((purse 7012 => fail); (purse 7017 => fail)))
local macro_rules | `(tactic| purse 7019 => fail) => `(tactic| repeat (first | exact intIn_nil | refine intIn_cons (by omega) (by omega) ?_))
local macro_rules | `(tactic| purse 7020 => fail) => `(tactic| (simp only [List.length_cons, List.length_nil]; omega))
local macro_rules | `(tactic| purse 7021 => fail) => `(tactic| (refine g_two (fun c => ?_) (fun c => ?_) <;> first | (have c := of_decide_eq_true c) | (have c := of_decide_eq_false c) | skip))
local macro_rules | `(tactic| purse 7022 => fail) => `(tactic| ((purse 7018 => fail); (purse 7012 => fail); try ((purse 7021 => fail) <;> (purse 7022 => fail))))

/-! books by tuples of looks; what is due; the law's own cleaner: the mathematics -/
def Bs0 (C : Addr) (H : Hp) (x : Addr) (p : Bp) : Prop := ∃ dx d, H x = some (.ins C dx (tpf d)) ∧ Pd0 H d p
theorem Pd0.up {H H' : Hp} {d : Addr} {p : Bp} (u : Up H H') : Pd0 H d p → Pd0 H' d p := fun ⟨t, a, b⟩ => ⟨t, u _ _ a, u _ _ b⟩
theorem Bs0.up {C : Addr} {H H' : Hp} {x : Addr} {p : Bp} (u : Up H H') : Bs0 C H x p → Bs0 C H' x p := fun ⟨dx, d, a, b⟩ => ⟨dx, d, u _ _ a, b.up u⟩
theorem Bs0.toK {K : PySem.W.Frag} {C : Addr} {H : Hp} {x : Addr} {p : Bp} : Bs0 C H x p → Bs K C H x p := fun ⟨dx, d, a, t, b, c⟩ => ⟨dx, d, a, t, b, .inl c⟩
def spDue (C : Addr) : Sp := fun vs H Q _ => ∃ (x : Addr) (p : Bp) (n : Int), vs = [.ref x, .int n] ∧ Bs0 C H x p ∧ p.Ok ∧ Q (.int (n / p.gr * p.gr + thr p)) H
theorem thr_le {p : Bp} (o : p.Ok) : 0 ≤ thr p ∧ thr p ≤ 1000000000001000000000 := by
  obtain ⟨b0, b1, ll, d0, d1, g0, g1, t0, t1, p0, p1⟩ := o
  have h1 : 0 ≤ p.b * p.day := Int.mul_nonneg b0 (by omega)
  have h2 : p.b * p.day ≤ 1000000000000 * 1000000000 := Int.mul_le_mul b1 d1 (by omega) (by decide)
  unfold thr
  split
  · rw [Int.add_mul, Int.one_mul]; omega
  · omega
theorem lk_len {l : List Str} (h : l ∈ allLk) : l.length ≤ 100 := by
  simp only [allLk, List.mem_cons, List.not_mem_nil, or_false] at h
  rcases h with rfl | rfl | rfl | rfl | rfl | rfl | rfl <;> decide
section
open He
variable {P : Program} {w : World} {K : PySem.W.Frag} {mg : Str → Option Value} {base : Heap} {f : Addr} {fd : FuncData}
theorem ok_cb (F : FnP K "check_book" "check_book" s_check_book f fd) (T : TB35 K w mg) : FnOk P w K mg base (L2.CX P w) 2 f fd ["value"] (spCb (ga K "Book")) := by
  refine F.ok c_check_book (fun vs H Q E h => ?_) (fun cdv A outer s H vs Q E hr h => ⟨_, pss_one (ps_if (pt_not (pt_val (pe_callB call_isi (by rfl) T.z_isinstance (by decide +kernel) (pa_cons (pv 0) (pa_cons (pe_glob (v := .ref _) rfl T.g_Book rfl) (pa_nil))))))
      (pss_one (ps_never))
      (pss_nil)), ?_⟩)
  · obtain ⟨x, dx, fs, rfl, _⟩ := h
    rfl
  · obtain ⟨x, dx, fs, rfl, hx, k⟩ := h
    (purse 7012 => fail)
    refine g_isi (.own _) (.base (.ins hx T.ic.cl T.ic.ha T.ic.hn T.ic.htk T.ic.hm)) T.ic.me ?_
    (purse 7012 => fail)
    (purse 7016 => fail)
    (purse 7012 => fail)
    exact k
theorem ok_due (F : FnP K "due" "Book.due" s_Book_due f fd) (T : TB35 K w mg) (R_grain : Rn P w K mg base 2 (ga K "Book") "grain" (spGet (ga K "Book") "grain")) (H_threshold : Hn P w K mg base 4 (ga K "Book") "threshold" (spThr K (ga K "Book"))) :
    FnOk P w K mg base (L2.CX P w) 6 f fd ["self", "latest"] (spDue (ga K "Book")) := by
  refine F.ok c_Book_due (fun vs H Q E h => ?_) (fun cdv A outer s H vs Q E hr h => ⟨_, pss_one (ps_ret (pe_op op_add (pe_op op_mul (pe_op op_fdiv (pv 1) (pe_pr R_grain (rm hr) (pv 0))) (pe_pr R_grain (rm hr) (pv 0))) (pe_dm0 H_threshold (rm hr) (passes_call (takes_of rfl rfl rfl rfl) fun _ _ _ _ h => h) (pv 0)))), ?_⟩)
  · obtain ⟨x, p, n, rfl, _⟩ := h
    rfl
  · obtain ⟨x, p, n, rfl, ⟨dx, d, hx, t, hd, ht⟩, ok, k⟩ := h
    have ok' := ok
    obtain ⟨b0, b1, ll, d0, d1, g0, g1, t0, t1, p0, p1⟩ := ok'
    (purse 7012 => fail)
    refine g_kprop hx ⟨x, dx, d, _, .int p.gr, rfl, hx, hd, rfl, ?_⟩
    show rI CDiv (fun i j => V.int (i / j)) (V.int n) (V.int p.gr) H _
    (purse 7012 => fail)
    refine g_kprop hx ⟨x, dx, d, _, .int p.gr, rfl, hx, hd, rfl, ?_⟩
    show rI CMul (fun i j => V.int (i * j)) (V.int (n / p.gr)) (V.int p.gr) H _
    (purse 7012 => fail)
    refine g_kmeth hx rfl ?_
    refine ⟨x, p, rfl, ⟨dx, d, hx, t, hd, .inl ht⟩, ok, ?_⟩
    (purse 7012 => fail)
    exact k
end
def mk3 (x y z : Int) : List (Key × V) := [(.inr "read", .int x), (.inr "written", .int y), (.inr "changed", .int z)]
def mv (x y z : Int) (s : Str) : Int := if s = "read" then x else if s = "written" then y else z
def tops (g : Str → Int) : List Str → Int
  | [] => 0
  | s :: r => (s :: r).foldl (fun m t => if m < g t then g t else m) (g s)
/-- does the law's cleaner delete -/
def del (p : Bp) (x y z : Int) (h : Bool) (at' : Int) : Bool := !(p.sp && h) && decide (thr p ≤ at' - (tops (mv x y z) p.lk - tops (mv x y z) p.lk % p.gr))
theorem lk_mem {l : List Str} (h : l ∈ allLk) : ∀ s, s ∈ l → s = "read" ∨ s = "written" ∨ s = "changed" := by
  simp only [allLk, List.mem_cons, List.not_mem_nil, or_false] at h
  intro s hs
  rcases h with rfl | rfl | rfl | rfl | rfl | rfl | rfl <;> simp only [List.mem_cons, List.not_mem_nil, or_false] at hs <;> rcases hs with rfl | rfl | rfl <;> simp
theorem lk_ne {l : List Str} (h : l ∈ allLk) : ∃ s r, l = s :: r := by
  simp only [allLk, List.mem_cons, List.not_mem_nil, or_false] at h
  rcases h with rfl | rfl | rfl | rfl | rfl | rfl | rfl <;> exact ⟨_, _, rfl⟩
theorem val3 {x y z : Int} {s : Str} (h : s = "read" ∨ s = "written" ∨ s = "changed") : valV (mk3 x y z) (.inr s) = some (.int (mv x y z s)) := by
  rcases h with rfl | rfl | rfl <;> rfl
theorem del_eq {p : Bp} (ok : p.Ok) (A : Int) : decide (thr p ≤ A) = (decide (p.b < A / p.day) || (!p.ab && decide (A / p.day = p.b))) := by
  have d0 := ok.d0
  have e1 : ∀ c : Int, c ≤ A / p.day ↔ c * p.day ≤ A := fun c => Int.le_ediv_iff_mul_le (by omega)
  rw [Bool.eq_iff_iff, Bool.or_eq_true, Bool.and_eq_true, decide_eq_true_iff, decide_eq_true_iff, decide_eq_true_iff, Bool.not_eq_true']
  unfold thr
  cases p.ab with
  | true =>
    rw [if_pos rfl, ← e1]
    constructor
    · intro h; left; omega
    · rintro (h | ⟨h, _⟩)
      · omega
      · cases h
  | false =>
    rw [if_neg (by decide), ← e1]
    constructor
    · intro h
      by_cases h2 : p.b < A / p.day
      · exact .inl h2
      · exact .inr ⟨rfl, by omega⟩
    · rintro (h | ⟨_, h⟩) <;> omega
theorem fold_spec (g : Str → Int) : ∀ (l : List Str) (m : Int), (m ≤ l.foldl (fun m t => if m < g t then g t else m) m) ∧ (∀ s, s ∈ l → g s ≤ l.foldl (fun m t => if m < g t then g t else m) m) ∧ (l.foldl (fun m t => if m < g t then g t else m) m = m ∨ ∃ s, s ∈ l ∧ l.foldl (fun m t => if m < g t then g t else m) m = g s)
  | [], m => ⟨Int.le_refl _, (fun s h => nomatch h), .inl rfl⟩
  | t :: r, m => by
    obtain ⟨h1, h2, h3⟩ := fold_spec g r (if m < g t then g t else m)
    have e : (t :: r).foldl (fun m t => if m < g t then g t else m) m = r.foldl (fun m t => if m < g t then g t else m) (if m < g t then g t else m) := rfl
    rw [e]
    have c : (if m < g t then g t else m) = m ∨ (if m < g t then g t else m) = g t := by split <;> simp
    have cm : m ≤ (if m < g t then g t else m) ∧ g t ≤ (if m < g t then g t else m) := by split <;> omega
    refine ⟨Int.le_trans cm.1 h1, fun s hs => ?_, ?_⟩
    · rcases List.mem_cons.mp hs with rfl | hs
      · exact Int.le_trans cm.2 h1
      · exact h2 s hs
    · rcases h3 with h3 | ⟨s, hs, h3⟩
      · rw [h3]
        rcases c with c | c
        · exact .inl c
        · exact .inr ⟨t, List.mem_cons_self, c⟩
      · exact .inr ⟨s, List.mem_cons_of_mem _ hs, h3⟩
theorem tops_spec (g : Str → Int) {l : List Str} (h : ∃ s r, l = s :: r) : (∀ s, s ∈ l → g s ≤ tops g l) ∧ ∃ s, s ∈ l ∧ tops g l = g s := by
  obtain ⟨s, r, rfl⟩ := h
  obtain ⟨h1, h2, h3⟩ := fold_spec g (s :: r) (g s)
  refine ⟨h2, ?_⟩
  rcases h3 with h3 | h3
  · exact ⟨s, List.mem_cons_self, h3⟩
  · exact h3

end K1
namespace K1
open PySem PySem.Spec PyProof.Rows L2 AF
open C8 (pe_gc)
local macro_rules | `(tactic| purse 7003 => fail) => `(tactic| k_dflt (refine Sh.has_ (by assumption) ?_; repeat (first | exact On.here | apply On.next)))
local macro_rules | `(tactic| purse 7004 => fail) => `(tactic| k_dflt (repeat (first | exact On.here | apply On.next)))
local macro_rules | `(tactic| purse 7005 => fail) => `(tactic| (repeat (first | exact Rep.here | apply Rep.next)))
local macro_rules | `(tactic| purse 7006 => fail) => `(tactic| (exact Sh.out (by assumption) (fun b h => by simp [h])))
local macro_rules | `(tactic| purse 7007 => fail) => `(tactic| k_dflt (first | ((with_reducible refine cdivw ?_ ?_) <;> omega) | ((with_reducible show CDiv _ _); constructor <;> omega) | ((with_reducible show CMul _ _); (first | (left; constructor <;> omega) | (right; constructor <;> omega))) | (show (0 : Int) < _; omega)))
local macro_rules | `(tactic| purse 7008 => fail) => `(tactic| first | exact Kd.int _ | exact Kd.bl _ | exact Kd.non | exact Kd.str _ | exact Kd.ins (by (purse 7003 => fail)) | exact Kd.lst (by (purse 7003 => fail)) | exact Kd.tup (by (purse 7003 => fail)))
local macro_rules | `(tactic| purse 7009 => fail) => `(tactic| first | exact DpAll.nil | (apply DpAll.cons; (purse 7010 => fail); (purse 7009 => fail)))
local macro_rules | `(tactic| purse 7010 => fail) => `(tactic| first | exact Dp.int _ | exact Dp.bl _ | exact Dp.non | exact Dp.str _ | (refine dp_int ?_; omega) | (refine dp_bl ?_; simp only [decide_eq_decide]; omega) | (apply dp_lst; (purse 7003 => fail); (purse 7009 => fail)) | (apply dp_tup; (purse 7003 => fail); (purse 7009 => fail)))
local macro_rules | `(tactic| purse 7011 => fail) => `(tactic| first | assumption | omega)
local macro_rules | `(tactic| purse 7001 => fail) => `(tactic| fail "no use")
local macro_rules | `(tactic| purse 7002 => fail) => `(tactic| first
  | (with_reducible refine set_go ?_)
  | (with_reducible refine Step.go ?_)
  | (with_reducible first | refine g_pow10_6 ?_ | refine g_pow10_7 ?_ | refine g_pow10_18 ?_ | refine g_pow10_29 ?_ | refine g_pow10_30 ?_)
  | ((with_reducible refine' g_I ?a0 ?_); (case a0 => (purse 7007 => fail)))
  | ((with_reducible refine' g_ixL ?a0 ?a1 ?_); (case a0 => (purse 7003 => fail)); (case a1 => k_dflt (exact rfl)))
  | ((with_reducible refine' g_kfld ?a0 ?a1 ?a2 ?a3 ?_); (case a0 => (purse 7003 => fail)); (case a1 => k_dflt (assumption)); (case a2 => k_dflt (assumption)); (case a3 => k_dflt (exact rfl)))
  | ((with_reducible refine' g_kprop ?a0 ?_); (case a0 => (purse 7003 => fail)))
  | ((with_reducible refine' g_kmeth ?a0 ?a1 ?_); (case a0 => (purse 7003 => fail)); (case a1 => k_dflt (exact rfl)))
  | ((with_reducible refine' g_own ?a0 ?a1 ?a2 ?_); (case a0 => (purse 7003 => fail)); (case a1 => (purse 7008 => fail)); (case a2 => k_dflt (assumption)))
  | ((with_reducible refine' g_cmp ?a0 ?a1 ?a2 ?_); (case a0 => (purse 7003 => fail)); (case a1 => (purse 7008 => fail)); (case a2 => k_dflt (assumption)))
  | ((with_reducible refine' g_neq ?a0 ?a1 ?a2 ?_); (case a0 => (purse 7003 => fail)); (case a1 => (purse 7008 => fail)); (case a2 => k_dflt (assumption)))
  | ((with_reducible refine' g_right ?a0 ?_); (case a0 => (purse 7003 => fail)))
  | ((with_reducible refine' use_draw ?a0 ?a1 ?a2 ?a3 ?a4 ?_); (case a0 => assumption); (case a1 => intro _ _; (purse 7005 => fail)); (case a2 => assumption); (case a3 => (purse 7011 => fail)); (case a4 => (purse 7011 => fail)); intro _ _ _ _ _ _ _ _)
  | ((with_reducible refine' use_giveI ?a0 ?a1 ?a2 ?_); (case a0 => assumption); (case a1 => intro _ _; (purse 7005 => fail)); (case a2 => assumption); intro _ _ _ _ _ _ _ _)
  | ((with_reducible refine' use_source ?a0 ?a1 ?_); (case a0 => assumption); (case a1 => k_dflt (assumption)); intro _ _ _ _ _ _)
  | (with_reducible refine g_absN ?_; intro _ _)
  | (with_reducible refine g_maxN ?_; intro _ _ _ _)
  | (with_reducible refine g_minN ?_; intro _ _ _ _)
  | ((with_reducible refine' g_kR1 ?a0 ?a1 ?_); (case a0 => omega); (case a1 => omega))
  | ((with_reducible refine' g_neD ?a0 ?a1 ?a2 ?_); (case a0 => (purse 7010 => fail)); (case a1 => (purse 7010 => fail)); (case a2 => k_dflt (rfl)))
  | ((with_reducible refine' g_eqD ?a0 ?a1 ?a2 ?_); (case a0 => (purse 7010 => fail)); (case a1 => (purse 7010 => fail)); (case a2 => k_dflt (rfl)))
  | ((with_reducible refine' g_klst ?a0 ?a1 ?_); (case a0 => assumption); (case a1 => k_dflt (exact rfl)); intro _ _ _ _)
  | ((with_reducible refine' g_ktup ?a0 ?a1 ?_); (case a0 => assumption); (case a1 => k_dflt (exact rfl)); intro _ _ _ _)
  | ((with_reducible refine' g_setL ?a0 ?a1 ?a2 ?_); (case a0 => assumption); (case a1 => (purse 7005 => fail)); (case a2 => k_dflt (exact rfl)); intro _ _)
  | ((with_reducible refine' g_unl3 ?a0 ?_); (case a0 => (purse 7003 => fail)))
  | (purse 7001 => fail))
local macro_rules | `(tactic| purse 7012 => fail) => `(tactic| ((try (with_reducible refine start_go ?_)); repeat (purse 7002 => fail)))
local macro_rules | `(tactic| purse 7013 => fail) => `(tactic| first | rfl | (refine decide_eq_true ?_; omega) | (simp only [Bool.not_eq_true', Bool.not_eq_false', decide_eq_false_iff_not, decide_eq_true_eq, Bool.not_not, decide_eq_decide]; done) | (simp only [Bool.not_eq_true', Bool.not_eq_false', decide_eq_false_iff_not, decide_eq_true_eq, Bool.not_not, decide_eq_decide]; omega))
local macro_rules | `(tactic| purse 7014 => fail) => `(tactic| first | rfl | (refine decide_eq_false ?_; omega) | (simp only [Bool.not_eq_true', Bool.not_eq_false', decide_eq_false_iff_not, decide_eq_true_eq, Bool.not_not, decide_eq_decide]; done) | (simp only [Bool.not_eq_true', Bool.not_eq_false', decide_eq_false_iff_not, decide_eq_true_eq, Bool.not_not, decide_eq_decide]; omega))
local macro_rules | `(tactic| purse 7015 => fail) => `(tactic| ((refine g_yes ?h ?_); (case h => (purse 7013 => fail))))
local macro_rules | `(tactic| purse 7016 => fail) => `(tactic| ((refine g_no ?h ?_); (case h => (purse 7014 => fail))))
local macro_rules | `(tactic| purse 7017 => fail) => `(tactic| first | (purse 7015 => fail) | (purse 7016 => fail))
local macro_rules | `(tactic| purse 7018 => fail) => `(tactic| repeat ((purse 7012 => fail); (purse 7017 => fail)))
local macro_rules | `(tactic| purse 7019 => fail) => `(tactic| repeat (first | exact intIn_nil | refine intIn_cons (by omega) (by omega) ?_))
local macro_rules | `(tactic| purse 7020 => fail) => `(tactic| (simp only [List.length_cons, List.length_nil]; omega))
local macro_rules | `(tactic| purse 7021 => fail) => `(tactic| (refine g_two (fun c => ?_) (fun c => ?_) <;> first | (have c := of_decide_eq_true c) | (have c := of_decide_eq_false c) | skip))
local macro_rules | `(tactic| purse 7022 => fail) => `(tactic| ((purse 7018 => fail); (purse 7012 => fail); try ((purse 7021 => fail) <;> (purse 7022 => fail))))

/-! the law's own cleaner; books called; the seen age; files held within -/
open He in
structure TU19 (K : PySem.W.Frag) (w : World) (mg : Str → Option Value) : Prop extends TE17 K w mg where
  g_law_old : mg "_law_old" = some (.ref (ga K "_law_old"))
  g_law_deletes : mg "_law_deletes" = some (.ref (ga K "_law_deletes"))
  g_law_file : mg "_law_file" = some (.ref (ga K "_law_file"))
  g_law_held : mg "_law_held" = some (.ref (ga K "_law_held"))
  g_File : mg "File" = some (.ref (ga K "File"))
  g_Rule : mg "Rule" = some (.ref (ga K "Rule"))
  g_Moment : mg "Moment" = some (.ref (ga K "Moment"))
  g_Hold : mg "Hold" = some (.ref (ga K "Hold"))
  g_seconds_of : mg "seconds_of" = some (.ref (ga K "seconds_of"))
  g_is_moment : mg "is_moment" = some (.ref (ga K "is_moment"))
  g_is_point : mg "is_point" = some (.ref (ga K "is_point"))
  g_is_dict_of_marks : mg "is_dict_of_marks" = some (.ref (ga K "is_dict_of_marks"))
  g_seen_age : mg "seen_age" = some (.ref (ga K "seen_age"))
  sm_always : SMet K (ga K "Rule") "always" (ma K (ga K "Rule") "always") (He5.wf K (ga K "Rule") "staticmethod" "always")
  sm_never : SMet K (ga K "Rule") "never" (ma K (ga K "Rule") "never") (He5.wf K (ga K "Rule") "staticmethod" "never")
  sm_seldom : SMet K (ga K "Rule") "seldom" (ma K (ga K "Rule") "seldom") (He5.wf K (ga K "Rule") "staticmethod" "seldom")
  z_abs : mg "abs" = none
  cib : CI K (ga K "Book") (ma K (ga K "Book") "__call__")
  neB : NeC K (ga K "Book") (ma K (ga K "Book") "__eq__")
  icM : C8.InsC K (ga K "Moment")
  icF : C8.InsC K (ga K "File")
  ki : PySem.W.kitOne K (.type "int") (.ref (ga K "Moment")) = some false
  wc : WithC K (ga K "Hold") (ma K (ga K "Hold") "__enter__") (ma K (ga K "Hold") "__exit__")
  hcl : Cls K (ga K "Hold")
  nhF : NoAttr K (ga K "Hold") "file"
  fcl : Cls K (ga K "File")
  nH : NoAttr K (ga K "File") "holding"
def spOld : Sp := fun vs H Q _ => ∃ (d m : Addr) (p : Bp) (x y z n : Int), vs = [.ref d, .ref m, .int n] ∧ Pd0 H d p ∧ p.Ok ∧ Dm H m (mk3 x y z) ∧ Q (.int (n - (tops (mv x y z) p.lk - tops (mv x y z) p.lk % p.gr))) H
def spDel : Sp := fun vs H Q _ => ∃ (d m : Addr) (p : Bp) (x y z n : Int) (h : Bool), vs = [.ref d, .ref m, .bl h, .int n] ∧ Pd0 H d p ∧ p.Ok ∧ Dm H m (mk3 x y z) ∧ Q (.bl (del p x y z h n)) H
theorem g_gn {σ σ1 : L2.St} {i : Nat} {v : V} {H : Hp} {q : L2.St → Hp → Prop} [h : SetI σ i v σ1] (k : q σ1 H) : gName i v σ H q := by
  show q (σ.set i (some v)) H
  rw [h.eq]
  exact k
section
open He
variable {P : Program} {w : World} {K : PySem.W.Frag} {mg : Str → Option Value} {base : Heap} {f : Addr} {fd : FuncData}
theorem ok_old (F : FnP K "_law_old" "_law_old" s_law_old f fd) (T : TU19 K w mg) : FnOk P w K mg base (L2.CX P w) 2 f fd ["parts", "marks", "at"] spOld := by
  refine F.ok c_law_old (fun vs H Q E h => ?_) (fun cdv A outer s H vs Q E hr h => ⟨_, pss_cons (ps_set (i := 3) c_law_old.nd rfl (Or.inl rfl) (pe_dget (hu_of hr) ((pv 1)) ((pe_ix ix_tup (pe_dget (hu_of hr) ((pv 0)) ((pe_str)) (fun _ _ => rfl)) (pe_int) (fun _ _ => rfl))) (fun _ _ => rfl)))
      (pss_cons (ps_for (passes_of rfl) rfl (pi_tup (pe_dget (hu_of hr) ((pv 0)) ((pe_str)) (fun _ _ => rfl))) (pg_name (i := 4) c_law_old.nd rfl (Or.inl rfl))
      (pss_one (ps_if (pt_cmpR op_gt (pe_dget (hu_of hr) ((pv 1)) ((pv 4)) (fun _ _ => rfl)) (pv 3) (nomark _))
      (pss_one (ps_set (i := 3) c_law_old.nd rfl (Or.inl rfl) (pe_dget (hu_of hr) ((pv 1)) ((pv 4)) (fun _ _ => rfl))))
      (pss_nil))))
      (pss_one (ps_ret (pe_op op_sub (pv 2) (pe_op op_sub (pv 3) (pe_op op_mod (pe_callTy cl_int (by rfl) T.z_int (by decide +kernel) (pa_cons (pv 3) (pa_nil))) (pe_dget (hu_of hr) ((pv 0)) ((pe_str)) (fun _ _ => rfl)))))))), ?_⟩)
  · obtain ⟨d, m, p, x, y, z, n, rfl, _⟩ := h
    rfl
  · obtain ⟨d, m, p, x, y, z, n, rfl, ⟨t, hd, ht⟩, ok, hm, k⟩ := h
    obtain ⟨s0, r0, el⟩ := lk_ne ok.l
    have mem := lk_mem ok.l
    have ht' : H t = some (.tup (V.str s0 :: r0.map V.str)) := by rw [ht, el]; rfl
    (purse 7012 => fail)
    refine g_dg (v := .ref t) hd (by rfl) ?_
    (purse 7012 => fail)
    refine g_ixT (K := K) ht' (ai_nat (i := 0) (by rfl)) ?_
    refine g_dgM (v := .int (mv x y z s0)) hm (val3 (mem s0 (by rw [el]; exact List.mem_cons_self))) ?_
    (purse 7012 => fail)
    refine g_dg (v := .ref t) hd (by rfl) ?_
    refine ⟨t, rfl, ⟨_, SqT.of ht⟩, for_tup (K := K) (xs := p.lk.map V.str) (fun i σ' H' => ∃ o : Option V, σ' = [some (V.ref d), some (V.ref m), some (V.int n), some (V.int ((p.lk.take i).foldl (fun m t => if m < mv x y z t then mv x y z t else m) (mv x y z s0))), o] ∧ H = H') ⟨none, rfl, rfl⟩ (fun i σ' H' _ p => by obtain ⟨_, _, rfl⟩ := p; exact SqT.of ht) ?_ ?_⟩
    · rintro i v σ' H' hv ⟨o, rfl, rfl⟩
      rw [List.getElem?_map] at hv
      cases e : p.lk[i]? with
      | none => rw [e] at hv; cases hv
      | some s =>
        rw [e] at hv
        cases hv
        have hs := mem s (List.mem_of_getElem? e)
        have etk : p.lk.take (i + 1) = p.lk.take i ++ [s] := by rw [List.take_add_one, e]; rfl
        generalize ef : (p.lk.take i).foldl (fun m t => if m < mv x y z t then mv x y z t else m) (mv x y z s0) = fo
        have ef2 : (p.lk.take (i + 1)).foldl (fun m t => if m < mv x y z t then mv x y z t else m) (mv x y z s0) = if fo < mv x y z s then mv x y z s else fo := by
          rw [etk, List.foldl_append, ef]; rfl
        refine g_gn ?_
        (purse 7012 => fail)
        refine g_dgM (v := .int (mv x y z s)) hm (val3 hs) ?_
        (purse 7012 => fail)
        by_cases c : fo < mv x y z s
        · rw [decide_eq_true c]
          (purse 7015 => fail)
          (purse 7012 => fail)
          refine g_dgM (v := .int (mv x y z s)) hm (val3 hs) ?_
          (purse 7012 => fail)
          exact ⟨_, by rw [ef2, if_pos c]; rfl, rfl⟩
        · rw [decide_eq_false c]
          (purse 7016 => fail)
          (purse 7012 => fail)
          exact ⟨_, by rw [ef2, if_neg c], rfl⟩
    · rintro σ' H' ⟨o, rfl, rfl⟩
      rw [List.length_map, List.take_length, show (p.lk.foldl (fun m t => if m < mv x y z t then mv x y z t else m) (mv x y z s0)) = tops (mv x y z) p.lk by rw [el]; rfl]
      have g0 := ok.g0
      have g1 := ok.g1
      (purse 7012 => fail)
      refine g_dg (v := .int p.gr) hd (by rfl) ?_
      (purse 7012 => fail)
      exact k
theorem ok_del (F : FnP K "_law_deletes" "_law_deletes" s_law_deletes f fd) (T : TU19 K w mg) (D_law_old : Dn P w K mg base 2 (ga K "_law_old") ["parts", "marks", "at"] spOld) : FnOk P w K mg base (L2.CX P w) 4 f fd ["parts", "marks", "held", "at"] spDel := by
  refine F.ok c_law_deletes (fun vs H Q E h => ?_) (fun cdv A outer s H vs Q E hr h => ⟨_, pss_cons (ps_if (PW.pt (pw_and (pt_val (pe_dget (hu_of hr) ((pv 0)) ((pe_str)) (fun _ _ => rfl))) (pw_and1 (pt_val (pv 2)))))
      (pss_one (ps_ret (pe_bl)))
      (pss_nil))
      (pss_cons (ps_set (i := 4) c_law_deletes.nd rfl (Or.inl rfl) (pe_op op_fdiv (pe_dn D_law_old (rm hr) rfl T.g_law_old (passes_call (takes_of rfl rfl rfl rfl) fun _ _ _ _ h => h) (pa_cons (pv 0) (pa_cons (pv 1) (pa_cons (pv 3) (pa_nil))))) (pe_dget (hu_of hr) ((pv 0)) ((pe_str)) (fun _ _ => rfl))))
      (pss_one (ps_ret (pe_or (pe_cmpR op_gt (pv 4) (pe_dget (hu_of hr) ((pv 0)) ((pe_str)) (fun _ _ => rfl)) (nomark _)) (pe_one (pe_and (pe_cmpR op_eq (pe_dget (hu_of hr) ((pv 0)) ((pe_str)) (fun _ _ => rfl)) (pe_str) (nomark _)) (pe_one (pe_cmpR op_eq (pv 4) (pe_dget (hu_of hr) ((pv 0)) ((pe_str)) (fun _ _ => rfl)) (nomark _))))))))), ?_⟩)
  · obtain ⟨d, m, p, x, y, z, n, b, rfl, _⟩ := h
    rfl
  · obtain ⟨d, m, p, x, y, z, n, b, rfl, ⟨t, hd, ht⟩, ok, hm, k⟩ := h
    (purse 7012 => fail)
    refine g_dg (v := .bl p.sp) hd (by rfl) ?_
    (purse 7012 => fail)
    by_cases hsp : p.sp = true
    · refine g_yes hsp ?_
      (purse 7012 => fail)
      by_cases hb : b = true
      · refine g_yes hb ?_
        (purse 7012 => fail)
        unfold del at k
        rw [hsp, hb] at k
        exact k
      · rw [Bool.not_eq_true] at hb
        refine g_no hb ?_
        (purse 7012 => fail)
        refine ⟨d, m, p, x, y, z, n, rfl, ⟨t, hd, ht⟩, ok, hm, ?_⟩
        generalize eA : n - (tops (mv x y z) p.lk - tops (mv x y z) p.lk % p.gr) = A'
        have d0 := ok.d0
        have d1 := ok.d1
        have k2 : Q (.bl (decide (p.b < A' / p.day) || (!p.ab && decide (A' / p.day = p.b)))) H := by
          rw [← del_eq ok, ← eA]
          unfold del at k
          rw [show (!(p.sp && b)) = true by rw [hb]; simp, Bool.true_and] at k
          exact k
        (purse 7012 => fail)
        refine g_dg (v := .int p.day) hd (by rfl) ?_
        (purse 7012 => fail)
        refine g_dg (v := .int p.b) hd (by rfl) ?_
        (purse 7012 => fail)
        by_cases c1 : p.b < A' / p.day
        · rw [decide_eq_true c1] at k2 ⊢
          (purse 7015 => fail)
          exact k2
        · rw [decide_eq_false c1, Bool.false_or] at k2
          rw [decide_eq_false c1]
          (purse 7016 => fail)
          (purse 7012 => fail)
          refine g_dg (v := .str (hw p.ab)) hd (by rfl) ?_
          (purse 7012 => fail)
          cases ha : p.ab with
          | true =>
            rw [ha] at k2
            refine g_eqS (r := false) (by decide) ?_
            (purse 7012 => fail)
            (purse 7016 => fail)
            exact k2
          | false =>
            rw [ha] at k2
            refine g_eqS (r := true) (by decide) ?_
            (purse 7012 => fail)
            (purse 7015 => fail)
            (purse 7012 => fail)
            refine g_dg (v := .int p.b) hd (by rfl) ?_
            (purse 7012 => fail)
            exact k2
    · rw [Bool.not_eq_true] at hsp
      refine g_no hsp ?_
      (purse 7016 => fail)
      (purse 7012 => fail)
      refine ⟨d, m, p, x, y, z, n, rfl, ⟨t, hd, ht⟩, ok, hm, ?_⟩
      generalize eA : n - (tops (mv x y z) p.lk - tops (mv x y z) p.lk % p.gr) = A'
      have d0 := ok.d0
      have d1 := ok.d1
      have k2 : Q (.bl (decide (p.b < A' / p.day) || (!p.ab && decide (A' / p.day = p.b)))) H := by
        rw [← del_eq ok, ← eA]
        unfold del at k
        rw [show (!(p.sp && b)) = true by rw [hsp]; rfl, Bool.true_and] at k
        exact k
      (purse 7012 => fail)
      refine g_dg (v := .int p.day) hd (by rfl) ?_
      (purse 7012 => fail)
      refine g_dg (v := .int p.b) hd (by rfl) ?_
      (purse 7012 => fail)
      by_cases c1 : p.b < A' / p.day
      · rw [decide_eq_true c1] at k2 ⊢
        (purse 7015 => fail)
        exact k2
      · rw [decide_eq_false c1, Bool.false_or] at k2
        rw [decide_eq_false c1]
        (purse 7016 => fail)
        (purse 7012 => fail)
        refine g_dg (v := .str (hw p.ab)) hd (by rfl) ?_
        (purse 7012 => fail)
        cases ha : p.ab with
        | true =>
          rw [ha] at k2
          refine g_eqS (r := false) (by decide) ?_
          (purse 7012 => fail)
          (purse 7016 => fail)
          exact k2
        | false =>
          rw [ha] at k2
          refine g_eqS (r := true) (by decide) ?_
          (purse 7012 => fail)
          (purse 7015 => fail)
          (purse 7012 => fail)
          refine g_dg (v := .int p.b) hd (by rfl) ?_
          (purse 7012 => fail)
          exact k2
theorem lk_map {x y z : Int} {l : List Str} (h : l ∈ allLk) : Lk x y z (l.map V.str) (l.map (mv x y z)) := by
  simp only [allLk, List.mem_cons, List.not_mem_nil, or_false] at h
  rcases h with rfl | rfl | rfl | rfl | rfl | rfl | rfl
  · exact .rwc
  · exact .r
  · exact .w
  · exact .c
  · exact .rw
  · exact .rc
  · exact .wc
theorem max_tops {f : Str → Int} {l : List Str} (h : ∃ s r, l = s :: r) {v : Int} (m : KF.IsMax (l.map f) v) : v = tops f l := by
  obtain ⟨t1, s, hs, e⟩ := tops_spec f h
  obtain ⟨m1, m2⟩ := m
  obtain ⟨s2, hs2, e2⟩ := List.mem_map.mp m1
  have h1 := t1 s2 hs2
  have h2 := m2 (f s) (List.mem_map_of_mem hs)
  omega
theorem due_del {p : Bp} {x y z n : Int} {b : Bool} (h : (p.sp && b) = false) : decide (tops (mv x y z) p.lk / p.gr * p.gr + thr p ≤ n) = del p x y z b n := by
  unfold del
  rw [h, Bool.not_false, Bool.true_and, decide_eq_decide]
  have e := Int.mul_ediv_add_emod (tops (mv x y z) p.lk) p.gr
  rw [Int.mul_comm] at e
  omega
def spCallB (C F M : Addr) : Sp := fun vs H Q _ => ∃ (x a dx r d : Addr) (p : Bp) (m n c1 c2 c3 : Int) (h : Bool) (v : V), vs = [.ref x, .ref a, v] ∧ KF.At M H v n ∧ Bs0 C H x p ∧ p.Ok ∧ H a = some (.ins F dx (KF.fl r d m h)) ∧ H d = some (.dK (KF.mk3 c1 c2 c3)) ∧
  -1000000000000000000000000000000 ≤ n ∧ n ≤ 1000000000000000000000000000000 ∧ ∀ H', Up H H' → Q (.bl (del p c1 c2 c3 h n)) H'
theorem ok_callB (F : FnP K "__call__" "Book.__call__" s_Book___call__ f fd) (T : TU19 K w mg) (TF : KF.TFL K w mg) (D_seconds_of : Dn P w K mg base 6 (ga K "seconds_of") ["value"] (KF.spSecs (ga K "Moment")))
    (R_spares : Rn P w K mg base 2 (ga K "Book") "spares" (spGet (ga K "Book") "spares")) (R_looks : Rn P w K mg base 2 (ga K "Book") "looks" (spGet (ga K "Book") "looks")) (R_held : Rn P w K mg base 2 (ga K "File") "held" (KF.spHeld (ga K "File")))
    (H_latest : Hn P w K mg base 6 (ga K "File") "latest" (KF.spLatest (ga K "File"))) (H_due : Hn P w K mg base 6 (ga K "Book") "due" (spDue (ga K "Book"))) :
    FnOk P w K mg base (L2.CX P w) 10 f fd ["self", "file", "at"] (spCallB (ga K "Book") (ga K "File") (ga K "Moment")) := by
  refine F.ok c_Book___call__ (fun vs H Q E h => ?_) (fun cdv A outer s H vs Q E hr h => ⟨_, pss_cons (ps_if (pt_not (pt_val (pe_callB call_isi (by rfl) T.z_isinstance (by decide +kernel) (pa_cons (pv 1) (pa_cons (pe_glob (v := .ref _) rfl T.g_File rfl) (pa_nil))))))
      (pss_one (ps_never))
      (pss_nil))
      (pss_cons (ps_set (i := 3) c_Book___call__.nd rfl (Or.inl rfl) (pe_dn D_seconds_of (rm hr) rfl T.g_seconds_of (passes_call (takes_of rfl rfl rfl rfl) fun _ _ _ _ h => h) (pa_cons (pv 2) (pa_nil))))
      (pss_cons (ps_if (PW.pt (pw_and (pt_val (pe_pr R_spares (rm hr) (pv 0))) (pw_and1 (pt_val (pe_pr R_held (rm hr) (pv 1))))))
      (pss_one (ps_ret (pe_bl)))
      (pss_nil))
      (pss_one (ps_ret (pe_cmpR op_ge (pv 3) (pe_dm H_due (rm hr) (passes_call (takes_of rfl rfl rfl rfl) fun _ _ _ _ h => h) (pv 0) (pa_cons (pe_dm H_latest (rm hr) (passes_call (takes_of rfl rfl rfl rfl) fun _ _ _ _ h => h) (pv 1) (pa_cons (pe_pr R_looks (rm hr) (pv 0)) (pa_nil))) (pa_nil))) (nomark _)))))), ?_⟩)
  · obtain ⟨x, a, dx, r, d, p, m, n, c1, c2, c3, b, v0, rfl, _⟩ := h
    rfl
  · obtain ⟨x, a, dx, r, d, p, m, n, c1, c2, c3, b, v0, rfl, hat, ⟨dy, e, hx, t, he, ht⟩, op, ha, hd, n0, n1, k⟩ := h
    (purse 7012 => fail)
    refine g_isi (.own _) (.base (.ins ha TF.ic.cl TF.ic.ha TF.ic.hn TF.ic.htk TF.ic.hm)) TF.ic.me ?_
    (purse 7012 => fail)
    (purse 7016 => fail)
    (purse 7012 => fail)
    refine ⟨v0, n, rfl, hat, n0, n1, ?_⟩
    (purse 7012 => fail)
    refine g_kprop hx ⟨x, dy, e, _, .bl p.sp, rfl, hx, he, rfl, ?_⟩
    show kB _ (V.bl p.sp) H
    (purse 7012 => fail)
    cases hp : p.sp with
    | true =>
      (purse 7015 => fail)
      (purse 7012 => fail)
      refine g_kprop ha ⟨a, dx, r, d, m, b, rfl, ha, ?_⟩
      show kB _ (V.bl b) H
      (purse 7012 => fail)
      cases b with
      | true =>
        (purse 7015 => fail)
        (purse 7012 => fail)
        have k0 := k H Up.rfl'
        unfold del at k0
        rw [hp] at k0
        exact k0
      | false =>
        (purse 7016 => fail)
        (purse 7012 => fail)
        refine g_kmeth hx rfl ?_
        (purse 7012 => fail)
        refine g_kmeth ha rfl ?_
        (purse 7012 => fail)
        refine g_kprop hx ⟨x, dy, e, _, .ref t, rfl, hx, he, rfl, ?_⟩
        refine ⟨a, dx, r, d, t, _, _, m, c1, c2, c3, false, rfl, ha, hd, ht, lk_map op.l, fun v H1 ch hv => ?_⟩
        rw [max_tops (lk_ne op.l) hv]
        refine ⟨x, p, _, rfl, Bs0.up (Up.of ch) ⟨dy, e, hx, t, he, ht⟩, op, ?_⟩
        (purse 7012 => fail)
        rw [due_del (b := false) (by rw [hp]; rfl)]
        exact k H1 (Up.of ch)
    | false =>
      (purse 7016 => fail)
      (purse 7016 => fail)
      (purse 7012 => fail)
      refine g_kmeth hx rfl ?_
      (purse 7012 => fail)
      refine g_kmeth ha rfl ?_
      (purse 7012 => fail)
      refine g_kprop hx ⟨x, dy, e, _, .ref t, rfl, hx, he, rfl, ?_⟩
      refine ⟨a, dx, r, d, t, _, _, m, c1, c2, c3, b, rfl, ha, hd, ht, lk_map op.l, fun v H1 ch hv => ?_⟩
      rw [max_tops (lk_ne op.l) hv]
      refine ⟨x, p, _, rfl, Bs0.up (Up.of ch) ⟨dy, e, hx, t, he, ht⟩, op, ?_⟩
      (purse 7012 => fail)
      rw [due_del (b := b) (by rw [hp]; rfl)]
      exact k H1 (Up.of ch)
end

end K1
namespace K1
open PySem PySem.Spec PyProof.Rows L2 AF LamX
open C8 (pe_gc)
local macro_rules | `(tactic| purse 7003 => fail) => `(tactic| k_dflt (refine Sh.has_ (by assumption) ?_; repeat (first | exact On.here | apply On.next)))
local macro_rules | `(tactic| purse 7004 => fail) => `(tactic| k_dflt (repeat (first | exact On.here | apply On.next)))
local macro_rules | `(tactic| purse 7005 => fail) => `(tactic| (repeat (first | exact Rep.here | apply Rep.next)))
local macro_rules | `(tactic| purse 7006 => fail) => `(tactic| (exact Sh.out (by assumption) (fun b h => by simp [h])))
local macro_rules | `(tactic| purse 7007 => fail) => `(tactic| k_dflt (first | ((with_reducible refine cdivw ?_ ?_) <;> omega) | ((with_reducible show CDiv _ _); constructor <;> omega) | ((with_reducible show CMul _ _); (first | (left; constructor <;> omega) | (right; constructor <;> omega))) | (show (0 : Int) < _; omega)))
local macro_rules | `(tactic| purse 7008 => fail) => `(tactic| first | exact Kd.int _ | exact Kd.bl _ | exact Kd.non | exact Kd.str _ | exact Kd.ins (by (purse 7003 => fail)) | exact Kd.lst (by (purse 7003 => fail)) | exact Kd.tup (by (purse 7003 => fail)))
local macro_rules | `(tactic| purse 7009 => fail) => `(tactic| first | exact DpAll.nil | (apply DpAll.cons; (purse 7010 => fail); (purse 7009 => fail)))
local macro_rules | `(tactic| purse 7010 => fail) => `(tactic| first | exact Dp.int _ | exact Dp.bl _ | exact Dp.non | exact Dp.str _ | (refine dp_int ?_; omega) | (refine dp_bl ?_; simp only [decide_eq_decide]; omega) | (apply dp_lst; (purse 7003 => fail); (purse 7009 => fail)) | (apply dp_tup; (purse 7003 => fail); (purse 7009 => fail)))
local macro_rules | `(tactic| purse 7011 => fail) => `(tactic| first | assumption | omega)
local macro_rules | `(tactic| purse 7001 => fail) => `(tactic| fail "no use")
local macro_rules | `(tactic| purse 7002 => fail) => `(tactic| first
  | (with_reducible refine set_go ?_)
  | (with_reducible refine Step.go ?_)
  | (with_reducible first | refine g_pow10_6 ?_ | refine g_pow10_7 ?_ | refine g_pow10_18 ?_ | refine g_pow10_29 ?_ | refine g_pow10_30 ?_)
  | ((with_reducible refine' g_I ?a0 ?_); (case a0 => (purse 7007 => fail)))
  | ((with_reducible refine' g_ixL ?a0 ?a1 ?_); (case a0 => (purse 7003 => fail)); (case a1 => k_dflt (exact rfl)))
  | ((with_reducible refine' g_kfld ?a0 ?a1 ?a2 ?a3 ?_); (case a0 => (purse 7003 => fail)); (case a1 => k_dflt (assumption)); (case a2 => k_dflt (assumption)); (case a3 => k_dflt (exact rfl)))
  | ((with_reducible refine' g_kprop ?a0 ?_); (case a0 => (purse 7003 => fail)))
  | ((with_reducible refine' g_kmeth ?a0 ?a1 ?_); (case a0 => (purse 7003 => fail)); (case a1 => k_dflt (exact rfl)))
  | ((with_reducible refine' g_own ?a0 ?a1 ?a2 ?_); (case a0 => (purse 7003 => fail)); (case a1 => (purse 7008 => fail)); (case a2 => k_dflt (assumption)))
  | ((with_reducible refine' g_cmp ?a0 ?a1 ?a2 ?_); (case a0 => (purse 7003 => fail)); (case a1 => (purse 7008 => fail)); (case a2 => k_dflt (assumption)))
  | ((with_reducible refine' g_neq ?a0 ?a1 ?a2 ?_); (case a0 => (purse 7003 => fail)); (case a1 => (purse 7008 => fail)); (case a2 => k_dflt (assumption)))
  | ((with_reducible refine' g_right ?a0 ?_); (case a0 => (purse 7003 => fail)))
  | ((with_reducible refine' use_draw ?a0 ?a1 ?a2 ?a3 ?a4 ?_); (case a0 => assumption); (case a1 => intro _ _; (purse 7005 => fail)); (case a2 => assumption); (case a3 => (purse 7011 => fail)); (case a4 => (purse 7011 => fail)); intro _ _ _ _ _ _ _ _)
  | ((with_reducible refine' use_giveI ?a0 ?a1 ?a2 ?_); (case a0 => assumption); (case a1 => intro _ _; (purse 7005 => fail)); (case a2 => assumption); intro _ _ _ _ _ _ _ _)
  | ((with_reducible refine' use_source ?a0 ?a1 ?_); (case a0 => assumption); (case a1 => k_dflt (assumption)); intro _ _ _ _ _ _)
  | (with_reducible refine g_absN ?_; intro _ _)
  | (with_reducible refine g_maxN ?_; intro _ _ _ _)
  | (with_reducible refine g_minN ?_; intro _ _ _ _)
  | ((with_reducible refine' g_kR1 ?a0 ?a1 ?_); (case a0 => omega); (case a1 => omega))
  | ((with_reducible refine' g_neD ?a0 ?a1 ?a2 ?_); (case a0 => (purse 7010 => fail)); (case a1 => (purse 7010 => fail)); (case a2 => k_dflt (rfl)))
  | ((with_reducible refine' g_eqD ?a0 ?a1 ?a2 ?_); (case a0 => (purse 7010 => fail)); (case a1 => (purse 7010 => fail)); (case a2 => k_dflt (rfl)))
  | ((with_reducible refine' g_klst ?a0 ?a1 ?_); (case a0 => assumption); (case a1 => k_dflt (exact rfl)); intro _ _ _ _)
  | ((with_reducible refine' g_ktup ?a0 ?a1 ?_); (case a0 => assumption); (case a1 => k_dflt (exact rfl)); intro _ _ _ _)
  | ((with_reducible refine' g_setL ?a0 ?a1 ?a2 ?_); (case a0 => assumption); (case a1 => (purse 7005 => fail)); (case a2 => k_dflt (exact rfl)); intro _ _)
  | ((with_reducible refine' g_unl3 ?a0 ?_); (case a0 => (purse 7003 => fail)))
  | (purse 7001 => fail))
local macro_rules | `(tactic| purse 7012 => fail) => `(tactic| ((try (with_reducible refine start_go ?_)); repeat (purse 7002 => fail)))
local macro_rules | `(tactic| purse 7013 => fail) => `(tactic| first | rfl | (refine decide_eq_true ?_; omega) | (simp only [Bool.not_eq_true', Bool.not_eq_false', decide_eq_false_iff_not, decide_eq_true_eq, Bool.not_not, decide_eq_decide]; done) | (simp only [Bool.not_eq_true', Bool.not_eq_false', decide_eq_false_iff_not, decide_eq_true_eq, Bool.not_not, decide_eq_decide]; omega))
local macro_rules | `(tactic| purse 7014 => fail) => `(tactic| first | rfl | (refine decide_eq_false ?_; omega) | (simp only [Bool.not_eq_true', Bool.not_eq_false', decide_eq_false_iff_not, decide_eq_true_eq, Bool.not_not, decide_eq_decide]; done) | (simp only [Bool.not_eq_true', Bool.not_eq_false', decide_eq_false_iff_not, decide_eq_true_eq, Bool.not_not, decide_eq_decide]; omega))
local macro_rules | `(tactic| purse 7015 => fail) => `(tactic| ((refine g_yes ?h ?_); (case h => (purse 7013 => fail))))
local macro_rules | `(tactic| purse 7016 => fail) => `(tactic| ((refine g_no ?h ?_); (case h => (purse 7014 => fail))))
local macro_rules | `(tactic| purse 7017 => fail) => `(tactic| first | (purse 7015 => fail) | (purse 7016 => fail))
local macro_rules | `(tactic| purse 7018 => fail) => `(tactic| repeat ((purse 7012 => fail); (purse 7017 => fail)))
local macro_rules | `(tactic| purse 7019 => fail) => `(tactic| repeat (first | exact intIn_nil | refine intIn_cons (by omega) (by omega) ?_))
local macro_rules | `(tactic| purse 7020 => fail) => `(tactic| (simp only [List.length_cons, List.length_nil]; omega))
local macro_rules | `(tactic| purse 7021 => fail) => `(tactic| (refine g_two (fun c => ?_) (fun c => ?_) <;> first | (have c := of_decide_eq_true c) | (have c := of_decide_eq_false c) | skip))
local macro_rules | `(tactic| purse 7022 => fail) => `(tactic| ((purse 7018 => fail); (purse 7012 => fail); try ((purse 7021 => fail) <;> (purse 7022 => fail))))

/-! the seen age; a file held within *-/
theorem up_sh {H0 H : Hp} {l : List Ent} (S : Sh H0 (fun _ => False) H l) : Up H0 H := fun b o e => S.fr b o e (fun z => z)
theorem At.up {M : Addr} {H H' : Hp} {v : V} {n : Int} (u : Up H H') (a : KF.At M H v n) : KF.At M H' v n := by
  cases a with
  | int => exact .int _
  | mom h => exact .mom (u _ _ h)
theorem g_din2 {σ : L2.St} {i j : Nat} {z : Str} {a : Addr} {kvs : List (Key × V)} {v : V} {Q : VK} {H : Hp} (hi : σ[i]? = some (some (.str z))) (hj : σ[j]? = some (some (.ref a))) (h : H a = some (.dK kvs)) (e : valV kvs (.inr z) = some v) (q : Q (.bl true) H) : tDIn (tVar i) (tVar j) σ H Q :=
  ⟨.str z, hi, .ref a, hj, a, some v, rfl, by rw [← e]; exact DGet.k (k := .inr z) h, q⟩
/-- a dict of the three marks in one of two orders -/
inductive Md (w1 w2 w3 : V) : List (Key × V) → Prop where
  | a : Md w1 w2 w3 [(.inr "read", w1), (.inr "written", w2), (.inr "changed", w3)]
  | b : Md w1 w2 w3 [(.inr "changed", w3), (.inr "read", w1), (.inr "written", w2)]
def Mo (n : Int) : Prop := -1000000000000000000000000000000 ≤ n ∧ n ≤ 1000000000000000000000000000000
def MdAt (M : Addr) (H : Hp) (m : Addr) (x y z : Int) : Prop := ∃ w1 w2 w3 kvs, H m = some (.dK kvs) ∧ Md w1 w2 w3 kvs ∧ KF.At M H w1 x ∧ KF.At M H w2 y ∧ KF.At M H w3 z ∧ Mo x ∧ Mo y ∧ Mo z
def spPoint (M : Addr) : Sp := fun vs H Q _ => ∃ (v : V) (n : Int), vs = [v] ∧ KF.At M H v n ∧ -1000000000000000000000000000000 ≤ n ∧ n ≤ 1000000000000000000000000000000 ∧ Q (.bl true) H
def spDom (M : Addr) : Sp := fun vs H Q _ => ∃ (m : Addr) (x y z : Int), vs = [.ref m] ∧ MdAt M H m x y z ∧ ∀ H', Up H H' → Q (.bl true) H'
def spSeen19 (C M : Addr) : Sp := fun vs H Q _ => ∃ (a m : Addr) (v : V) (p : Bp) (x y z n : Int), vs = [.ref a, .ref m, v] ∧ Bs0 C H a p ∧ p.Ok ∧ MdAt M H m x y z ∧ KF.At M H v n ∧ Mo n ∧
  ∀ H', Up H H' → Q (.int ((n - (tops (mv x y z) p.lk - tops (mv x y z) p.lk % p.gr)) / p.day)) H'
local macro_rules | `(tactic| purse 7023 => fail) => `(tactic| ((purse 7012 => fail); refine g_kel (by assumption) (by (purse 7005 => fail)) (by exact Nat.le_of_ble_eq_true rfl) ?_; intro _ _))
section
open He
variable {P : Program} {w : World} {K : PySem.W.Frag} {mg : Str → Option Value} {base : Heap} {f : Addr} {fd : FuncData}
theorem ok_point (F : FnP K "is_point" "is_point" s_is_point f fd) (T : TU19 K w mg) (D_is_moment : Dn P w K mg base 4 (ga K "is_moment") ["value"] KF.spIsMo) : FnOk P w K mg base (L2.CX P w) 6 f fd ["value"] (spPoint (ga K "Moment")) := by
  refine F.ok c_is_point (fun vs H Q E h => ?_) (fun cdv A outer s H vs Q E hr h => ⟨_, pss_one (ps_ret (pe_or (pe_callB call_isi (by rfl) T.z_isinstance (by decide +kernel) (pa_cons (pv 0) (pa_cons (pe_glob (v := .ref _) rfl T.g_Moment rfl) (pa_nil)))) (pe_one (pe_dn D_is_moment (rm hr) rfl T.g_is_moment (passes_call (takes_of rfl rfl rfl rfl) fun _ _ _ _ h => h) (pa_cons (pv 0) (pa_nil)))))), ?_⟩)
  · obtain ⟨v, n, rfl, _⟩ := h
    rfl
  · obtain ⟨v, n, rfl, ha, h0, h1, k⟩ := h
    (purse 7012 => fail)
    cases ha with
    | int =>
      refine g_isi (.own _) (.base (.int n)) T.ki ?_
      (purse 7012 => fail)
      (purse 7016 => fail)
      (purse 7012 => fail)
      refine ⟨n, rfl, h0, h1, ?_⟩
      exact k
    | mom h =>
      refine g_isi (.own _) (.base (.ins h T.icM.cl T.icM.ha T.icM.hn T.icM.htk T.icM.hm)) T.icM.me ?_
      (purse 7012 => fail)
      (purse 7015 => fail)
      (purse 7012 => fail)
      exact k
theorem ok_dom (F : FnP K "is_dict_of_marks" "is_dict_of_marks" s_is_dict_of_marks f fd) (T : TU19 K w mg) (D_is_point : Dn P w K mg base 6 (ga K "is_point") ["value"] (spPoint (ga K "Moment"))) : FnOk P w K mg base (L2.CX P w) 8 f fd ["value"] (spDom (ga K "Moment")) := by
  refine F.ok c_is_dict_of_marks (fun vs H Q E h => ?_) (fun cdv A outer s H vs Q E hr h => ⟨_, pss_cons (ps_if (PW.pt (pw_or (pt_not (pt_val (pe_callB call_isi (by rfl) T.z_isinstance (by decide +kernel) (pa_cons (pv 0) (pa_cons (pe_bltn (v := .ty "dict") rfl T.z_dict (by decide +kernel) rfl) (pa_nil)))))) (pw_or1 (pt_cmpR op_ne (pe_callB call_lenD (by rfl) T.z_len (by decide +kernel) (pa_cons (pv 0) (pa_nil))) (pe_callB cl_len (by rfl) T.z_len (by decide +kernel) (pa_cons (pe_gc rfl T.v_MARKS) (pa_nil))) (nomark _)))))
      (pss_one (ps_ret (pe_bl)))
      (pss_nil))
      (pss_one (ps_ret (pe_callB (cl_all rfl) (by rfl) T.z_all (by decide +kernel) (pa_cons (pe_lc (own := [("mark", 1)]) (g := gName 1) (tt := tYes) rfl c_is_dict_of_marks.nd (pi_tup (pe_gc rfl T.v_MARKS)) (blkOk_by (own := [("mark", 1)]) (N := ["value", "mark"]) (sc := defScope s_is_dict_of_marks) (by decide +kernel)) (fun _ _ _ _ _ => pg_name (i := 1) c_is_dict_of_marks.nd rfl (Or.inl rfl)) (fun _ _ _ _ _ => pts_nil) (fun _ _ _ _ _ => pe_and (pe_cmp (pc_din (hu_of hr) ((pv 1)) ((pv 0)))) (pe_one (pe_dn D_is_point (rm hr) rfl T.g_is_point passL (pa_cons (pe_dget (hu_of hr) ((pv 0)) ((pv 1)) (fun _ _ => rfl)) (pa_nil)))))) (pa_nil))))), ?_⟩)
  · obtain ⟨m, x, y, z, rfl, _⟩ := h
    rfl
  · obtain ⟨m, x, y, z, rfl, ⟨w1, w2, w3, kvs, h, md, a1, a2, a3, ⟨m10, m11⟩, ⟨m20, m21⟩, ⟨m30, m31⟩⟩, k⟩ := h
    have S : Sh H (fun _ => False) H [(m, .dK kvs, false)] := Sh.start.know h (fun _ h => nomatch h)
    have hl : kvs.length = 3 := by cases md <;> rfl
    (purse 7012 => fail)
    refine g_isi (.ty "dict") (.base (.dK h)) (kit_ty (b := "dict") (r := true) (by decide +kernel)) ?_
    (purse 7012 => fail)
    (purse 7016 => fail)
    (purse 7012 => fail)
    refine ⟨_, _, rfl, h, ?_⟩
    rw [hl]
    (purse 7012 => fail)
    refine g_lenT (K := K) T.marks.sq ?_
    (purse 7012 => fail)
    (purse 7016 => fail)
    (purse 7012 => fail)
    refine g_lcT (fun _ => True) (fun _ _ => T.marks.sq) T.marks.sq (by assumption) ?_
    intro _ _ _ _
    cases md
    all_goals
      refine g_eachQ1 (by rfl) trivial ?_
      (purse 7012 => fail)
      refine g_din2 (z := "read") (v := w1) rfl rfl (by (purse 7003 => fail)) (by rfl) ?_
      (purse 7012 => fail)
      (purse 7015 => fail)
      (purse 7012 => fail)
      refine g_dg (v := w1) (by (purse 7003 => fail)) (by rfl) ?_
      refine ⟨w1, x, rfl, At.up (up_sh (by assumption)) a1, m10, m11, ?_⟩
      (purse 7023 => fail)
      refine g_eachQ1 (by rfl) trivial ?_
      (purse 7012 => fail)
      refine g_din2 (z := "written") (v := w2) rfl rfl (by (purse 7003 => fail)) (by rfl) ?_
      (purse 7012 => fail)
      (purse 7015 => fail)
      (purse 7012 => fail)
      refine g_dg (v := w2) (by (purse 7003 => fail)) (by rfl) ?_
      refine ⟨w2, y, rfl, At.up (up_sh (by assumption)) a2, m20, m21, ?_⟩
      (purse 7023 => fail)
      refine g_eachQ1 (by rfl) trivial ?_
      (purse 7012 => fail)
      refine g_din2 (z := "changed") (v := w3) rfl rfl (by (purse 7003 => fail)) (by rfl) ?_
      (purse 7012 => fail)
      (purse 7015 => fail)
      (purse 7012 => fail)
      refine g_dg (v := w3) (by (purse 7003 => fail)) (by rfl) ?_
      refine ⟨w3, z, rfl, At.up (up_sh (by assumption)) a3, m30, m31, ?_⟩
      (purse 7023 => fail)
      refine g_eachQ0 trivial ?_
      (purse 7012 => fail)
      refine g_all (bs := [true, true, true]) (SqL.of (by (purse 7003 => fail))) ?_
      exact k _ (Up.of (by (purse 7006 => fail)))
end
section
open He
variable {P : Program} {w : World} {K : PySem.W.Frag} {mg : Str → Option Value} {base : Heap} {f : Addr} {fd : FuncData}
theorem ok_seen19 (F : FnP K "seen_age" "seen_age" s_seen_age f fd) (T : TU19 K w mg) (D_check_book : Dn P w K mg base 2 (ga K "check_book") ["value"] (spCb (ga K "Book"))) (D_is_dict_of_marks : Dn P w K mg base 8 (ga K "is_dict_of_marks") ["value"] (spDom (ga K "Moment"))) (D_seconds_of : Dn P w K mg base 6 (ga K "seconds_of") ["value"] (KF.spSecs (ga K "Moment")))
    (R_looks : Rn P w K mg base 2 (ga K "Book") "looks" (spGet (ga K "Book") "looks")) (R_grain : Rn P w K mg base 2 (ga K "Book") "grain" (spGet (ga K "Book") "grain")) (R_day : Rn P w K mg base 2 (ga K "Book") "day" (spGet (ga K "Book") "day")) :
    FnOk P w K mg base (L2.CX P w) 12 f fd ["book", "marks", "at"] (spSeen19 (ga K "Book") (ga K "Moment")) := by
  refine F.ok c_seen_age (fun vs H Q E h => ?_) (fun cdv A outer s H vs Q E hr h => ⟨_, pss_cons (ps_expr (pe_dn D_check_book (rm hr) rfl T.g_check_book (passes_call (takes_of rfl rfl rfl rfl) fun _ _ _ _ h => h) (pa_cons (pv 0) (pa_nil))))
      (pss_cons (ps_if (pt_not (pt_val (pe_dn D_is_dict_of_marks (rm hr) rfl T.g_is_dict_of_marks (passes_call (takes_of rfl rfl rfl rfl) fun _ _ _ _ h => h) (pa_cons (pv 1) (pa_nil)))))
      (pss_one (ps_never))
      (pss_nil))
      (pss_cons (ps_set (i := 3) c_seen_age.nd rfl (Or.inl rfl) (pe_dn D_seconds_of (rm hr) rfl T.g_seconds_of (passes_call (takes_of rfl rfl rfl rfl) fun _ _ _ _ h => h) (pa_cons (pv 2) (pa_nil))))
      (pss_cons (ps_set (i := 4) c_seen_age.nd rfl (Or.inl rfl) (pe_callB (cl_maxL rfl) (by rfl) T.z_max (by decide +kernel) (pa_cons (pe_lc (own := [("mark", 5)]) (g := gName 5) (tt := tYes) rfl c_seen_age.nd (pi_tup ((pe_pr R_looks (rm hr) (pv 0)))) (blkOk_by (own := [("mark", 5)]) (N := ["book", "marks", "at", "moment", "latest", "mark"]) (sc := defScope s_seen_age) (by decide +kernel)) (fun _ _ _ _ _ => pg_name (i := 5) c_seen_age.nd rfl (Or.inl rfl)) (fun _ _ _ _ _ => pts_nil) (fun _ _ _ _ _ => pe_callTy cl_int (by rfl) T.z_int (by decide +kernel) (pa_cons (pe_dn D_seconds_of (rm hr) rfl T.g_seconds_of passL (pa_cons (pe_dget (hu_of hr) ((pv 1)) ((pv 5)) (fun _ _ => rfl)) (pa_nil))) (pa_nil)))) (pa_nil))))
      (pss_one (ps_ret (pe_op op_fdiv (pe_op op_sub (pv 3) (pe_op op_mul (pe_op op_fdiv (pv 4) (pe_pr R_grain (rm hr) (pv 0))) (pe_pr R_grain (rm hr) (pv 0)))) (pe_pr R_day (rm hr) (pv 0)))))))), ?_⟩)
  · obtain ⟨a, m, v, p, x, y, z, n, rfl, _⟩ := h
    rfl
  · obtain ⟨a, m, v, p, x, y, z, n, rfl, ⟨dx, d, hx, t, hd, ht⟩, op, hm, hv, ⟨n0, n1⟩, k⟩ := h
    (purse 7012 => fail)
    refine ⟨a, dx, _, rfl, hx, ?_⟩
    (purse 7012 => fail)
    refine ⟨m, x, y, z, rfl, hm, fun H1 u1 => ?_⟩
    (purse 7012 => fail)
    (purse 7016 => fail)
    (purse 7012 => fail)
    refine ⟨v, n, rfl, At.up u1 hv, n0, n1, ?_⟩
    (purse 7012 => fail)
    obtain ⟨w1, w2, w3, kvs, h, md, a1, a2, a3, ⟨m10, m11⟩, ⟨m20, m21⟩, ⟨m30, m31⟩⟩ := hm
    replace h := u1 _ _ h
    replace a1 := At.up u1 a1
    replace a2 := At.up u1 a2
    replace a3 := At.up u1 a3
    replace hx := u1 _ _ hx
    replace hd := u1 _ _ hd
    replace ht := u1 _ _ ht
    have S : Sh H1 (fun _ => False) H1 [(m, .dK kvs, false), (t, .tup (p.lk.map V.str), false)] := KF.know0 (KF.know0 Sh.start ht rfl) h rfl
    have g0 := op.g0
    have g1 := op.g1
    have d0 := op.d0
    have d1 := op.d1
    refine g_kprop hx ⟨a, dx, d, _, .ref t, rfl, hx, hd, rfl, ?_⟩
    refine g_lcT (fun H => H t = some (.tup (p.lk.map V.str))) (fun _ h => SqT.of h) (SqT.of (by (purse 7003 => fail))) (by assumption) ?_
    intro D _ _ _
    have hk : Lk x y z (p.lk.map V.str) (p.lk.map (mv x y z)) := lk_map op.l
    have v1 : valV kvs (.inr "read") = some w1 := by cases md <;> rfl
    have v2 : valV kvs (.inr "written") = some w2 := by cases md <;> rfl
    have v3 : valV kvs (.inr "changed") = some w3 := by cases md <;> rfl
    generalize els : p.lk.map V.str = ls at *
    generalize ens : p.lk.map (mv x y z) = ns at *
    have e0 : tops (mv x y z) p.lk / p.gr * p.gr = tops (mv x y z) p.lk - tops (mv x y z) p.lk % p.gr := by
      have e := Int.mul_ediv_add_emod (tops (mv x y z) p.lk) p.gr
      rw [Int.mul_comm] at e
      omega
    cases hk with
    | r =>
      refine g_eachQ1 (by rfl) (by (purse 7003 => fail)) ?_
      (purse 7012 => fail)
      refine g_dg (v := w1) (by (purse 7003 => fail)) (v1) ?_
      refine ⟨w1, x, rfl, At.up (up_sh (by assumption)) a1, m10, m11, ?_⟩
      (purse 7012 => fail)
      refine g_kel (by assumption) (by (purse 7005 => fail)) (by exact Nat.le_of_ble_eq_true rfl) ?_
      intro _ _
      refine g_eachQ0 (by (purse 7003 => fail)) ?_
      (purse 7012 => fail)
      refine g_maxL (ns := [x]) (SqL.of (by (purse 7003 => fail))) (by exact Nat.succ_pos _) ?_
      intro vm hv hall
      have ev := max_tops (f := mv x y z) (v := vm) (lk_ne op.l) (by rw [ens]; exact ⟨hv, hall⟩)
      rw [ev]
      rename_i SZ
      have u9 := up_sh SZ
      (purse 7012 => fail)
      refine g_kprop (u9 _ _ hx) ⟨a, dx, d, _, .int p.gr, rfl, u9 _ _ hx, u9 _ _ hd, rfl, ?_⟩
      show rI CDiv (fun i j => V.int (i / j)) (V.int _) (V.int p.gr) _ _
      (purse 7012 => fail)
      refine g_kprop (u9 _ _ hx) ⟨a, dx, d, _, .int p.gr, rfl, u9 _ _ hx, u9 _ _ hd, rfl, ?_⟩
      show rI CMul (fun i j => V.int (i * j)) (V.int _) (V.int p.gr) _ _
      (purse 7012 => fail)
      refine g_kprop (u9 _ _ hx) ⟨a, dx, d, _, .int p.day, rfl, u9 _ _ hx, u9 _ _ hd, rfl, ?_⟩
      rw [e0]
      show rI CDiv (fun i j => V.int (i / j)) (V.int _) (V.int p.day) _ _
      (purse 7012 => fail)
      exact k _ (u1.trans u9)
    | w =>
      refine g_eachQ1 (by rfl) (by (purse 7003 => fail)) ?_
      (purse 7012 => fail)
      refine g_dg (v := w2) (by (purse 7003 => fail)) (v2) ?_
      refine ⟨w2, y, rfl, At.up (up_sh (by assumption)) a2, m20, m21, ?_⟩
      (purse 7012 => fail)
      refine g_kel (by assumption) (by (purse 7005 => fail)) (by exact Nat.le_of_ble_eq_true rfl) ?_
      intro _ _
      refine g_eachQ0 (by (purse 7003 => fail)) ?_
      (purse 7012 => fail)
      refine g_maxL (ns := [y]) (SqL.of (by (purse 7003 => fail))) (by exact Nat.succ_pos _) ?_
      intro vm hv hall
      have ev := max_tops (f := mv x y z) (v := vm) (lk_ne op.l) (by rw [ens]; exact ⟨hv, hall⟩)
      rw [ev]
      rename_i SZ
      have u9 := up_sh SZ
      (purse 7012 => fail)
      refine g_kprop (u9 _ _ hx) ⟨a, dx, d, _, .int p.gr, rfl, u9 _ _ hx, u9 _ _ hd, rfl, ?_⟩
      show rI CDiv (fun i j => V.int (i / j)) (V.int _) (V.int p.gr) _ _
      (purse 7012 => fail)
      refine g_kprop (u9 _ _ hx) ⟨a, dx, d, _, .int p.gr, rfl, u9 _ _ hx, u9 _ _ hd, rfl, ?_⟩
      show rI CMul (fun i j => V.int (i * j)) (V.int _) (V.int p.gr) _ _
      (purse 7012 => fail)
      refine g_kprop (u9 _ _ hx) ⟨a, dx, d, _, .int p.day, rfl, u9 _ _ hx, u9 _ _ hd, rfl, ?_⟩
      rw [e0]
      show rI CDiv (fun i j => V.int (i / j)) (V.int _) (V.int p.day) _ _
      (purse 7012 => fail)
      exact k _ (u1.trans u9)
    | c =>
      refine g_eachQ1 (by rfl) (by (purse 7003 => fail)) ?_
      (purse 7012 => fail)
      refine g_dg (v := w3) (by (purse 7003 => fail)) (v3) ?_
      refine ⟨w3, z, rfl, At.up (up_sh (by assumption)) a3, m30, m31, ?_⟩
      (purse 7012 => fail)
      refine g_kel (by assumption) (by (purse 7005 => fail)) (by exact Nat.le_of_ble_eq_true rfl) ?_
      intro _ _
      refine g_eachQ0 (by (purse 7003 => fail)) ?_
      (purse 7012 => fail)
      refine g_maxL (ns := [z]) (SqL.of (by (purse 7003 => fail))) (by exact Nat.succ_pos _) ?_
      intro vm hv hall
      have ev := max_tops (f := mv x y z) (v := vm) (lk_ne op.l) (by rw [ens]; exact ⟨hv, hall⟩)
      rw [ev]
      rename_i SZ
      have u9 := up_sh SZ
      (purse 7012 => fail)
      refine g_kprop (u9 _ _ hx) ⟨a, dx, d, _, .int p.gr, rfl, u9 _ _ hx, u9 _ _ hd, rfl, ?_⟩
      show rI CDiv (fun i j => V.int (i / j)) (V.int _) (V.int p.gr) _ _
      (purse 7012 => fail)
      refine g_kprop (u9 _ _ hx) ⟨a, dx, d, _, .int p.gr, rfl, u9 _ _ hx, u9 _ _ hd, rfl, ?_⟩
      show rI CMul (fun i j => V.int (i * j)) (V.int _) (V.int p.gr) _ _
      (purse 7012 => fail)
      refine g_kprop (u9 _ _ hx) ⟨a, dx, d, _, .int p.day, rfl, u9 _ _ hx, u9 _ _ hd, rfl, ?_⟩
      rw [e0]
      show rI CDiv (fun i j => V.int (i / j)) (V.int _) (V.int p.day) _ _
      (purse 7012 => fail)
      exact k _ (u1.trans u9)
    | rw =>
      refine g_eachQ1 (by rfl) (by (purse 7003 => fail)) ?_
      (purse 7012 => fail)
      refine g_dg (v := w1) (by (purse 7003 => fail)) (v1) ?_
      refine ⟨w1, x, rfl, At.up (up_sh (by assumption)) a1, m10, m11, ?_⟩
      (purse 7012 => fail)
      refine g_kel (by assumption) (by (purse 7005 => fail)) (by exact Nat.le_of_ble_eq_true rfl) ?_
      intro _ _
      refine g_eachQ1 (by rfl) (by (purse 7003 => fail)) ?_
      (purse 7012 => fail)
      refine g_dg (v := w2) (by (purse 7003 => fail)) (v2) ?_
      refine ⟨w2, y, rfl, At.up (up_sh (by assumption)) a2, m20, m21, ?_⟩
      (purse 7012 => fail)
      refine g_kel (by assumption) (by (purse 7005 => fail)) (by exact Nat.le_of_ble_eq_true rfl) ?_
      intro _ _
      refine g_eachQ0 (by (purse 7003 => fail)) ?_
      (purse 7012 => fail)
      refine g_maxL (ns := [x, y]) (SqL.of (by (purse 7003 => fail))) (by exact Nat.succ_pos _) ?_
      intro vm hv hall
      have ev := max_tops (f := mv x y z) (v := vm) (lk_ne op.l) (by rw [ens]; exact ⟨hv, hall⟩)
      rw [ev]
      rename_i SZ
      have u9 := up_sh SZ
      (purse 7012 => fail)
      refine g_kprop (u9 _ _ hx) ⟨a, dx, d, _, .int p.gr, rfl, u9 _ _ hx, u9 _ _ hd, rfl, ?_⟩
      show rI CDiv (fun i j => V.int (i / j)) (V.int _) (V.int p.gr) _ _
      (purse 7012 => fail)
      refine g_kprop (u9 _ _ hx) ⟨a, dx, d, _, .int p.gr, rfl, u9 _ _ hx, u9 _ _ hd, rfl, ?_⟩
      show rI CMul (fun i j => V.int (i * j)) (V.int _) (V.int p.gr) _ _
      (purse 7012 => fail)
      refine g_kprop (u9 _ _ hx) ⟨a, dx, d, _, .int p.day, rfl, u9 _ _ hx, u9 _ _ hd, rfl, ?_⟩
      rw [e0]
      show rI CDiv (fun i j => V.int (i / j)) (V.int _) (V.int p.day) _ _
      (purse 7012 => fail)
      exact k _ (u1.trans u9)
    | wc =>
      refine g_eachQ1 (by rfl) (by (purse 7003 => fail)) ?_
      (purse 7012 => fail)
      refine g_dg (v := w2) (by (purse 7003 => fail)) (v2) ?_
      refine ⟨w2, y, rfl, At.up (up_sh (by assumption)) a2, m20, m21, ?_⟩
      (purse 7012 => fail)
      refine g_kel (by assumption) (by (purse 7005 => fail)) (by exact Nat.le_of_ble_eq_true rfl) ?_
      intro _ _
      refine g_eachQ1 (by rfl) (by (purse 7003 => fail)) ?_
      (purse 7012 => fail)
      refine g_dg (v := w3) (by (purse 7003 => fail)) (v3) ?_
      refine ⟨w3, z, rfl, At.up (up_sh (by assumption)) a3, m30, m31, ?_⟩
      (purse 7012 => fail)
      refine g_kel (by assumption) (by (purse 7005 => fail)) (by exact Nat.le_of_ble_eq_true rfl) ?_
      intro _ _
      refine g_eachQ0 (by (purse 7003 => fail)) ?_
      (purse 7012 => fail)
      refine g_maxL (ns := [y, z]) (SqL.of (by (purse 7003 => fail))) (by exact Nat.succ_pos _) ?_
      intro vm hv hall
      have ev := max_tops (f := mv x y z) (v := vm) (lk_ne op.l) (by rw [ens]; exact ⟨hv, hall⟩)
      rw [ev]
      rename_i SZ
      have u9 := up_sh SZ
      (purse 7012 => fail)
      refine g_kprop (u9 _ _ hx) ⟨a, dx, d, _, .int p.gr, rfl, u9 _ _ hx, u9 _ _ hd, rfl, ?_⟩
      show rI CDiv (fun i j => V.int (i / j)) (V.int _) (V.int p.gr) _ _
      (purse 7012 => fail)
      refine g_kprop (u9 _ _ hx) ⟨a, dx, d, _, .int p.gr, rfl, u9 _ _ hx, u9 _ _ hd, rfl, ?_⟩
      show rI CMul (fun i j => V.int (i * j)) (V.int _) (V.int p.gr) _ _
      (purse 7012 => fail)
      refine g_kprop (u9 _ _ hx) ⟨a, dx, d, _, .int p.day, rfl, u9 _ _ hx, u9 _ _ hd, rfl, ?_⟩
      rw [e0]
      show rI CDiv (fun i j => V.int (i / j)) (V.int _) (V.int p.day) _ _
      (purse 7012 => fail)
      exact k _ (u1.trans u9)
    | rc =>
      refine g_eachQ1 (by rfl) (by (purse 7003 => fail)) ?_
      (purse 7012 => fail)
      refine g_dg (v := w1) (by (purse 7003 => fail)) (v1) ?_
      refine ⟨w1, x, rfl, At.up (up_sh (by assumption)) a1, m10, m11, ?_⟩
      (purse 7012 => fail)
      refine g_kel (by assumption) (by (purse 7005 => fail)) (by exact Nat.le_of_ble_eq_true rfl) ?_
      intro _ _
      refine g_eachQ1 (by rfl) (by (purse 7003 => fail)) ?_
      (purse 7012 => fail)
      refine g_dg (v := w3) (by (purse 7003 => fail)) (v3) ?_
      refine ⟨w3, z, rfl, At.up (up_sh (by assumption)) a3, m30, m31, ?_⟩
      (purse 7012 => fail)
      refine g_kel (by assumption) (by (purse 7005 => fail)) (by exact Nat.le_of_ble_eq_true rfl) ?_
      intro _ _
      refine g_eachQ0 (by (purse 7003 => fail)) ?_
      (purse 7012 => fail)
      refine g_maxL (ns := [x, z]) (SqL.of (by (purse 7003 => fail))) (by exact Nat.succ_pos _) ?_
      intro vm hv hall
      have ev := max_tops (f := mv x y z) (v := vm) (lk_ne op.l) (by rw [ens]; exact ⟨hv, hall⟩)
      rw [ev]
      rename_i SZ
      have u9 := up_sh SZ
      (purse 7012 => fail)
      refine g_kprop (u9 _ _ hx) ⟨a, dx, d, _, .int p.gr, rfl, u9 _ _ hx, u9 _ _ hd, rfl, ?_⟩
      show rI CDiv (fun i j => V.int (i / j)) (V.int _) (V.int p.gr) _ _
      (purse 7012 => fail)
      refine g_kprop (u9 _ _ hx) ⟨a, dx, d, _, .int p.gr, rfl, u9 _ _ hx, u9 _ _ hd, rfl, ?_⟩
      show rI CMul (fun i j => V.int (i * j)) (V.int _) (V.int p.gr) _ _
      (purse 7012 => fail)
      refine g_kprop (u9 _ _ hx) ⟨a, dx, d, _, .int p.day, rfl, u9 _ _ hx, u9 _ _ hd, rfl, ?_⟩
      rw [e0]
      show rI CDiv (fun i j => V.int (i / j)) (V.int _) (V.int p.day) _ _
      (purse 7012 => fail)
      exact k _ (u1.trans u9)
    | rwc =>
      refine g_eachQ1 (by rfl) (by (purse 7003 => fail)) ?_
      (purse 7012 => fail)
      refine g_dg (v := w1) (by (purse 7003 => fail)) (v1) ?_
      refine ⟨w1, x, rfl, At.up (up_sh (by assumption)) a1, m10, m11, ?_⟩
      (purse 7012 => fail)
      refine g_kel (by assumption) (by (purse 7005 => fail)) (by exact Nat.le_of_ble_eq_true rfl) ?_
      intro _ _
      refine g_eachQ1 (by rfl) (by (purse 7003 => fail)) ?_
      (purse 7012 => fail)
      refine g_dg (v := w2) (by (purse 7003 => fail)) (v2) ?_
      refine ⟨w2, y, rfl, At.up (up_sh (by assumption)) a2, m20, m21, ?_⟩
      (purse 7012 => fail)
      refine g_kel (by assumption) (by (purse 7005 => fail)) (by exact Nat.le_of_ble_eq_true rfl) ?_
      intro _ _
      refine g_eachQ1 (by rfl) (by (purse 7003 => fail)) ?_
      (purse 7012 => fail)
      refine g_dg (v := w3) (by (purse 7003 => fail)) (v3) ?_
      refine ⟨w3, z, rfl, At.up (up_sh (by assumption)) a3, m30, m31, ?_⟩
      (purse 7012 => fail)
      refine g_kel (by assumption) (by (purse 7005 => fail)) (by exact Nat.le_of_ble_eq_true rfl) ?_
      intro _ _
      refine g_eachQ0 (by (purse 7003 => fail)) ?_
      (purse 7012 => fail)
      refine g_maxL (ns := [x, y, z]) (SqL.of (by (purse 7003 => fail))) (by exact Nat.succ_pos _) ?_
      intro vm hv hall
      have ev := max_tops (f := mv x y z) (v := vm) (lk_ne op.l) (by rw [ens]; exact ⟨hv, hall⟩)
      rw [ev]
      rename_i SZ
      have u9 := up_sh SZ
      (purse 7012 => fail)
      refine g_kprop (u9 _ _ hx) ⟨a, dx, d, _, .int p.gr, rfl, u9 _ _ hx, u9 _ _ hd, rfl, ?_⟩
      show rI CDiv (fun i j => V.int (i / j)) (V.int _) (V.int p.gr) _ _
      (purse 7012 => fail)
      refine g_kprop (u9 _ _ hx) ⟨a, dx, d, _, .int p.gr, rfl, u9 _ _ hx, u9 _ _ hd, rfl, ?_⟩
      show rI CMul (fun i j => V.int (i * j)) (V.int _) (V.int p.gr) _ _
      (purse 7012 => fail)
      refine g_kprop (u9 _ _ hx) ⟨a, dx, d, _, .int p.day, rfl, u9 _ _ hx, u9 _ _ hd, rfl, ?_⟩
      rw [e0]
      show rI CDiv (fun i j => V.int (i / j)) (V.int _) (V.int p.day) _ _
      (purse 7012 => fail)
      exact k _ (u1.trans u9)
end

end K1
namespace K1
open PySem PySem.Spec PyProof.Rows L2 AF LamX
open C8 (pe_gc)
local macro_rules | `(tactic| purse 7003 => fail) => `(tactic| k_dflt (refine Sh.has_ (by assumption) ?_; repeat (first | exact On.here | apply On.next)))
local macro_rules | `(tactic| purse 7004 => fail) => `(tactic| k_dflt (repeat (first | exact On.here | apply On.next)))
local macro_rules | `(tactic| purse 7005 => fail) => `(tactic| (repeat (first | exact Rep.here | apply Rep.next)))
local macro_rules | `(tactic| purse 7006 => fail) => `(tactic| (exact Sh.out (by assumption) (fun b h => by simp [h])))
local macro_rules | `(tactic| purse 7007 => fail) => `(tactic| k_dflt (first | ((with_reducible refine cdivw ?_ ?_) <;> omega) | ((with_reducible show CDiv _ _); constructor <;> omega) | ((with_reducible show CMul _ _); (first | (left; constructor <;> omega) | (right; constructor <;> omega))) | (show (0 : Int) < _; omega)))
local macro_rules | `(tactic| purse 7008 => fail) => `(tactic| first | exact Kd.int _ | exact Kd.bl _ | exact Kd.non | exact Kd.str _ | exact Kd.ins (by (purse 7003 => fail)) | exact Kd.lst (by (purse 7003 => fail)) | exact Kd.tup (by (purse 7003 => fail)))
local macro_rules | `(tactic| purse 7009 => fail) => `(tactic| first | exact DpAll.nil | (apply DpAll.cons; (purse 7010 => fail); (purse 7009 => fail)))
local macro_rules | `(tactic| purse 7010 => fail) => `(tactic| first | exact Dp.int _ | exact Dp.bl _ | exact Dp.non | exact Dp.str _ | (refine dp_int ?_; omega) | (refine dp_bl ?_; simp only [decide_eq_decide]; omega) | (apply dp_lst; (purse 7003 => fail); (purse 7009 => fail)) | (apply dp_tup; (purse 7003 => fail); (purse 7009 => fail)))
local macro_rules | `(tactic| purse 7011 => fail) => `(tactic| first | assumption | omega)
local macro_rules | `(tactic| purse 7001 => fail) => `(tactic| fail "no use")
local macro_rules | `(tactic| purse 7002 => fail) => `(tactic| first
  | (with_reducible refine set_go ?_)
  | (with_reducible refine Step.go ?_)
  | (with_reducible first | refine g_pow10_6 ?_ | refine g_pow10_7 ?_ | refine g_pow10_18 ?_ | refine g_pow10_29 ?_ | refine g_pow10_30 ?_)
  | ((with_reducible refine' g_I ?a0 ?_); (case a0 => (purse 7007 => fail)))
  | ((with_reducible refine' g_ixL ?a0 ?a1 ?_); (case a0 => (purse 7003 => fail)); (case a1 => k_dflt (exact rfl)))
  | ((with_reducible refine' g_kfld ?a0 ?a1 ?a2 ?a3 ?_); (case a0 => (purse 7003 => fail)); (case a1 => k_dflt (assumption)); (case a2 => k_dflt (assumption)); (case a3 => k_dflt (exact rfl)))
  | ((with_reducible refine' g_kprop ?a0 ?_); (case a0 => (purse 7003 => fail)))
  | ((with_reducible refine' g_kmeth ?a0 ?a1 ?_); (case a0 => (purse 7003 => fail)); (case a1 => k_dflt (exact rfl)))
  | ((with_reducible refine' g_own ?a0 ?a1 ?a2 ?_); (case a0 => (purse 7003 => fail)); (case a1 => (purse 7008 => fail)); (case a2 => k_dflt (assumption)))
  | ((with_reducible refine' g_cmp ?a0 ?a1 ?a2 ?_); (case a0 => (purse 7003 => fail)); (case a1 => (purse 7008 => fail)); (case a2 => k_dflt (assumption)))
  | ((with_reducible refine' g_neq ?a0 ?a1 ?a2 ?_); (case a0 => (purse 7003 => fail)); (case a1 => (purse 7008 => fail)); (case a2 => k_dflt (assumption)))
  | ((with_reducible refine' g_right ?a0 ?_); (case a0 => (purse 7003 => fail)))
  | ((with_reducible refine' use_draw ?a0 ?a1 ?a2 ?a3 ?a4 ?_); (case a0 => assumption); (case a1 => intro _ _; (purse 7005 => fail)); (case a2 => assumption); (case a3 => (purse 7011 => fail)); (case a4 => (purse 7011 => fail)); intro _ _ _ _ _ _ _ _)
  | ((with_reducible refine' use_giveI ?a0 ?a1 ?a2 ?_); (case a0 => assumption); (case a1 => intro _ _; (purse 7005 => fail)); (case a2 => assumption); intro _ _ _ _ _ _ _ _)
  | ((with_reducible refine' use_source ?a0 ?a1 ?_); (case a0 => assumption); (case a1 => k_dflt (assumption)); intro _ _ _ _ _ _)
  | (with_reducible refine g_absN ?_; intro _ _)
  | (with_reducible refine g_maxN ?_; intro _ _ _ _)
  | (with_reducible refine g_minN ?_; intro _ _ _ _)
  | ((with_reducible refine' g_kR1 ?a0 ?a1 ?_); (case a0 => omega); (case a1 => omega))
  | ((with_reducible refine' g_neD ?a0 ?a1 ?a2 ?_); (case a0 => (purse 7010 => fail)); (case a1 => (purse 7010 => fail)); (case a2 => k_dflt (rfl)))
  | ((with_reducible refine' g_eqD ?a0 ?a1 ?a2 ?_); (case a0 => (purse 7010 => fail)); (case a1 => (purse 7010 => fail)); (case a2 => k_dflt (rfl)))
  | ((with_reducible refine' g_klst ?a0 ?a1 ?_); (case a0 => assumption); (case a1 => k_dflt (exact rfl)); intro _ _ _ _)
  | ((with_reducible refine' g_ktup ?a0 ?a1 ?_); (case a0 => assumption); (case a1 => k_dflt (exact rfl)); intro _ _ _ _)
  | ((with_reducible refine' g_setL ?a0 ?a1 ?a2 ?_); (case a0 => assumption); (case a1 => (purse 7005 => fail)); (case a2 => k_dflt (exact rfl)); intro _ _)
  | ((with_reducible refine' g_unl3 ?a0 ?_); (case a0 => (purse 7003 => fail)))
  | (purse 7001 => fail))
local macro_rules | `(tactic| purse 7012 => fail) => `(tactic| ((try (with_reducible refine start_go ?_)); repeat (purse 7002 => fail)))
local macro_rules | `(tactic| purse 7013 => fail) => `(tactic| first | rfl | (refine decide_eq_true ?_; omega) | (simp only [Bool.not_eq_true', Bool.not_eq_false', decide_eq_false_iff_not, decide_eq_true_eq, Bool.not_not, decide_eq_decide]; done) | (simp only [Bool.not_eq_true', Bool.not_eq_false', decide_eq_false_iff_not, decide_eq_true_eq, Bool.not_not, decide_eq_decide]; omega))
local macro_rules | `(tactic| purse 7014 => fail) => `(tactic| first | rfl | (refine decide_eq_false ?_; omega) | (simp only [Bool.not_eq_true', Bool.not_eq_false', decide_eq_false_iff_not, decide_eq_true_eq, Bool.not_not, decide_eq_decide]; done) | (simp only [Bool.not_eq_true', Bool.not_eq_false', decide_eq_false_iff_not, decide_eq_true_eq, Bool.not_not, decide_eq_decide]; omega))
local macro_rules | `(tactic| purse 7015 => fail) => `(tactic| ((refine g_yes ?h ?_); (case h => (purse 7013 => fail))))
local macro_rules | `(tactic| purse 7016 => fail) => `(tactic| ((refine g_no ?h ?_); (case h => (purse 7014 => fail))))
local macro_rules | `(tactic| purse 7017 => fail) => `(tactic| first | (purse 7015 => fail) | (purse 7016 => fail))
local macro_rules | `(tactic| purse 7018 => fail) => `(tactic| repeat ((purse 7012 => fail); (purse 7017 => fail)))
local macro_rules | `(tactic| purse 7019 => fail) => `(tactic| repeat (first | exact intIn_nil | refine intIn_cons (by omega) (by omega) ?_))
local macro_rules | `(tactic| purse 7020 => fail) => `(tactic| (simp only [List.length_cons, List.length_nil]; omega))
local macro_rules | `(tactic| purse 7021 => fail) => `(tactic| (refine g_two (fun c => ?_) (fun c => ?_) <;> first | (have c := of_decide_eq_true c) | (have c := of_decide_eq_false c) | skip))
local macro_rules | `(tactic| purse 7022 => fail) => `(tactic| ((purse 7018 => fail); (purse 7012 => fail); try ((purse 7021 => fail) <;> (purse 7022 => fail))))

/-! a file held while a visitor looks at it -/
def UpN (x : Addr) (H H' : Hp) : Prop := ∀ b o, b ≠ x → H b = some o → (∀ ps, o ≠ HO.tbl ps) → H' b = some o
def spHinit (C : Addr) : Sp := fun vs H Q _ => ∃ (p dx a : Addr), vs = [.ref p, .ref a] ∧ H p = some (.ins C dx []) ∧ ∀ H', UpX p H H' → H' p = some (.ins C dx [("file", .ref a)]) → Q .non H'
def spHset (C F : Addr) (b : Bool) (ex : List V) : Sp := fun vs H Q _ => ∃ (p dx a da r d : Addr) (m : Int) (h : Bool), vs = .ref p :: ex ∧ H p = some (.ins C dx [("file", .ref a)]) ∧ H a = some (.ins F da (KF.fl r d m h)) ∧ ∀ H', UpX a H H' → H' a = some (.ins F da (KF.fl r d m b)) → Q .non H'
def TTw (F : Addr) : (Hp → Prop) → Addr → Sp → XK → Hp → VK → Prop := fun Pf a sp _ H Q => ∃ (da r d : Addr) (m : Int) (h : Bool), H a = some (.ins F da (KF.fl r d m h)) ∧ (∀ H', UpX a H H' → Pf H') ∧ ∀ (H2 : Hp) (Q' : VK), UpX a H H2 → H2 a = some (.ins F da (KF.fl r d m true)) →
  (∀ v H3, UpN a H2 H3 → H3 a = some (.ins F da (KF.fl r d m true)) → (∀ H4, UpX a H3 H4 → H4 a = some (.ins F da (KF.fl r d m false)) → Q v H4) → Q' v H3) → sp [.ref a] H2 Q' (fun _ _ _ => False)
section
open He
variable {P : Program} {w : World} {K : PySem.W.Frag} {mg : Str → Option Value} {base : Heap} {f : Addr} {fd : FuncData}
theorem ok_hinit (F : FnP K "__init__" "Hold.__init__" s_Hold___init__ f fd) (T : TU19 K w mg) : FnOk P w K mg base (L2.CX P w) 2 f fd ["self", "file"] (spHinit (ga K "Hold")) := by
  refine F.ok c_Hold___init__ (fun vs H Q E h => ?_) (fun cdv A outer s H vs Q E hr h => ⟨_, pss_one (ps_fld (pv 0) (pv 1) rfl), ?_⟩)
  · obtain ⟨p, dx, a, rfl, _⟩ := h
    rfl
  · obtain ⟨p, dx, a, rfl, hp, k⟩ := h
    (purse 7012 => fail)
    exact ⟨p, _, dx, _, rfl, hp, T.hcl, T.nhF, by decide, k _ UpX.set upd_same⟩
theorem ok_enter (F : FnP K "__enter__" "Hold.__enter__" s_Hold___enter__ f fd) (T : TU19 K w mg) : FnOk P w K mg base (L2.CX P w) 2 f fd ["self"] (spHset (ga K "Hold") (ga K "File") true []) := by
  refine F.ok c_Hold___enter__ (fun vs H Q E h => ?_) (fun cdv A outer s H vs Q E hr h => ⟨_, pss_one (ps_fld (pe_fld (pv 0) rfl) (pe_bl) rfl), ?_⟩)
  · obtain ⟨p, dx, a, da, r, d, m, h, rfl, _⟩ := h
    rfl
  · obtain ⟨p, dx, a, da, r, d, m, h, rfl, hp, ha, k⟩ := h
    (purse 7012 => fail)
    refine g_kfld (K := K) hp T.hcl T.nhF rfl ?_
    exact ⟨a, _, da, _, rfl, ha, T.fcl, T.nH, (by show 4 < 1000; decide), k _ UpX.set upd_same⟩
theorem ok_exit (F : FnP K "__exit__" "Hold.__exit__" s_Hold___exit__ f fd) (T : TU19 K w mg) : FnOk P w K mg base (L2.CX P w) 2 f fd ["self", "kind", "value", "trace"] (spHset (ga K "Hold") (ga K "File") false [.non, .non, .non]) := by
  refine F.ok c_Hold___exit__ (fun vs H Q E h => ?_) (fun cdv A outer s H vs Q E hr h => ⟨_, pss_one (ps_fld (pe_fld (pv 0) rfl) (pe_bl) rfl), ?_⟩)
  · obtain ⟨p, dx, a, da, r, d, m, h, rfl, _⟩ := h
    rfl
  · obtain ⟨p, dx, a, da, r, d, m, h, rfl, hp, ha, k⟩ := h
    (purse 7012 => fail)
    refine g_kfld (K := K) hp T.hcl T.nhF rfl ?_
    exact ⟨a, _, da, _, rfl, ha, T.fcl, T.nH, (by show 4 < 1000; decide), k _ UpX.set upd_same⟩
theorem act_within {X : Cx} {k : Nat} (hk : 3 ≤ k) (T : TU19 X.K X.w X.mg) (M_Hold : Mn X.prog X.w X.K X.mg X.base 2 (ga X.K "Hold") ["self", "file"] (spHinit (ga X.K "Hold"))) (D_enter : Dn X.prog X.w X.K X.mg X.base 2 (ma X.K (ga X.K "Hold") "__enter__") ["self"] (spHset (ga X.K "Hold") (ga X.K "File") true []))
    (D_exit : Dn X.prog X.w X.K X.mg X.base 2 (ma X.K (ga X.K "Hold") "__exit__") ["self", "kind", "value", "trace"] (spHset (ga X.K "Hold") (ga X.K "File") false [.non, .non, .non])) {g : Addr} :
    ActV X k ["self", "visitor"] "File.within" (defScope s_File_within) g (defBody s_File_within) (ga X.K "File") (TTw (ga X.K "File")) := by
  intro cdg a dx f fs s H Q Pf sp E hr V hp ha h
  refine ⟨_, pss_one (ps_with0 D_enter D_exit T.wc (hr.mono (by omega)) (passes_call (takes_of rfl rfl rfl rfl) fun _ _ _ _ h => h) (pe_mn M_Hold (hr.mono (by omega)) rfl T.g_Hold (passes_call (takes_of rfl rfl rfl rfl) fun _ _ _ _ h => h) (pa_cons (pv 0) pa_nil)) (pss_one (ps_ret (pe_vis (i := 1) V (hr.mono (by omega)) (passes_call LamX.takes0 fun _ _ _ _ h => h) rfl (.inl rfl) (pa_cons (pv 0) pa_nil))))), ?_⟩
  obtain ⟨da, r, d, m, b, ha, hP, hq⟩ := h
  (purse 7012 => fail)
  refine g_make ?_
  (purse 7012 => fail)
  intro x dy hx hdy hne
  have u1 : Up H (upd (upd H dy (.own x)) x (.ins (ga X.K "Hold") dy [])) := (Up.new hdy).trans (Up.new (by rw [upd_ne (fun z => hne z.symm)]; exact hx))
  refine ⟨x, dy, a, rfl, upd_same, fun H2 u2 h2 => ⟨rfl, ?_⟩⟩
  have nx : ∀ {c : Addr} {o : HO}, H c = some o → c ≠ x := fun e z => by rw [z, hx] at e; cases e
  have u02 : Up H H2 := fun c o e => u2 _ _ (nx e) (u1 _ _ e)
  have na := nx ha
  refine ⟨x, dy, _, rfl, h2, x, dy, a, da, r, d, m, b, rfl, h2, u02 _ _ ha, fun H3 u3 h3 => ?_⟩
  have w3 : UpX a H H3 := fun c o n e => u3 _ _ n (u02 _ _ e)
  refine ⟨rfl, hP _ w3, ?_⟩
  (purse 7012 => fail)
  refine ⟨hP _ w3, ?_⟩
  refine hq H3 _ w3 h3 fun v H4 u4 h4 k4 => ?_
  refine ⟨x, dy, a, da, r, d, m, true, rfl, u4 _ _ na.symm (u3 _ _ na.symm h2) (fun _ z => nomatch z), h4, fun H5 u5 h5 => ?_⟩
  exact k4 _ u5 h5
end

end K1
namespace K1
open PySem PySem.Spec PyProof.Rows L2 AF LamX
open C8 (pe_gc)
local macro_rules | `(tactic| purse 7003 => fail) => `(tactic| k_dflt (refine Sh.has_ (by assumption) ?_; repeat (first | exact On.here | apply On.next)))
local macro_rules | `(tactic| purse 7004 => fail) => `(tactic| k_dflt (repeat (first | exact On.here | apply On.next)))
local macro_rules | `(tactic| purse 7005 => fail) => `(tactic| (repeat (first | exact Rep.here | apply Rep.next)))
local macro_rules | `(tactic| purse 7006 => fail) => `(tactic| (exact Sh.out (by assumption) (fun b h => by simp [h])))
local macro_rules | `(tactic| purse 7007 => fail) => `(tactic| k_dflt (first | ((with_reducible refine cdivw ?_ ?_) <;> omega) | ((with_reducible show CDiv _ _); constructor <;> omega) | ((with_reducible show CMul _ _); (first | (left; constructor <;> omega) | (right; constructor <;> omega))) | (show (0 : Int) < _; omega)))
local macro_rules | `(tactic| purse 7008 => fail) => `(tactic| first | exact Kd.int _ | exact Kd.bl _ | exact Kd.non | exact Kd.str _ | exact Kd.ins (by (purse 7003 => fail)) | exact Kd.lst (by (purse 7003 => fail)) | exact Kd.tup (by (purse 7003 => fail)))
local macro_rules | `(tactic| purse 7009 => fail) => `(tactic| first | exact DpAll.nil | (apply DpAll.cons; (purse 7010 => fail); (purse 7009 => fail)))
local macro_rules | `(tactic| purse 7010 => fail) => `(tactic| first | exact Dp.int _ | exact Dp.bl _ | exact Dp.non | exact Dp.str _ | (refine dp_int ?_; omega) | (refine dp_bl ?_; simp only [decide_eq_decide]; omega) | (apply dp_lst; (purse 7003 => fail); (purse 7009 => fail)) | (apply dp_tup; (purse 7003 => fail); (purse 7009 => fail)))
local macro_rules | `(tactic| purse 7011 => fail) => `(tactic| first | assumption | omega)
local macro_rules | `(tactic| purse 7001 => fail) => `(tactic| fail "no use")
local macro_rules | `(tactic| purse 7002 => fail) => `(tactic| first
  | (with_reducible refine set_go ?_)
  | (with_reducible refine Step.go ?_)
  | (with_reducible first | refine g_pow10_6 ?_ | refine g_pow10_7 ?_ | refine g_pow10_18 ?_ | refine g_pow10_29 ?_ | refine g_pow10_30 ?_)
  | ((with_reducible refine' g_I ?a0 ?_); (case a0 => (purse 7007 => fail)))
  | ((with_reducible refine' g_ixL ?a0 ?a1 ?_); (case a0 => (purse 7003 => fail)); (case a1 => k_dflt (exact rfl)))
  | ((with_reducible refine' g_kfld ?a0 ?a1 ?a2 ?a3 ?_); (case a0 => (purse 7003 => fail)); (case a1 => k_dflt (assumption)); (case a2 => k_dflt (assumption)); (case a3 => k_dflt (exact rfl)))
  | ((with_reducible refine' g_kprop ?a0 ?_); (case a0 => (purse 7003 => fail)))
  | ((with_reducible refine' g_kmeth ?a0 ?a1 ?_); (case a0 => (purse 7003 => fail)); (case a1 => k_dflt (exact rfl)))
  | ((with_reducible refine' g_own ?a0 ?a1 ?a2 ?_); (case a0 => (purse 7003 => fail)); (case a1 => (purse 7008 => fail)); (case a2 => k_dflt (assumption)))
  | ((with_reducible refine' g_cmp ?a0 ?a1 ?a2 ?_); (case a0 => (purse 7003 => fail)); (case a1 => (purse 7008 => fail)); (case a2 => k_dflt (assumption)))
  | ((with_reducible refine' g_neq ?a0 ?a1 ?a2 ?_); (case a0 => (purse 7003 => fail)); (case a1 => (purse 7008 => fail)); (case a2 => k_dflt (assumption)))
  | ((with_reducible refine' g_right ?a0 ?_); (case a0 => (purse 7003 => fail)))
  | ((with_reducible refine' use_draw ?a0 ?a1 ?a2 ?a3 ?a4 ?_); (case a0 => assumption); (case a1 => intro _ _; (purse 7005 => fail)); (case a2 => assumption); (case a3 => (purse 7011 => fail)); (case a4 => (purse 7011 => fail)); intro _ _ _ _ _ _ _ _)
  | ((with_reducible refine' use_giveI ?a0 ?a1 ?a2 ?_); (case a0 => assumption); (case a1 => intro _ _; (purse 7005 => fail)); (case a2 => assumption); intro _ _ _ _ _ _ _ _)
  | ((with_reducible refine' use_source ?a0 ?a1 ?_); (case a0 => assumption); (case a1 => k_dflt (assumption)); intro _ _ _ _ _ _)
  | (with_reducible refine g_absN ?_; intro _ _)
  | (with_reducible refine g_maxN ?_; intro _ _ _ _)
  | (with_reducible refine g_minN ?_; intro _ _ _ _)
  | ((with_reducible refine' g_kR1 ?a0 ?a1 ?_); (case a0 => omega); (case a1 => omega))
  | ((with_reducible refine' g_neD ?a0 ?a1 ?a2 ?_); (case a0 => (purse 7010 => fail)); (case a1 => (purse 7010 => fail)); (case a2 => k_dflt (rfl)))
  | ((with_reducible refine' g_eqD ?a0 ?a1 ?a2 ?_); (case a0 => (purse 7010 => fail)); (case a1 => (purse 7010 => fail)); (case a2 => k_dflt (rfl)))
  | ((with_reducible refine' g_klst ?a0 ?a1 ?_); (case a0 => assumption); (case a1 => k_dflt (exact rfl)); intro _ _ _ _)
  | ((with_reducible refine' g_ktup ?a0 ?a1 ?_); (case a0 => assumption); (case a1 => k_dflt (exact rfl)); intro _ _ _ _)
  | ((with_reducible refine' g_setL ?a0 ?a1 ?a2 ?_); (case a0 => assumption); (case a1 => (purse 7005 => fail)); (case a2 => k_dflt (exact rfl)); intro _ _)
  | ((with_reducible refine' g_unl3 ?a0 ?_); (case a0 => (purse 7003 => fail)))
  | (purse 7001 => fail))
local macro_rules | `(tactic| purse 7012 => fail) => `(tactic| ((try (with_reducible refine start_go ?_)); repeat (purse 7002 => fail)))
local macro_rules | `(tactic| purse 7013 => fail) => `(tactic| first | rfl | (refine decide_eq_true ?_; omega) | (simp only [Bool.not_eq_true', Bool.not_eq_false', decide_eq_false_iff_not, decide_eq_true_eq, Bool.not_not, decide_eq_decide]; done) | (simp only [Bool.not_eq_true', Bool.not_eq_false', decide_eq_false_iff_not, decide_eq_true_eq, Bool.not_not, decide_eq_decide]; omega))
local macro_rules | `(tactic| purse 7014 => fail) => `(tactic| first | rfl | (refine decide_eq_false ?_; omega) | (simp only [Bool.not_eq_true', Bool.not_eq_false', decide_eq_false_iff_not, decide_eq_true_eq, Bool.not_not, decide_eq_decide]; done) | (simp only [Bool.not_eq_true', Bool.not_eq_false', decide_eq_false_iff_not, decide_eq_true_eq, Bool.not_not, decide_eq_decide]; omega))
local macro_rules | `(tactic| purse 7015 => fail) => `(tactic| ((refine g_yes ?h ?_); (case h => (purse 7013 => fail))))
local macro_rules | `(tactic| purse 7016 => fail) => `(tactic| ((refine g_no ?h ?_); (case h => (purse 7014 => fail))))
local macro_rules | `(tactic| purse 7017 => fail) => `(tactic| first | (purse 7015 => fail) | (purse 7016 => fail))
local macro_rules | `(tactic| purse 7018 => fail) => `(tactic| repeat ((purse 7012 => fail); (purse 7017 => fail)))
local macro_rules | `(tactic| purse 7019 => fail) => `(tactic| repeat (first | exact intIn_nil | refine intIn_cons (by omega) (by omega) ?_))
local macro_rules | `(tactic| purse 7020 => fail) => `(tactic| (simp only [List.length_cons, List.length_nil]; omega))
local macro_rules | `(tactic| purse 7021 => fail) => `(tactic| (refine g_two (fun c => ?_) (fun c => ?_) <;> first | (have c := of_decide_eq_true c) | (have c := of_decide_eq_false c) | skip))
local macro_rules | `(tactic| purse 7022 => fail) => `(tactic| ((purse 7018 => fail); (purse 7012 => fail); try ((purse 7021 => fail) <;> (purse 7022 => fail))))

/-! the law's file, and the file held -/
section
open KF
variable {H0 H H' : Hp} {M : Addr → Prop} {l l' l1 : List Ent} {l2 : Int → Int → Int → List Ent} {R C MC a dx b dy r dr d e t rw : Addr} {k : RK} {xs : List V} {kvs : List (Key × V)} {m n x y z ri : Int} {w : Str} {v : V} {h : Bool} {Q : VK} {E : XK}
theorem use_do (S : Sh H0 M H l) (ra : Rep l a (.ins C dx (fl r d m false)) (.ins C dx (fl r d n false)) l1) (or : On l r (.ins R dr k.fs)) (ot : On l t (.tup xs)) (od : On l d (.dK (KF.mk3 x y z))) (hb : Bk xs kvs) (av : AtL MC l v n) (hm : m < n) (hn : Mo30 n)
    (rd : ∀ x' y' z', Rep l1 d (.dK (KF.mk3 x y z)) (.dK (KF.mk3 x' y' z')) (l2 x' y' z')) (q : ∀ p ps x' y' z' H', Af k x y z n xs ps x' y' z' → Sh H0 M H' ((p, .lst ps, true) :: l2 x' y' z') → Q (.ref p) H') : spDo R C MC [.ref a, .ref t, v] H Q E := by
  refine ⟨a, dx, r, dr, d, t, k, xs, kvs, v, m, n, x, y, z, false, rfl, av.at_ S, S.has _ ra.mem, S.has_ or, S.has_ od, S.has_ ot, hb, hn, hm, fun p ps x' y' z' H' hp c ha hd hl af => ?_⟩
  have e0 : heldBy xs false = false := by unfold heldBy; split <;> rfl
  rw [e0] at ha
  exact q p ps x' y' z' H' af (S.ch2n ra (rd x' y' z') c ha hd hp hl)
end
def spLFile (R F : Addr) : Sp := fun vs H Q _ => ∃ (sr q dq : Addr) (k : KF.RK) (n s : Int), vs = [.ref sr, .ref q, .int 100] ∧ H sr = some (.lst [.int n, .int s]) ∧ Sd n s ∧ H q = some (.ins R dq k.fs) ∧
  ∀ L a da d at' x y z n' s' H', UpX sr H H' → H' sr = some (.lst [.int n', .int s']) → Sd n' s' → H' L = some (.lst [.ref a, .int at']) → H' a = some (.ins F da (KF.fl q d at' false)) → H' d = some (.dK (KF.mk3 x y z)) → (-1000 ≤ at' ∧ at' ≤ 1000 ∧ -1000 ≤ x ∧ x ≤ 1000 ∧ -1000 ≤ y ∧ y ≤ 1000 ∧ -1000 ≤ z ∧ z ≤ 1000) → Q (.ref L) H'
local macro_rules | `(tactic| purse 7023 => fail) => `(tactic| (repeat (first | exact List.Sublist.refl _ | exact List.nil_sublist _ | apply List.Sublist.cons_cons | apply List.Sublist.cons)))
section
open He
variable {P : Program} {w : World} {K : PySem.W.Frag} {mg : Str → Option Value} {base : Heap} {f : Addr} {fd : FuncData}
theorem ok_lfile (F : FnP K "_law_file" "_law_file" s_law_file f fd) (T : TU19 K w mg) (D_law_draw : Dn P w K mg base 2 (ga K "_law_draw") ["source", "amount"] spDraw) (D_law_pick : Dn P w K mg base 4 (ga K "_law_pick") ["source", "items"] spPick) (M_File : Mn P w K mg base 10 (ga K "File") ["self", "rule", "deed", "at"] (KF.spFInit (ga K "Rule") (ga K "File") (ga K "Moment")))
    (H_do : Hn P w K mg base 12 (ga K "File") "do" (KF.spDo (ga K "Rule") (ga K "File") (ga K "Moment"))) : FnOk P w K mg base (L2.CX P w) 14 f fd ["source", "rule", "far"] (spLFile (ga K "Rule") (ga K "File")) := by
  refine F.ok c_law_file (fun vs H Q E h => ?_) (fun cdv A outer s H vs Q E hr h => ⟨_, pss_cons (ps_set (i := 3) c_law_file.nd rfl (Or.inl rfl) (pe_op op_sub (pe_dn D_law_draw (rm hr) rfl T.g_law_draw (passes_call (takes_of rfl rfl rfl rfl) fun _ _ _ _ h => h) (pa_cons (pv 0) (pa_cons (pv 2) (pa_nil)))) (pe_op op_fdiv (pv 2) (pe_int))))
      (pss_cons (ps_set (i := 4) c_law_file.nd rfl (Or.inl rfl) (pe_mn M_File (rm hr) rfl T.g_File (passes_call (takes_of rfl rfl rfl rfl) fun _ _ _ _ h => h) (pa_cons (pv 1) (pa_cons (pe_dn D_law_pick (rm hr) rfl T.g_law_pick (passes_call (takes_of rfl rfl rfl rfl) fun _ _ _ _ h => h) (pa_cons (pv 0) (pa_cons (pe_lst (pa_cons (pe_tup (pa_cons (pe_str) (pa_nil))) (pa_cons (pe_tup (pa_cons (pe_str) (pa_cons (pe_op op_add (pe_int) (pe_dn D_law_draw (rm hr) rfl T.g_law_draw (passes_call (takes_of rfl rfl rfl rfl) fun _ _ _ _ h => h) (pa_cons (pv 0) (pa_cons (pe_int) (pa_nil))))) (pa_nil)))) (pa_nil)))) (pa_nil)))) (pa_cons (pv 3) (pa_nil))))))
      (pss_cons (ps_set (i := 5) c_law_file.nd rfl (Or.inl rfl) (pv 3))
      (pss_cons (ps_for (passes_of rfl) rfl (pi_range1 rfl T.z_range (pa_cons (pe_dn D_law_draw (rm hr) rfl T.g_law_draw (passes_call (takes_of rfl rfl rfl rfl) fun _ _ _ _ h => h) (pa_cons (pv 0) (pa_cons (pe_int) (pa_nil)))) (pa_nil))) (pg_name (i := 6) c_law_file.nd rfl (Or.inl rfl))
      (pss_cons (ps_set (i := 5) c_law_file.nd rfl (Or.inl rfl) (pe_op op_add (pe_op op_add (pv 5) (pe_int)) (pe_dn D_law_draw (rm hr) rfl T.g_law_draw (passes_call (takes_of rfl rfl rfl rfl) fun _ _ _ _ h => h) (pa_cons (pv 0) (pa_cons (pe_int) (pa_nil))))))
      (pss_one (ps_expr (pe_dm H_do (rm hr) (passes_call (takes_of rfl rfl rfl rfl) fun _ _ _ _ h => h) (pv 4) (pa_cons (pe_dn D_law_pick (rm hr) rfl T.g_law_pick (passes_call (takes_of rfl rfl rfl rfl) fun _ _ _ _ h => h) (pa_cons (pv 0) (pa_cons (pe_lst (pa_cons (pe_tup (pa_cons (pe_str) (pa_nil))) (pa_cons (pe_tup (pa_cons (pe_str) (pa_nil))) (pa_cons (pe_tup (pa_cons (pe_str) (pa_nil))) (pa_cons (pe_tup (pa_cons (pe_str) (pa_cons (pe_op op_add (pe_int) (pe_dn D_law_draw (rm hr) rfl T.g_law_draw (passes_call (takes_of rfl rfl rfl rfl) fun _ _ _ _ h => h) (pa_cons (pv 0) (pa_cons (pe_int) (pa_nil))))) (pa_nil)))) (pa_nil)))))) (pa_nil)))) (pa_cons (pv 5) (pa_nil))))))))
      (pss_one (ps_ret (pe_lst (pa_cons (pv 4) (pa_cons (pv 5) (pa_nil))))))))), ?_⟩)
  · obtain ⟨sr, q, dq, k, n, s, rfl, _⟩ := h
    rfl
  · obtain ⟨sr, q, dq, k0, n, s, rfl, hs, sd, hq, k⟩ := h
    have S0 : Sh H (fun b => b = sr) H [(sr, .lst [.int n, .int s], true)] := Sh.start.take hs rfl (fun _ h => nomatch h)
    have nq : q ≠ sr := fun z => by rw [z, hs] at hq; cases hq
    have S1 : Sh H (fun b => b = sr) H [(q, .ins (ga K "Rule") dq k0.fs, false), (sr, .lst [.int n, .int s], true)] := S0.know hq (fun e he _ => by
      simp only [List.mem_cons, List.not_mem_nil, or_false] at he
      subst he
      exact nq)
    clear S0
    (purse 7012 => fail)
    refine use_pick (by assumption) (fun _ _ => by (purse 7005 => fail)) (by assumption) (by (purse 7004 => fail)) (by exact Nat.le_of_ble_eq_true rfl) (by exact Nat.le_of_ble_eq_true rfl) (KF.ne_of_obj (Sh.has_ (by assumption) (by (purse 7004 => fail))) (Sh.has_ (by assumption) (by (purse 7004 => fail))) (by simp)) ?_
    intro v n3 s3 H3 hv sd3 S3
    rename_i d1 _ _ _ c1 c2 _ _ _ _ _ _ d2 _ _ _ c3 c4 _ _ _ _ _ _ _ _ _ _
    have key : ∃ (t : Addr) (xs : List V) (x y z : Int), v = .ref t ∧ KF.Mk3 (d1 - 50) xs x y z ∧ (-200 ≤ x ∧ x ≤ 200 ∧ -200 ≤ y ∧ y ≤ 200 ∧ -200 ≤ z ∧ z ≤ 200) ∧ Sh H (fun b => b = sr) H3 [(t, .tup xs, true), (q, .ins (ga K "Rule") dq k0.fs, false), (sr, .lst [.int n3, .int s3], true)] := by
      simp only [List.mem_cons, List.not_mem_nil, or_false] at hv
      rcases hv with rfl | rfl
      · exact ⟨_, _, _, _, _, rfl, .make, ⟨by omega, by omega, by omega, by omega, by omega, by omega⟩, Sh.cut S3 (by (purse 7023 => fail))⟩
      · exact ⟨_, _, _, _, _, rfl, .unpack (b := 1 + d2) (by omega) (by omega), ⟨by omega, by omega, by omega, by omega, by omega, by omega⟩, Sh.cut S3 (by (purse 7023 => fail))⟩
    obtain ⟨t, xs, x, y, z, rfl, hmk, hbd, S4⟩ := key
    clear S3 hv S1
    rw [show d1 - 100 / 2 = d1 - 50 by omega]
    generalize hst : d1 - 50 = st at hmk ⊢
    (purse 7012 => fail)
    refine KF.g_mkfile (MC := ga K "Moment") S4 (.int st) (by (purse 7004 => fail)) (by (purse 7004 => fail)) hmk ⟨by omega, by omega⟩ fun fa dfa nd H5 S5 => ?_
    have S6 := Sh.cut (l' := [(nd, .dK (KF.mk3 x y z), true), (fa, .ins (ga K "File") dfa (KF.fl q nd st false), true), (q, .ins (ga K "Rule") dq k0.fs, false), (sr, .lst [.int n3, .int s3], true)]) S5 (by (purse 7023 => fail))
    clear S5 S4
    (purse 7012 => fail)
    rename_i c _ _ H6 c5 c6 sd6 S7
    clear S6
    refine g_loop (fun i σ H' => ∃ (x y z a n s : Int) (o : Option V), σ = [some (V.ref sr), some (V.ref q), some (V.int 100), some (V.int st), some (V.ref fa), some (V.int a), o] ∧ (-50 ≤ a ∧ a ≤ 50 + 12 * (i : Int) ∧ -200 ≤ x ∧ x ≤ 200 ∧ -200 ≤ y ∧ y ≤ 200 ∧ -200 ≤ z ∧ z ≤ 200) ∧ Sd n s ∧ Sh H (fun b => b = sr) H' [(nd, .dK (KF.mk3 x y z), true), (fa, .ins (ga K "File") dfa (KF.fl q nd a false), true), (q, .ins (ga K "Rule") dq k0.fs, false), (sr, .lst [.int n, .int s], true)])
      ⟨x, y, z, st, _, _, _, rfl, ⟨by omega, by omega, hbd.1, hbd.2.1, hbd.2.2.1, hbd.2.2.2.1, hbd.2.2.2.2.1, hbd.2.2.2.2.2⟩, sd6, S7⟩ ?_ ?_
    case refine_2 =>
      rintro σ H' ⟨x', y', z', a', n', s', o, rfl, ⟨b1, b2, b3, b4, b5, b6, b7, b8⟩, sd', S'⟩
      (purse 7012 => fail)
      rename_i SL
      exact k _ fa dfa nd a' x' y' z' n' s' _ (fun b o n h => SL.fr b o h n) (SL.has_ (by (purse 7004 => fail))) sd' (SL.has_ (by (purse 7004 => fail))) (SL.has_ (by (purse 7004 => fail))) (SL.has_ (by (purse 7004 => fail))) ⟨by omega, by omega, by omega, by omega, by omega, by omega, by omega, by omega⟩
    clear S7
    rintro i σ H' hi ⟨x', y', z', a', n', s', o, rfl, ⟨b1, b2, b3, b4, b5, b6, b7, b8⟩, sd', S'⟩
    (purse 7012 => fail)
    refine use_pick (by assumption) (fun _ _ => by (purse 7005 => fail)) (by assumption) (by (purse 7004 => fail)) (by exact Nat.le_of_ble_eq_true rfl) (by exact Nat.le_of_ble_eq_true rfl) (KF.ne_of_obj (Sh.has_ (by assumption) (by (purse 7004 => fail))) (Sh.has_ (by assumption) (by (purse 7004 => fail))) (by simp)) ?_
    intro v n8 s8 H8 hv sd8 S8
    rename_i d1 _ _ _ c1 c2 _ _ _ _ _ _ _ _ _ _ _ _ _ _ d2 _ _ _ c3 c4 _ _ _ _ _ _ _ _ _ _
    have key : ∃ (t : Addr) (xs : List V) (kvs : List (Key × V)), v = .ref t ∧ KF.Bk xs kvs ∧ (∀ x y z n x1 y1 z1 ps, KF.Af k0 x y z n xs ps x1 y1 z1 → (x1 = x ∨ (n - 30 ≤ x1 ∧ x1 ≤ n)) ∧ (y1 = y ∨ (n - 30 ≤ y1 ∧ y1 ≤ n)) ∧ (z1 = z ∨ (n - 30 ≤ z1 ∧ z1 ≤ n))) ∧
        Sh H (fun b => b = sr) H8 [(t, .tup xs, true), (nd, .dK (KF.mk3 x' y' z'), true), (fa, .ins (ga K "File") dfa (KF.fl q nd a' false), true), (q, .ins (ga K "Rule") dq k0.fs, false), (sr, .lst [.int n8, .int s8], true)] := by
      simp only [List.mem_cons, List.not_mem_nil, or_false] at hv
      rcases hv with rfl | rfl | rfl | rfl
      · exact ⟨_, _, _, rfl, .read, fun _ _ _ _ _ _ _ _ h => by cases h <;> omega, Sh.cut S8 (by (purse 7023 => fail))⟩
      · exact ⟨_, _, _, rfl, .write, fun _ _ _ _ _ _ _ _ h => by cases h <;> omega, Sh.cut S8 (by (purse 7023 => fail))⟩
      · exact ⟨_, _, _, rfl, .rename, fun _ _ _ _ _ _ _ _ h => by cases h <;> omega, Sh.cut S8 (by (purse 7023 => fail))⟩
      · exact ⟨_, _, _, rfl, .setback (b := 1 + d2) (by omega) (by omega), fun _ _ _ _ _ _ _ _ h => by cases h <;> omega, Sh.cut S8 (by (purse 7023 => fail))⟩
    obtain ⟨t2, xs2, kvs2, rfl, hbk, hnr, S9⟩ := key
    clear S8 hv S'
    (purse 7012 => fail)
    refine use_do (MC := ga K "Moment") S9 (by (purse 7005 => fail)) (by (purse 7004 => fail)) (by (purse 7004 => fail)) (by (purse 7004 => fail)) hbk (.int _) (by omega) ⟨by omega, by omega⟩ (fun _ _ _ => by (purse 7005 => fail)) ?_
    intro p9 ps9 x1 y1 z1 H9 af SA
    obtain ⟨e1, e2, e3⟩ := hnr _ _ _ _ _ _ _ _ af
    (purse 7012 => fail)
    refine ⟨x1, y1, z1, _, n8, s8, _, rfl, ⟨by omega, by omega, by omega, by omega, by omega, by omega, by omega, by omega⟩, sd8, Sh.cut SA (by (purse 7023 => fail))⟩
end

end K1
namespace K1
open PySem PySem.Spec PyProof.Rows L2 AF LamX
open C8 (pe_gc)
local macro_rules | `(tactic| purse 7003 => fail) => `(tactic| k_dflt (refine Sh.has_ (by assumption) ?_; repeat (first | exact On.here | apply On.next)))
local macro_rules | `(tactic| purse 7004 => fail) => `(tactic| k_dflt (repeat (first | exact On.here | apply On.next)))
local macro_rules | `(tactic| purse 7005 => fail) => `(tactic| (repeat (first | exact Rep.here | apply Rep.next)))
local macro_rules | `(tactic| purse 7006 => fail) => `(tactic| (exact Sh.out (by assumption) (fun b h => by simp [h])))
local macro_rules | `(tactic| purse 7007 => fail) => `(tactic| k_dflt (first | ((with_reducible refine cdivw ?_ ?_) <;> omega) | ((with_reducible show CDiv _ _); constructor <;> omega) | ((with_reducible show CMul _ _); (first | (left; constructor <;> omega) | (right; constructor <;> omega))) | (show (0 : Int) < _; omega)))
local macro_rules | `(tactic| purse 7008 => fail) => `(tactic| first | exact Kd.int _ | exact Kd.bl _ | exact Kd.non | exact Kd.str _ | exact Kd.ins (by (purse 7003 => fail)) | exact Kd.lst (by (purse 7003 => fail)) | exact Kd.tup (by (purse 7003 => fail)))
local macro_rules | `(tactic| purse 7009 => fail) => `(tactic| first | exact DpAll.nil | (apply DpAll.cons; (purse 7010 => fail); (purse 7009 => fail)))
local macro_rules | `(tactic| purse 7010 => fail) => `(tactic| first | exact Dp.int _ | exact Dp.bl _ | exact Dp.non | exact Dp.str _ | (refine dp_int ?_; omega) | (refine dp_bl ?_; simp only [decide_eq_decide]; omega) | (apply dp_lst; (purse 7003 => fail); (purse 7009 => fail)) | (apply dp_tup; (purse 7003 => fail); (purse 7009 => fail)))
local macro_rules | `(tactic| purse 7011 => fail) => `(tactic| first | assumption | omega)
local macro_rules | `(tactic| purse 7001 => fail) => `(tactic| fail "no use")
local macro_rules | `(tactic| purse 7002 => fail) => `(tactic| first
  | (with_reducible refine set_go ?_)
  | (with_reducible refine Step.go ?_)
  | (with_reducible first | refine g_pow10_6 ?_ | refine g_pow10_7 ?_ | refine g_pow10_18 ?_ | refine g_pow10_29 ?_ | refine g_pow10_30 ?_)
  | ((with_reducible refine' g_I ?a0 ?_); (case a0 => (purse 7007 => fail)))
  | ((with_reducible refine' g_ixL ?a0 ?a1 ?_); (case a0 => (purse 7003 => fail)); (case a1 => k_dflt (exact rfl)))
  | ((with_reducible refine' g_kfld ?a0 ?a1 ?a2 ?a3 ?_); (case a0 => (purse 7003 => fail)); (case a1 => k_dflt (assumption)); (case a2 => k_dflt (assumption)); (case a3 => k_dflt (exact rfl)))
  | ((with_reducible refine' g_kprop ?a0 ?_); (case a0 => (purse 7003 => fail)))
  | ((with_reducible refine' g_kmeth ?a0 ?a1 ?_); (case a0 => (purse 7003 => fail)); (case a1 => k_dflt (exact rfl)))
  | ((with_reducible refine' g_own ?a0 ?a1 ?a2 ?_); (case a0 => (purse 7003 => fail)); (case a1 => (purse 7008 => fail)); (case a2 => k_dflt (assumption)))
  | ((with_reducible refine' g_cmp ?a0 ?a1 ?a2 ?_); (case a0 => (purse 7003 => fail)); (case a1 => (purse 7008 => fail)); (case a2 => k_dflt (assumption)))
  | ((with_reducible refine' g_neq ?a0 ?a1 ?a2 ?_); (case a0 => (purse 7003 => fail)); (case a1 => (purse 7008 => fail)); (case a2 => k_dflt (assumption)))
  | ((with_reducible refine' g_right ?a0 ?_); (case a0 => (purse 7003 => fail)))
  | ((with_reducible refine' use_draw ?a0 ?a1 ?a2 ?a3 ?a4 ?_); (case a0 => assumption); (case a1 => intro _ _; (purse 7005 => fail)); (case a2 => assumption); (case a3 => (purse 7011 => fail)); (case a4 => (purse 7011 => fail)); intro _ _ _ _ _ _ _ _)
  | ((with_reducible refine' use_giveI ?a0 ?a1 ?a2 ?_); (case a0 => assumption); (case a1 => intro _ _; (purse 7005 => fail)); (case a2 => assumption); intro _ _ _ _ _ _ _ _)
  | ((with_reducible refine' use_source ?a0 ?a1 ?_); (case a0 => assumption); (case a1 => k_dflt (assumption)); intro _ _ _ _ _ _)
  | (with_reducible refine g_absN ?_; intro _ _)
  | (with_reducible refine g_maxN ?_; intro _ _ _ _)
  | (with_reducible refine g_minN ?_; intro _ _ _ _)
  | ((with_reducible refine' g_kR1 ?a0 ?a1 ?_); (case a0 => omega); (case a1 => omega))
  | ((with_reducible refine' g_neD ?a0 ?a1 ?a2 ?_); (case a0 => (purse 7010 => fail)); (case a1 => (purse 7010 => fail)); (case a2 => k_dflt (rfl)))
  | ((with_reducible refine' g_eqD ?a0 ?a1 ?a2 ?_); (case a0 => (purse 7010 => fail)); (case a1 => (purse 7010 => fail)); (case a2 => k_dflt (rfl)))
  | ((with_reducible refine' g_klst ?a0 ?a1 ?_); (case a0 => assumption); (case a1 => k_dflt (exact rfl)); intro _ _ _ _)
  | ((with_reducible refine' g_ktup ?a0 ?a1 ?_); (case a0 => assumption); (case a1 => k_dflt (exact rfl)); intro _ _ _ _)
  | ((with_reducible refine' g_setL ?a0 ?a1 ?a2 ?_); (case a0 => assumption); (case a1 => (purse 7005 => fail)); (case a2 => k_dflt (exact rfl)); intro _ _)
  | ((with_reducible refine' g_unl3 ?a0 ?_); (case a0 => (purse 7003 => fail)))
  | (purse 7001 => fail))
local macro_rules | `(tactic| purse 7012 => fail) => `(tactic| ((try (with_reducible refine start_go ?_)); repeat (purse 7002 => fail)))
local macro_rules | `(tactic| purse 7013 => fail) => `(tactic| first | rfl | (refine decide_eq_true ?_; omega) | (simp only [Bool.not_eq_true', Bool.not_eq_false', decide_eq_false_iff_not, decide_eq_true_eq, Bool.not_not, decide_eq_decide]; done) | (simp only [Bool.not_eq_true', Bool.not_eq_false', decide_eq_false_iff_not, decide_eq_true_eq, Bool.not_not, decide_eq_decide]; omega))
local macro_rules | `(tactic| purse 7014 => fail) => `(tactic| first | rfl | (refine decide_eq_false ?_; omega) | (simp only [Bool.not_eq_true', Bool.not_eq_false', decide_eq_false_iff_not, decide_eq_true_eq, Bool.not_not, decide_eq_decide]; done) | (simp only [Bool.not_eq_true', Bool.not_eq_false', decide_eq_false_iff_not, decide_eq_true_eq, Bool.not_not, decide_eq_decide]; omega))
local macro_rules | `(tactic| purse 7015 => fail) => `(tactic| ((refine g_yes ?h ?_); (case h => (purse 7013 => fail))))
local macro_rules | `(tactic| purse 7016 => fail) => `(tactic| ((refine g_no ?h ?_); (case h => (purse 7014 => fail))))
local macro_rules | `(tactic| purse 7017 => fail) => `(tactic| first | (purse 7015 => fail) | (purse 7016 => fail))
local macro_rules | `(tactic| purse 7018 => fail) => `(tactic| repeat ((purse 7012 => fail); (purse 7017 => fail)))
local macro_rules | `(tactic| purse 7019 => fail) => `(tactic| repeat (first | exact intIn_nil | refine intIn_cons (by omega) (by omega) ?_))
local macro_rules | `(tactic| purse 7020 => fail) => `(tactic| (simp only [List.length_cons, List.length_nil]; omega))
local macro_rules | `(tactic| purse 7021 => fail) => `(tactic| (refine g_two (fun c => ?_) (fun c => ?_) <;> first | (have c := of_decide_eq_true c) | (have c := of_decide_eq_false c) | skip))
local macro_rules | `(tactic| purse 7022 => fail) => `(tactic| ((purse 7018 => fail); (purse 7012 => fail); try ((purse 7021 => fail) <;> (purse 7022 => fail))))

/-! the file held while the book looks at it *-/
theorem codeO_ins {c C dx : Addr} {q : Str} {fs : List (Str × V)} : CodeO c q ≠ .ins C dx fs := fun z => by
  unfold CodeO at z; cases z
theorem lamO_ins {q : Str} {cells : List (Str × Addr)} {params : Arguments} {body : Expr} {scope : Scope} {c' f C dx : Addr} {fs : List (Str × V)} : LamO q cells params body scope c' f ≠ .ins C dx fs := fun z => by
  unfold LamO at z; cases z
def spLHeld (K : PySem.W.Frag) (xs : List Str) (C F : Addr) : Sp := fun vs H Q _ => ∃ (a x da r d : Addr) (p : Bp) (m n c1 c2 c3 : Int), vs = [.ref a, .ref x, .int n] ∧ Tabs (lamT K xs) H ∧ Bs0 C H x p ∧ p.Ok ∧ H a = some (.ins F da (KF.fl r d m false)) ∧ H d = some (.dK (KF.mk3 c1 c2 c3)) ∧ Mo n ∧
  ∀ H', ExtN H H' → Tabs (lamT K xs) H' → Q (.bl (del p c1 c2 c3 true n)) H'
section
open He
variable {P : Program} {w : World} {K : PySem.W.Frag} {mg : Str → Option Value} {base : Heap} {f : Addr} {fd : FuncData}
theorem c_law_held2 : FnScope ["file", "book", "at", "one"] ["file", "book", "at"] (defScope s_law_held) := ⟨rfl, rfl, rfl, by decide +kernel, rfl, by decide +kernel, by decide +kernel⟩
theorem ok_lheld {xs : List Str} {fdW : FuncData} (F : FnP K "_law_held" "_law_held" s_law_held (ga K "_law_held") fd) (T : TU19 K w mg) (FW : FnP K "within" "File.within" s_File_within (ma K (ga K "File") "within") fdW) (bW : Binds K fdW ["self", "visitor"] []) (mt : Meth K (ga K "File") "within" (ma K (ga K "File") "within")) (D : Mkr K mg base xs "_law_held")
    (M_Hold : Mn P w K mg base 2 (ga K "Hold") ["self", "file"] (spHinit (ga K "Hold"))) (D_enter : Dn P w K mg base 2 (ma K (ga K "Hold") "__enter__") ["self"] (spHset (ga K "Hold") (ga K "File") true []))
    (D_exit : Dn P w K mg base 2 (ma K (ga K "Hold") "__exit__") ["self", "kind", "value", "trace"] (spHset (ga K "Hold") (ga K "File") false [.non, .non, .non])) (D_callB : Dn P w K mg base 10 (ma K (ga K "Book") "__call__") ["self", "file", "at"] (spCallB (ga K "Book") (ga K "File") (ga K "Moment"))) :
    FnG P w K mg base (L2.CX P w) 18 (ga K "_law_held") fd ["file", "book", "at"] (spLHeld K xs (ga K "Book") (ga K "File")) := by
  refine FunD.okC F c_law_held2 (fun vs H Q E h => ?_) (fun cdv A outer s H vs Q E hc hG hr h => ⟨_, pss_one (ps_ret (pe_actV (pn := "one") (k := 12) (j := 3) FW bW c_File_within (act_within (by decide) T M_Hold D_enter D_exit) (rm hr) T.fcl mt (passes_call (takes_of rfl rfl rfl rfl) fun _ _ _ _ h => h) (lamS1_by (sc := defScope s_law_held) (by decide +kernel)) rfl c_law_held2.nd (fun _ _ _ _ _ _ => rfl) (fun A1 o1 s1 H1 E1 f1 c1 hr => (pe_ci D_callB T.cib (rm hr) (passes_call (takes_of rfl rfl rfl rfl) fun _ _ _ _ h => h) ((pv 1)) (pa_cons (pv 3) (pa_cons (pv 2) (pa_nil))))) ((pv 0)) (pe_lam1P (pn := "one") D hc rfl rfl (fun I => I.ok) (lamS1_by (sc := defScope s_law_held) (by decide +kernel)) rfl))), ?_⟩)
  · obtain ⟨a, x, da, r, d, p, m, n, c1, c2, c3, rfl, _⟩ := h
    rfl
  · obtain ⟨a, x, da, r, d, p, m, n, c1, c2, c3, rfl, tb, bs, op, ha, hd, ⟨n0, n1⟩, k⟩ := h
    (purse 7012 => fail)
    refine g_kobj ha rfl ?_
    refine ⟨tb, fun lf lc H1 md => ?_⟩
    have e1 : ∀ b o, H b = some o → (∀ ps, o ≠ HO.tbl ps) → H1 b = some o := md.ext
    have ha1 := e1 _ _ ha (fun _ z => nomatch z)
    have nlf : lf ≠ a := fun z => by
      have e := md.new
      rw [z, ha] at e
      cases e
    have nlc : lc ≠ a := fun z => by
      have e := md.code
      rw [z, ha1] at e
      exact codeO_ins (Option.some.inj e).symm
    refine ⟨lf, lc, da, _, rfl, ⟨md.lam, md.code⟩, ha1, da, r, d, m, false, ha1, fun H' u => ⟨u _ _ nlf md.lam, u _ _ nlc md.code⟩, fun H2 Q' u2 h2 k2 => ⟨.ref a, rfl, ?_⟩⟩
    obtain ⟨dx, e, hx, tt, he, ht⟩ := bs
    have nx : x ≠ a := fun z => by
      rw [z, ha] at hx
      have h3 := (HO.ins.inj (Option.some.inj hx)).2.2
      cases h3
    have ne : e ≠ a := fun z => by rw [z, ha] at he; cases he
    have nt : tt ≠ a := fun z => by rw [z, ha] at ht; cases ht
    have nd : d ≠ a := fun z => by rw [z, ha] at hd; cases hd
    have hx2 := u2 _ _ nx (e1 _ _ hx (fun _ z => nomatch z))
    have he2 := u2 _ _ ne (e1 _ _ he (fun _ z => nomatch z))
    have ht2 := u2 _ _ nt (e1 _ _ ht (fun _ z => nomatch z))
    have hd2 := u2 _ _ nd (e1 _ _ hd (fun _ z => nomatch z))
    show tVar 1 [some (V.ref a), some (V.ref x), some (V.int n), some (V.ref a)] H2 _
    (purse 7012 => fail)
    refine g_kci ?_
    show tCons (tVar 3) (tCons (tVar 2) tNil) [some (V.ref a), some (V.ref x), some (V.int n), some (V.ref a)] H2 _
    (purse 7012 => fail)
    refine ⟨⟨_, _, hx2⟩, x, a, da, r, d, p, m, n, c1, c2, c3, true, .int n, rfl, .int n, ⟨dx, e, hx2, tt, he2, ht2⟩, op, h2, hd2, n0, n1, fun H3 u3 => k2 _ H3 (fun b o _ h _ => u3 _ _ h) (u3 _ _ h2) fun H4 u4 h4 => ?_⟩
    have u14 : Up H1 H4 := fun b o h => by
      by_cases c : b = a
      · rw [c, ha1] at h
        rw [c, h4]
        exact h
      · exact u4 _ _ c (u3 _ _ (u2 _ _ c h))
    exact k H4 (fun b o h nt => u14 _ _ (e1 _ _ h nt)) (md.tabs.ext u14)
end

end K1
namespace K1
open PySem PySem.Spec PyProof.Rows L2 AF LamX
open C8 (pe_gc)
local macro_rules | `(tactic| purse 7003 => fail) => `(tactic| k_dflt (refine Sh.has_ (by assumption) ?_; repeat (first | exact On.here | apply On.next)))
local macro_rules | `(tactic| purse 7004 => fail) => `(tactic| k_dflt (repeat (first | exact On.here | apply On.next)))
local macro_rules | `(tactic| purse 7005 => fail) => `(tactic| (repeat (first | exact Rep.here | apply Rep.next)))
local macro_rules | `(tactic| purse 7006 => fail) => `(tactic| (exact Sh.out (by assumption) (fun b h => by simp [h])))
local macro_rules | `(tactic| purse 7007 => fail) => `(tactic| k_dflt (first | ((with_reducible refine cdivw ?_ ?_) <;> omega) | ((with_reducible show CDiv _ _); constructor <;> omega) | ((with_reducible show CMul _ _); (first | (left; constructor <;> omega) | (right; constructor <;> omega))) | (show (0 : Int) < _; omega)))
local macro_rules | `(tactic| purse 7008 => fail) => `(tactic| first | exact Kd.int _ | exact Kd.bl _ | exact Kd.non | exact Kd.str _ | exact Kd.ins (by (purse 7003 => fail)) | exact Kd.lst (by (purse 7003 => fail)) | exact Kd.tup (by (purse 7003 => fail)))
local macro_rules | `(tactic| purse 7009 => fail) => `(tactic| first | exact DpAll.nil | (apply DpAll.cons; (purse 7010 => fail); (purse 7009 => fail)))
local macro_rules | `(tactic| purse 7010 => fail) => `(tactic| first | exact Dp.int _ | exact Dp.bl _ | exact Dp.non | exact Dp.str _ | (refine dp_int ?_; omega) | (refine dp_bl ?_; simp only [decide_eq_decide]; omega) | (apply dp_lst; (purse 7003 => fail); (purse 7009 => fail)) | (apply dp_tup; (purse 7003 => fail); (purse 7009 => fail)))
local macro_rules | `(tactic| purse 7011 => fail) => `(tactic| first | assumption | omega)
local macro_rules | `(tactic| purse 7001 => fail) => `(tactic| fail "no use")
local macro_rules | `(tactic| purse 7002 => fail) => `(tactic| first
  | (with_reducible refine set_go ?_)
  | (with_reducible refine Step.go ?_)
  | (with_reducible first | refine g_pow10_6 ?_ | refine g_pow10_7 ?_ | refine g_pow10_18 ?_ | refine g_pow10_29 ?_ | refine g_pow10_30 ?_)
  | ((with_reducible refine' g_I ?a0 ?_); (case a0 => (purse 7007 => fail)))
  | ((with_reducible refine' g_ixL ?a0 ?a1 ?_); (case a0 => (purse 7003 => fail)); (case a1 => k_dflt (exact rfl)))
  | ((with_reducible refine' g_kfld ?a0 ?a1 ?a2 ?a3 ?_); (case a0 => (purse 7003 => fail)); (case a1 => k_dflt (assumption)); (case a2 => k_dflt (assumption)); (case a3 => k_dflt (exact rfl)))
  | ((with_reducible refine' g_kprop ?a0 ?_); (case a0 => (purse 7003 => fail)))
  | ((with_reducible refine' g_kmeth ?a0 ?a1 ?_); (case a0 => (purse 7003 => fail)); (case a1 => k_dflt (exact rfl)))
  | ((with_reducible refine' g_own ?a0 ?a1 ?a2 ?_); (case a0 => (purse 7003 => fail)); (case a1 => (purse 7008 => fail)); (case a2 => k_dflt (assumption)))
  | ((with_reducible refine' g_cmp ?a0 ?a1 ?a2 ?_); (case a0 => (purse 7003 => fail)); (case a1 => (purse 7008 => fail)); (case a2 => k_dflt (assumption)))
  | ((with_reducible refine' g_neq ?a0 ?a1 ?a2 ?_); (case a0 => (purse 7003 => fail)); (case a1 => (purse 7008 => fail)); (case a2 => k_dflt (assumption)))
  | ((with_reducible refine' g_right ?a0 ?_); (case a0 => (purse 7003 => fail)))
  | ((with_reducible refine' use_draw ?a0 ?a1 ?a2 ?a3 ?a4 ?_); (case a0 => assumption); (case a1 => intro _ _; (purse 7005 => fail)); (case a2 => assumption); (case a3 => (purse 7011 => fail)); (case a4 => (purse 7011 => fail)); intro _ _ _ _ _ _ _ _)
  | ((with_reducible refine' use_giveI ?a0 ?a1 ?a2 ?_); (case a0 => assumption); (case a1 => intro _ _; (purse 7005 => fail)); (case a2 => assumption); intro _ _ _ _ _ _ _ _)
  | ((with_reducible refine' use_source ?a0 ?a1 ?_); (case a0 => assumption); (case a1 => k_dflt (assumption)); intro _ _ _ _ _ _)
  | (with_reducible refine g_absN ?_; intro _ _)
  | (with_reducible refine g_maxN ?_; intro _ _ _ _)
  | (with_reducible refine g_minN ?_; intro _ _ _ _)
  | ((with_reducible refine' g_kR1 ?a0 ?a1 ?_); (case a0 => omega); (case a1 => omega))
  | ((with_reducible refine' g_neD ?a0 ?a1 ?a2 ?_); (case a0 => (purse 7010 => fail)); (case a1 => (purse 7010 => fail)); (case a2 => k_dflt (rfl)))
  | ((with_reducible refine' g_eqD ?a0 ?a1 ?a2 ?_); (case a0 => (purse 7010 => fail)); (case a1 => (purse 7010 => fail)); (case a2 => k_dflt (rfl)))
  | ((with_reducible refine' g_klst ?a0 ?a1 ?_); (case a0 => assumption); (case a1 => k_dflt (exact rfl)); intro _ _ _ _)
  | ((with_reducible refine' g_ktup ?a0 ?a1 ?_); (case a0 => assumption); (case a1 => k_dflt (exact rfl)); intro _ _ _ _)
  | ((with_reducible refine' g_setL ?a0 ?a1 ?a2 ?_); (case a0 => assumption); (case a1 => (purse 7005 => fail)); (case a2 => k_dflt (exact rfl)); intro _ _)
  | ((with_reducible refine' g_unl3 ?a0 ?_); (case a0 => (purse 7003 => fail)))
  | (purse 7001 => fail))
local macro_rules | `(tactic| purse 7012 => fail) => `(tactic| ((try (with_reducible refine start_go ?_)); repeat (purse 7002 => fail)))
local macro_rules | `(tactic| purse 7013 => fail) => `(tactic| first | rfl | (refine decide_eq_true ?_; omega) | (simp only [Bool.not_eq_true', Bool.not_eq_false', decide_eq_false_iff_not, decide_eq_true_eq, Bool.not_not, decide_eq_decide]; done) | (simp only [Bool.not_eq_true', Bool.not_eq_false', decide_eq_false_iff_not, decide_eq_true_eq, Bool.not_not, decide_eq_decide]; omega))
local macro_rules | `(tactic| purse 7014 => fail) => `(tactic| first | rfl | (refine decide_eq_false ?_; omega) | (simp only [Bool.not_eq_true', Bool.not_eq_false', decide_eq_false_iff_not, decide_eq_true_eq, Bool.not_not, decide_eq_decide]; done) | (simp only [Bool.not_eq_true', Bool.not_eq_false', decide_eq_false_iff_not, decide_eq_true_eq, Bool.not_not, decide_eq_decide]; omega))
local macro_rules | `(tactic| purse 7015 => fail) => `(tactic| ((refine g_yes ?h ?_); (case h => (purse 7013 => fail))))
local macro_rules | `(tactic| purse 7016 => fail) => `(tactic| ((refine g_no ?h ?_); (case h => (purse 7014 => fail))))
local macro_rules | `(tactic| purse 7017 => fail) => `(tactic| first | (purse 7015 => fail) | (purse 7016 => fail))
local macro_rules | `(tactic| purse 7018 => fail) => `(tactic| repeat ((purse 7012 => fail); (purse 7017 => fail)))
local macro_rules | `(tactic| purse 7019 => fail) => `(tactic| repeat (first | exact intIn_nil | refine intIn_cons (by omega) (by omega) ?_))
local macro_rules | `(tactic| purse 7020 => fail) => `(tactic| (simp only [List.length_cons, List.length_nil]; omega))
local macro_rules | `(tactic| purse 7021 => fail) => `(tactic| (refine g_two (fun c => ?_) (fun c => ?_) <;> first | (have c := of_decide_eq_true c) | (have c := of_decide_eq_false c) | skip))
local macro_rules | `(tactic| purse 7022 => fail) => `(tactic| ((purse 7018 => fail); (purse 7012 => fail); try ((purse 7021 => fail) <;> (purse 7022 => fail))))

/-! the law -/
open He in
def spLaw (K : PySem.W.Frag) (xs : List Str) : Sp := fun vs H Q _ => ∃ (a : Addr) (ns : List Int), vs = [.ref a] ∧ SqF K H a (ns.map V.int) ∧ ns.length ≤ 63 ∧ Tabs (lamT K xs) H ∧ ∀ H', Q (.bl true) H'
theorem SqF.upX {K : PySem.W.Frag} {H H' : Hp} {a x : Addr} {xs ys : List V} (h : SqF K H a xs) (u : UpX x H H') (hs : H x = some (.lst ys)) : SqF K H' a xs := by
  rcases h with ⟨o, z⟩ | h
  · exact .inl ⟨o, u _ _ (fun e => by rw [e, hs] at z; cases z) z⟩
  · exact .inr h
theorem SqF.up {K : PySem.W.Frag} {H H' : Hp} {a : Addr} {xs : List V} (h : SqF K H a xs) (u : Up H H') : SqF K H' a xs := by
  rcases h with ⟨o, z⟩ | h
  · exact .inl ⟨o, u _ _ z⟩
  · exact .inr h
theorem Tabs.upX {T : List (Addr × Str)} {H H' : Hp} {x : Addr} {ys : List V} (t : Tabs T H) (u : UpX x H H') (hs : H x = some (.lst ys)) : Tabs T H' := fun p hp => by
  obtain ⟨ps, h1, h2, h3⟩ := t p hp
  refine ⟨ps, u _ _ (fun e => by rw [e, hs] at h1; cases h1) h1, h2, fun pos cv hc => ?_⟩
  obtain ⟨c, g1, g2⟩ := h3 pos cv hc
  exact ⟨c, g1, u _ _ (fun e => by rw [e, hs] at g2; cases g2) g2⟩
theorem Pd0.upX {H H' : Hp} {d x : Addr} {p : Bp} {ys : List V} (u : UpX x H H') (hs : H x = some (.lst ys)) : Pd0 H d p → Pd0 H' d p := fun ⟨t, a, b⟩ =>
  ⟨t, u _ _ (fun e => by rw [e, hs] at a; cases a) a, u _ _ (fun e => by rw [e, hs] at b; cases b) b⟩
theorem Pd0.ext {H H' : Hp} {d : Addr} {p : Bp} (u : ExtN H H') : Pd0 H d p → Pd0 H' d p := fun ⟨t, a, b⟩ => ⟨t, u _ _ a (fun _ z => nomatch z), u _ _ b (fun _ z => nomatch z)⟩
theorem Bs0.upX {C : Addr} {H H' : Hp} {x y : Addr} {p : Bp} {ys : List V} (u : UpX y H H') (hs : H y = some (.lst ys)) : Bs0 C H x p → Bs0 C H' x p := fun ⟨dx, d, a, b⟩ => ⟨dx, d, u _ _ (fun e => by rw [e, hs] at a; cases a) a, Pd0.upX u hs b⟩
theorem Bs0.ext {C : Addr} {H H' : Hp} {x : Addr} {p : Bp} (u : ExtN H H') : Bs0 C H x p → Bs0 C H' x p := fun ⟨dx, d, a, b⟩ => ⟨dx, d, u _ _ a (fun _ z => nomatch z), Pd0.ext u b⟩
/-- what stands through a turn -/
structure S19 (K : PySem.W.Frag) (xs : List Str) (C F : Addr) (sa : Addr) (ns : List V) (sr pd : Addr) (p : Bp) (x fa da r d : Addr) (at' c1 c2 c3 : Int) (m : Addr) (n s : Int) (H : Hp) : Prop where
  sf : SqF K H sa ns
  tb : Tabs (lamT K xs) H
  sr : H sr = some (.lst [.int n, .int s])
  pd : Pd0 H pd p
  bk : Bs0 C H x p
  fl : H fa = some (.ins F da (KF.fl r d at' false))
  dm : H d = some (.dK (KF.mk3 c1 c2 c3))
  mrk : H m = some (.dK (KF.mk3 c1 c2 c3))
section
variable {K : PySem.W.Frag} {xs : List Str} {C F : Addr} {sa : Addr} {ns : List V} {sr pd : Addr} {p : Bp} {x fa da r d : Addr} {at' c1 c2 c3 : Int} {m : Addr} {n s n' s' : Int} {H H' : Hp}
theorem S19.up (S : S19 K xs C F sa ns sr pd p x fa da r d at' c1 c2 c3 m n s H) (u : Up H H') : S19 K xs C F sa ns sr pd p x fa da r d at' c1 c2 c3 m n s H' :=
  ⟨SqF.up S.sf u, S.tb.ext u, u _ _ S.sr, S.pd.up u, S.bk.up u, u _ _ S.fl, u _ _ S.dm, u _ _ S.mrk⟩
theorem S19.ext (S : S19 K xs C F sa ns sr pd p x fa da r d at' c1 c2 c3 m n s H) (u : ExtN H H') (t : Tabs (lamT K xs) H') : S19 K xs C F sa ns sr pd p x fa da r d at' c1 c2 c3 m n s H' :=
  ⟨S.sf.extN u, t, u _ _ S.sr (fun _ z => nomatch z), Pd0.ext u S.pd, Bs0.ext u S.bk, u _ _ S.fl (fun _ z => nomatch z), u _ _ S.dm (fun _ z => nomatch z), u _ _ S.mrk (fun _ z => nomatch z)⟩
theorem S19.upX (S : S19 K xs C F sa ns sr pd p x fa da r d at' c1 c2 c3 m n s H) (u : UpX sr H H') (h : H' sr = some (.lst [.int n', .int s'])) : S19 K xs C F sa ns sr pd p x fa da r d at' c1 c2 c3 m n' s' H' :=
  ⟨SqF.upX S.sf u S.sr, Tabs.upX S.tb u S.sr, h, Pd0.upX u S.sr S.pd, Bs0.upX u S.sr S.bk, u _ _ (fun e => by have := S.fl; rw [e, S.sr] at this; cases this) S.fl, u _ _ (fun e => by have := S.dm; rw [e, S.sr] at this; cases this) S.dm, u _ _ (fun e => by have := S.mrk; rw [e, S.sr] at this; cases this) S.mrk⟩
end
theorem g_meetE {b : Bool} {te1 te2 : TE} {σ : L2.St} {H : Hp} {Q : VK} (W : V → Hp → Prop) (h1 : b = true → ∀ Qx : VK, (∀ v H', W v H' → Qx v H') → te1 σ H Qx) (h2 : b = false → ∀ Qx : VK, (∀ v H', W v H' → Qx v H') → te2 σ H Qx) (q : ∀ v H', W v H' → Q v H') : if b = true then te1 σ H Q else te2 σ H Q := by
  cases b with
  | true => rw [if_pos rfl]; exact h1 rfl Q q
  | false => rw [if_neg (by decide)]; exact h2 rfl Q q
theorem eqv_strs : ∀ l : List Str, PyData.eqvAll (l.map PyData.str) (l.map PyData.str) = true
  | [] => rfl
  | z :: r => by
    show ((z == z) && PyData.eqvAll (r.map PyData.str) (r.map PyData.str)) = true
    rw [eqv_strs r]
    simp
theorem e9_self (p : Bp) : e9 p p = true := by
  have e := eqv_strs p.lk
  show ((p.b == p.b) && (PyData.eqvAll (p.lk.map PyData.str) (p.lk.map PyData.str) && ((hw p.ab == hw p.ab) && ((p.day == p.day) && ((p.gr == p.gr) && ((p.sp == p.sp) && ((p.lt == p.lt) && ((p.ag == p.ag) && ((p.pd == p.pd) && true))))))))) = true
  rw [e]
  simp
theorem g_ul2 {σ σ1 σ2 : L2.St} {H : Hp} {K : PySem.W.Frag} {p : Addr} {x y : V} {i j : Nat} {P : L2.St → Hp → Prop} [h1 : SetI σ i x σ1] [h2 : SetI σ1 j y σ2] (h : H p = some (.lst [x, y])) (q : P σ2 H) :
    gUnl K 2 (gCons (gName i) (gCons (gName j) gNil)) (.ref p) σ H P := by
  refine ⟨p, _, rfl, SqL.of h, rfl, x, _, rfl, y, _, rfl, rfl, ?_⟩
  rw [h1.eq, h2.eq]
  exact q
theorem g_eachAll {i : Nat} {tb : TS} {nx bk ct : L2.St → Hp → Prop} {rt : VK} {d : Addr} {u : HO} (W : L2.St → Hp → Prop) (hd : ∀ σ H, W σ H → H d = some u) (he : ∀ σ H, W σ H → nx σ H) :
    ∀ (xs : List V), (∀ x ∈ xs, ∀ σ H, W σ H → ∀ nx' : L2.St → Hp → Prop, (∀ σ H, W σ H → nx' σ H) → tb ⟨nx', rt, nx, nx'⟩ (σ.set i (some x)) H) → ∀ σ H, W σ H → EachL (gName i) tb ⟨nx, rt, bk, ct⟩ d u xs σ H
  | [], _, σ, H, w => ⟨hd _ _ w, he _ _ w⟩
  | x :: r, hs, σ, H, w => ⟨hd _ _ w, hs x (.head _) σ H w _ fun σ' H' w' => g_eachAll W hd he r (fun y hy => hs y (.tail _ hy)) σ' H' w'⟩
theorem g_neB {a b : Bool} {H : Hp} {Q : VK} (q : Q (.bl (!decide (a = b))) H) : rNe (.bl a) (.bl b) H Q := ⟨rfl, by
  have e : decide (V.bl a = V.bl b) = decide (a = b) := by cases a <;> cases b <;> rfl
  rw [e]; exact q⟩
theorem del_held {p : Bp} {x y z n : Int} : del p x y z true n = (del p x y z false n && !p.sp) := by
  unfold del
  cases p.sp <;> simp
section
open He
variable {P : Program} {w : World} {K : PySem.W.Frag} {mg : Str → Option Value} {base : Heap} {f : Addr} {fd : FuncData}
theorem ok_law {xs : List Str} (F : FnP K "law" "law" s_law f fd) (T : TU19 K w mg) (D_law_draw : Dn P w K mg base 2 (ga K "_law_draw") ["source", "amount"] spDraw) (D_law_source : Dn P w K mg base 2 (ga K "_law_source") ["script", "turn"] (spSource K)) (D_law_pick : Dn P w K mg base 4 (ga K "_law_pick") ["source", "items"] spPick)
    (D_law_parts : Dn P w K mg base 8 (ga K "_law_parts") ["source", "most", "grains"] spParts36) (D_law_wide : Dn P w K mg base 8 (ga K "_law_wide") ["source"] (spParts17 K [])) (D_law_book : Dn P w K mg base 12 (ga K "_law_book") ["parts"] (spBook17 K (ga K "Book"))) (D_law_file : Dn P w K mg base 14 (ga K "_law_file") ["source", "rule", "far"] (spLFile (ga K "Rule") (ga K "File")))
    (D_always : Dn P w K mg base 5 (He5.wf K (ga K "Rule") "staticmethod" "always") [] (KF.spRule0 (ga K "Rule") "always")) (D_never : Dn P w K mg base 5 (He5.wf K (ga K "Rule") "staticmethod" "never") [] (KF.spRule0 (ga K "Rule") "never")) (D_seldom : Dn P w K mg base 5 (He5.wf K (ga K "Rule") "staticmethod" "seldom") ["after"] (KF.spSeldom (ga K "Rule")))
    (H_marks : Hn P w K mg base 2 (ga K "File") "marks" (KF.spMarks (ga K "File"))) (D_law_old : Dn P w K mg base 2 (ga K "_law_old") ["parts", "marks", "at"] spOld) (D_law_deletes : Dn P w K mg base 4 (ga K "_law_deletes") ["parts", "marks", "held", "at"] spDel) (D_callB : Dn P w K mg base 10 (ma K (ga K "Book") "__call__") ["self", "file", "at"] (spCallB (ga K "Book") (ga K "File") (ga K "Moment")))
    (M_Moment : Mn P w K mg base 6 (ga K "Moment") ["self", "seconds"] (KF.spInit (ga K "Moment"))) (D_seen_age : Dn P w K mg base 12 (ga K "seen_age") ["book", "marks", "at"] (spSeen19 (ga K "Book") (ga K "Moment"))) (D_law_held : DnG P w K mg base 18 (ga K "_law_held") ["file", "book", "at"] (spLHeld K xs (ga K "Book") (ga K "File"))) (D_beq : Dn P w K mg base 4 (ma K (ga K "Book") "__eq__") ["self", "other"] (spBEq K (ga K "Book"))) :
    FnG P w K mg base (L2.CX P w) 22 f fd ["script"] (spLaw K xs) := by
  refine FunD.okC F c_law (fun vs H Q E h => ?_) (fun cdv A outer s H vs Q E hc hG hr h => ⟨_, pss_cons (ps_for (passes_of rfl) rfl (pi_range1 rfl T.z_range (pa_cons (pe_callB (cl_max rfl) (by rfl) T.z_max (by decide +kernel) (pa_cons (pe_int) (pa_cons (pe_callB (cl_min rfl) (by rfl) T.z_min (by decide +kernel) (pa_cons (pe_callB cl_len (by rfl) T.z_len (by decide +kernel) (pa_cons (pv 0) (pa_nil))) (pa_cons (pe_int) (pa_nil)))) (pa_nil)))) (pa_nil))) (pg_name (i := 1) c_law.nd rfl (Or.inl rfl))
      (pss_cons (ps_set (i := 2) c_law.nd rfl (Or.inl rfl) (pe_dn D_law_source (rm hr) rfl T.g_law_source (passes_call (takes_of rfl rfl rfl rfl) fun _ _ _ _ h => h) (pa_cons (pv 0) (pa_cons (pv 1) (pa_nil)))))
      (pss_cons (ps_set (i := 3) c_law.nd rfl (Or.inl rfl) (pe_ifExp (pt_cmpR op_gt (pe_dn D_law_draw (rm hr) rfl T.g_law_draw (passes_call (takes_of rfl rfl rfl rfl) fun _ _ _ _ h => h) (pa_cons (pv 2) (pa_cons (pe_int) (pa_nil)))) (pe_int) (nomark _)) (pe_dn D_law_parts (rm hr) rfl T.g_law_parts (passes_call (takes_of rfl rfl rfl rfl) fun _ _ _ _ h => h) (pa_cons (pv 2) (pa_cons (pe_int) (pa_cons (pe_int) (pa_nil))))) (pe_dn D_law_wide (rm hr) rfl T.g_law_wide (passes_call (takes_of rfl rfl rfl rfl) fun _ _ _ _ h => h) (pa_cons (pv 2) (pa_nil)))))
      (pss_cons (ps_set (i := 4) c_law.nd rfl (Or.inl rfl) (pe_dn D_law_book (rm hr) rfl T.g_law_book (passes_call (takes_of rfl rfl rfl rfl) fun _ _ _ _ h => h) (pa_cons (pv 3) (pa_nil))))
      (pss_cons (ps_asg (pe_dn D_law_file (rm hr) rfl T.g_law_file (passes_call (takes_of rfl rfl rfl rfl) fun _ _ _ _ h => h) (pa_cons (pv 2) (pa_cons (pe_dn D_law_pick (rm hr) rfl T.g_law_pick (passes_call (takes_of rfl rfl rfl rfl) fun _ _ _ _ h => h) (pa_cons (pv 2) (pa_cons (pe_lst (pa_cons (pe_sm0 T.sm_always D_always (rm hr) rfl T.g_Rule (passes_call (takes_of rfl rfl rfl rfl) fun _ _ _ _ h => h)) (pa_cons (pe_sm0 T.sm_never D_never (rm hr) rfl T.g_Rule (passes_call (takes_of rfl rfl rfl rfl) fun _ _ _ _ h => h)) (pa_cons (pe_sm T.sm_seldom D_seldom (rm hr) rfl T.g_Rule (passes_call (takes_of rfl rfl rfl rfl) fun _ _ _ _ h => h) (pa_cons (pe_int) (pa_nil))) (pa_nil))))) (pa_nil)))) (pa_cons (pe_int) (pa_nil))))) (pg_unl (n := 2) rfl (pgs_cons (pg_name (i := 5) c_law.nd rfl (Or.inl rfl)) (pgs_cons (pg_name (i := 6) c_law.nd rfl (Or.inl rfl)) (pgs_nil)))))
      (pss_cons (ps_set (i := 7) c_law.nd rfl (Or.inl rfl) (pe_callTy cl_dictD (by rfl) T.z_dict (by decide +kernel) (pa_cons (pe_dm0 H_marks (rm hr) (passes_call (takes_of rfl rfl rfl rfl) fun _ _ _ _ h => h) (pv 5)) (pa_nil))))
      (pss_cons (ps_set (i := 8) c_law.nd rfl (Or.inl rfl) (pe_op op_add (pv 6) (pe_op op_mul (pe_op op_add (pe_dget (hu_of hr) ((pv 3)) ((pe_str)) (fun _ _ => rfl)) (pe_int)) (pe_dget (hu_of hr) ((pv 3)) ((pe_str)) (fun _ _ => rfl)))))
      (pss_cons (ps_set (i := 8) c_law.nd rfl (Or.inl rfl) (pe_op op_sub (pv 8) (pe_dn D_law_old (rm hr) rfl T.g_law_old (passes_call (takes_of rfl rfl rfl rfl) fun _ _ _ _ h => h) (pa_cons (pv 3) (pa_cons (pv 7) (pa_cons (pv 6) (pa_nil)))))))
      (pss_cons (ps_set (i := 9) c_law.nd rfl (Or.inl rfl) (pe_op op_sub (pv 8) (pe_dget (hu_of hr) ((pv 3)) ((pe_str)) (fun _ _ => rfl))))
      (pss_cons (ps_for (passes_of rfl) rfl (pi_list (pe_lst (pa_cons (pv 6) (pa_cons (pe_op op_add (pv 6) (pe_int)) (pa_cons (pe_op op_sub (pv 9) (pe_int)) (pa_cons (pv 9) (pa_cons (pe_op op_sub (pv 8) (pe_int)) (pa_cons (pv 8) (pa_cons (pe_op op_add (pv 8) (pe_int)) (pa_cons (pe_op op_add (pv 8) (pe_op op_pow (pe_int) (pe_int))) (pa_nil))))))))))) (pg_name (i := 10) c_law.nd rfl (Or.inl rfl))
      (pss_one (ps_if (pt_cmpR op_ge (pv 10) (pv 6) (nomark _))
      (pss_cons (ps_set (i := 11) c_law.nd rfl (Or.inl rfl) (pe_dn D_law_deletes (rm hr) rfl T.g_law_deletes (passes_call (takes_of rfl rfl rfl rfl) fun _ _ _ _ h => h) (pa_cons (pv 3) (pa_cons (pv 7) (pa_cons (pe_bl) (pa_cons (pv 10) (pa_nil)))))))
      (pss_cons (ps_set (i := 12) c_law.nd rfl (Or.inl rfl) (pe_ci D_callB T.cib (rm hr) (passes_call (takes_of rfl rfl rfl rfl) fun _ _ _ _ h => h) ((pv 4)) (pa_cons (pv 5) (pa_cons (pv 10) (pa_nil)))))
      (pss_cons (ps_if (PW.pt (pw_or (pt_cmpR op_ne (pv 12) (pv 11) (nomark _)) (pw_or1 (pt_not (pt_val (pe_callB call_isi (by rfl) T.z_isinstance (by decide +kernel) (pa_cons (pv 12) (pa_cons (pe_bltn (v := .ty "bool") rfl T.z_bool (by decide +kernel) rfl) (pa_nil)))))))))
      (pss_one (ps_ret (pe_bl)))
      (pss_nil))
      (pss_cons (ps_if (pt_cmpR op_ne (pe_ci D_callB T.cib (rm hr) (passes_call (takes_of rfl rfl rfl rfl) fun _ _ _ _ h => h) ((pv 4)) (pa_cons (pv 5) (pa_cons (pe_mn M_Moment (rm hr) rfl T.g_Moment (passes_call (takes_of rfl rfl rfl rfl) fun _ _ _ _ h => h) (pa_cons (pv 10) (pa_nil))) (pa_nil)))) (pv 11) (nomark _))
      (pss_one (ps_ret (pe_bl)))
      (pss_nil))
      (pss_cons (ps_if (pt_cmpR op_ne (pe_dn D_seen_age (rm hr) rfl T.g_seen_age (passes_call (takes_of rfl rfl rfl rfl) fun _ _ _ _ h => h) (pa_cons (pv 4) (pa_cons (pv 7) (pa_cons (pv 10) (pa_nil))))) (pe_op op_fdiv (pe_dn D_law_old (rm hr) rfl T.g_law_old (passes_call (takes_of rfl rfl rfl rfl) fun _ _ _ _ h => h) (pa_cons (pv 3) (pa_cons (pv 7) (pa_cons (pv 10) (pa_nil))))) (pe_dget (hu_of hr) ((pv 3)) ((pe_str)) (fun _ _ => rfl))) (nomark _))
      (pss_one (ps_ret (pe_bl)))
      (pss_nil))
      (pss_one (ps_if (pt_cmpR op_ne (pe_dng D_law_held (by exact hG) (rm hr) rfl T.g_law_held (passes_call (takes_of rfl rfl rfl rfl) fun _ _ _ _ h => h) (pa_cons (pv 5) (pa_cons (pv 4) (pa_cons (pv 10) (pa_nil))))) (pe_and (pv 11) (pe_one (pe_not (pe_dget (hu_of hr) ((pv 3)) ((pe_str)) (fun _ _ => rfl))))) (nomark _))
      (pss_one (ps_ret (pe_bl)))
      (pss_nil))))))))
      (pss_nil))))
      (pss_cons (ps_set (i := 13) c_law.nd rfl (Or.inl rfl) (pe_op op_sub (pv 6) (pe_dn D_law_draw (rm hr) rfl T.g_law_draw (passes_call (takes_of rfl rfl rfl rfl) fun _ _ _ _ h => h) (pa_cons (pv 2) (pa_cons (pe_int) (pa_nil))))))
      (pss_cons (ps_if (pt_cmpR op_ne (pe_dn D_seen_age (rm hr) rfl T.g_seen_age (passes_call (takes_of rfl rfl rfl rfl) fun _ _ _ _ h => h) (pa_cons (pv 4) (pa_cons (pv 7) (pa_cons (pv 13) (pa_nil))))) (pe_op op_fdiv (pe_dn D_law_old (rm hr) rfl T.g_law_old (passes_call (takes_of rfl rfl rfl rfl) fun _ _ _ _ h => h) (pa_cons (pv 3) (pa_cons (pv 7) (pa_cons (pv 13) (pa_nil))))) (pe_dget (hu_of hr) ((pv 3)) ((pe_str)) (fun _ _ => rfl))) (nomark _))
      (pss_one (ps_ret (pe_bl)))
      (pss_nil))
      (pss_cons (ps_set (i := 14) c_law.nd rfl (Or.inl rfl) (pe_disp (pps_cons (pe_str) (pe_mn M_Moment (rm hr) rfl T.g_Moment (passes_call (takes_of rfl rfl rfl rfl) fun _ _ _ _ h => h) (pa_cons (pe_dget (hu_of hr) ((pv 7)) ((pe_str)) (fun _ _ => rfl)) (pa_nil))) (pps_cons (pe_str) (pe_dget (hu_of hr) ((pv 7)) ((pe_str)) (fun _ _ => rfl)) (pps_cons (pe_str) (pe_dget (hu_of hr) ((pv 7)) ((pe_str)) (fun _ _ => rfl)) (pps_nil)))) rfl rfl (by decide) (by decide)))
      (pss_cons (ps_if (pt_cmpR op_ne (pe_dn D_seen_age (rm hr) rfl T.g_seen_age (passes_call (takes_of rfl rfl rfl rfl) fun _ _ _ _ h => h) (pa_cons (pv 4) (pa_cons (pv 14) (pa_cons (pe_mn M_Moment (rm hr) rfl T.g_Moment (passes_call (takes_of rfl rfl rfl rfl) fun _ _ _ _ h => h) (pa_cons (pv 13) (pa_nil))) (pa_nil))))) (pe_op op_fdiv (pe_dn D_law_old (rm hr) rfl T.g_law_old (passes_call (takes_of rfl rfl rfl rfl) fun _ _ _ _ h => h) (pa_cons (pv 3) (pa_cons (pv 7) (pa_cons (pv 13) (pa_nil))))) (pe_dget (hu_of hr) ((pv 3)) ((pe_str)) (fun _ _ => rfl))) (nomark _))
      (pss_one (ps_ret (pe_bl)))
      (pss_nil))
      (pss_one (ps_if (PW.pt (pw_or (pt_cmpR (op_ne3 hr.units0) (pe_dm0 H_marks (rm hr) (passes_call (takes_of rfl rfl rfl rfl) fun _ _ _ _ h => h) (pv 5)) (pv 7) (nomark _)) (pw_or1 (pt_cmpR (cmp_neq D_beq T.neB (rm hr) (passes_call (takes_of rfl rfl rfl rfl) fun _ _ _ _ h => h)) (pv 4) (pe_dn D_law_book (rm hr) rfl T.g_law_book (passes_call (takes_of rfl rfl rfl rfl) fun _ _ _ _ h => h) (pa_cons (pv 3) (pa_nil))) (nomark _)))))
      (pss_one (ps_ret (pe_bl)))
      (pss_nil)))))))))))))))))
      (pss_one (ps_ret (pe_bl))), ?_⟩)
  · obtain ⟨a, ns, rfl, _⟩ := h
    rfl
  · obtain ⟨a, ns, rfl, hS, hl, tb, k⟩ := h
    (purse 7012 => fail)
    refine g_lenL hS.sq ?_
    have hlen : (ns.map V.int).length ≤ 63 := by rw [List.length_map]; exact hl
    (purse 7012 => fail)
    refine g_loop (fun i σ H' => ∃ o1 o2 o3 o4 o5 o6 o7 o8 o9 o10 o11 o12 o13 o14, σ = [some (.ref a), o1, o2, o3, o4, o5, o6, o7, o8, o9, o10, o11, o12, o13, o14] ∧ SqF K H' a (ns.map V.int) ∧ Tabs (lamT K xs) H') ⟨_, _, _, _, _, _, _, _, _, _, _, _, _, _, rfl, hS, tb⟩ ?_ ?_
    case refine_2 =>
      rintro σ H' ⟨o1, o2, o3, o4, o5, o6, o7, o8, o9, o10, o11, o12, o13, o14, rfl, hF, tb'⟩
      (purse 7012 => fail)
      exact k _
    rintro i σ H0 hi ⟨o1, o2, o3, o4, o5, o6, o7, o8, o9, o10, o11, o12, o13, o14, rfl, hF, tb0⟩
    have hS' := hF.sq
    (purse 7012 => fail)
    refine ⟨a, ns, i, rfl, hS', fun sr n1 s1 H1 hsr ch1 hs1 sd1 => ?_⟩
    have v1 : Up H0 H1 := Up.of ch1
    (purse 7012 => fail)
    refine ⟨sr, n1, s1, 3, rfl, hs1, sd1, by omega, by omega, fun y1 n2 s2 H2 ch2 hs2 _ _ sd2 => ?_⟩
    have w2 : UpX sr H1 H2 := UpX.of ch2
    (purse 7012 => fail)
    refine g_meetE (fun z H' => ∃ pd p n s, z = .ref pd ∧ UpX sr H2 H' ∧ H' sr = some (.lst [.int n, .int s]) ∧ Sd n s ∧ Pd0 H' pd p ∧ p.Ok) (fun _ Qx hx => ?_) (fun _ Qx hx => ?_) ?_
    · (purse 7012 => fail)
      exact ⟨sr, n2, s2, 12, 9, rfl, by decide, by decide, by decide, by decide, hs2, sd2, fun d p n' s' H' hd w hs' sd' pd ok => hx _ _ ⟨d, p, n', s', rfl, w, hs', sd', pd, ok⟩⟩
    · (purse 7012 => fail)
      exact ⟨sr, n2, s2, rfl, hs2, sd2, fun d p n' s' H' hd w hs' sd' pd ok => hx _ _ ⟨d, p, n', s', rfl, w, hs', sd', pd, ok⟩⟩
    rintro _ H3 ⟨pd, p, n3, s3, rfl, w3, hs3, sd3, hpd3, op⟩
    have hF3 : SqF K H3 a (ns.map V.int) := SqF.upX (SqF.up hF v1) (w2.trans w3) hs1
    have tb3 : Tabs (lamT K xs) H3 := Tabs.upX (tb0.ext v1) (w2.trans w3) hs1
    (purse 7012 => fail)
    have hpd3' := hpd3
    obtain ⟨t, hd3, ht3⟩ := hpd3
    refine ⟨pd, t, p, rfl, hd3, .inl ht3, op, fun x dx dd H4 hxn hddn u4 hx4 hdd4 => ?_⟩
    have bk4 : Bs0 (ga K "Book") H4 x p := ⟨dx, dd, hx4, t, hdd4, u4 _ _ ht3⟩
    (purse 7012 => fail)
    refine ⟨rfl, fun r1 dr1 H5 hn5 c5 h5 => ?_⟩
    (purse 7012 => fail)
    refine ⟨rfl, fun r2 dr2 H6 hn6 c6 h6 => ?_⟩
    (purse 7012 => fail)
    refine ⟨9, rfl, by decide, by decide, fun r3 dr3 H7 hn7 c7 h7 => ?_⟩
    (purse 7012 => fail)
    refine g_l0 (by rfl) fun Lr hLr => ?_
    have u57 : Up H5 H7 := (Up.of c6).trans (Up.of c7)
    have u47 : Up H4 H7 := (Up.of c5).trans u57
    have u8 := Up.new (o := .lst [.ref r1, .ref r2, .ref r3]) hLr
    have hL8 : upd H7 Lr (.lst [.ref r1, .ref r2, .ref r3]) Lr = some (.lst [.ref r1, .ref r2, .ref r3]) := upd_same
    generalize upd H7 Lr (.lst [.ref r1, .ref r2, .ref r3]) = H8 at u8 hL8 ⊢
    have u38 : Up H3 H8 := u4.trans (u47.trans u8)
    have hs8 := u38 _ _ hs3
    have nLr : Lr ≠ sr := fun z => by rw [z, u47 _ _ (u4 _ _ hs3)] at hLr; cases hLr
    (purse 7012 => fail)
    refine ⟨sr, Lr, n3, s3, _, rfl, hs8, sd3, hL8, (by exact Nat.le_of_ble_eq_true rfl), (by exact Nat.le_of_ble_eq_true rfl), nLr, fun v n9 s9 H9 ch9 hs9 hv sd9 => ?_⟩
    have w9 : UpX sr H8 H9 := UpX.of ch9
    have key : ∃ (q dq : Addr) (k0 : KF.RK), v = .ref q ∧ H9 q = some (.ins (ga K "Rule") dq k0.fs) := by
      have up9 : ∀ {b : Addr} {o : HO}, H7 b = some o → (∀ ys, o ≠ .lst ys) → H9 b = some o := fun h nl => w9 _ _ (fun z => by rw [z] at h; have h2 := u8 _ _ h; rw [hs8] at h2; exact nl _ (Option.some.inj h2).symm) (u8 _ _ h)
      simp only [List.mem_cons, List.not_mem_nil, or_false] at hv
      rcases hv with rfl | rfl | rfl
      · exact ⟨_, _, .always, rfl, up9 (u57 _ _ h5) (fun _ z => nomatch z)⟩
      · exact ⟨_, _, .never, rfl, up9 ((Up.of c7) _ _ h6) (fun _ z => nomatch z)⟩
      · exact ⟨_, _, .seldom 9, rfl, up9 h7 (fun _ z => nomatch z)⟩
    obtain ⟨q, dq, k0, rfl, hq9⟩ := key
    (purse 7012 => fail)
    refine ⟨sr, q, dq, k0, n9, s9, rfl, hs9, sd9, hq9, fun L fa da d at' c1 c2 c3 n10 s10 H10 w10 hs10 sd10 hL10 hfa10 hd10 bd => ?_⟩
    have w310 : UpX sr H3 H10 := u38.toX.trans (w9.trans w10)
    have hF10 : SqF K H10 a (ns.map V.int) := SqF.upX hF3 w310 hs3
    have tb10 : Tabs (lamT K xs) H10 := Tabs.upX tb3 w310 hs3
    have hpd10 : Pd0 H10 pd p := Pd0.upX w310 hs3 hpd3'
    have w410 : UpX sr H4 H10 := (u47.trans u8).toX.trans (w9.trans w10)
    have bk10 : Bs0 (ga K "Book") H10 x p := Bs0.upX w410 (u4 _ _ hs3) bk4
    (purse 7012 => fail)
    refine g_ul2 hL10 ?_
    (purse 7012 => fail)
    refine g_kmeth hfa10 rfl ?_
    (purse 7012 => fail)
    refine ⟨fa, da, q, d, at', false, _, rfl, hfa10, hd10, fun m0 H11 hm0 ch11 hm11 => ?_⟩
    have u11 : Up H10 H11 := Up.of ch11
    (purse 7012 => fail)
    refine ⟨m0, _, rfl, .inl hm11, fun m hm => ?_⟩
    have u12 := Up.new (o := .dK (KF.mk3 c1 c2 c3)) hm
    have hm12 : upd H11 m (.dK (KF.mk3 c1 c2 c3)) m = some (.dK (KF.mk3 c1 c2 c3)) := upd_same
    generalize upd H11 m (.dK (KF.mk3 c1 c2 c3)) = H12 at u12 hm12 ⊢
    have u02 := u11.trans u12
    have S12 : S19 K xs (ga K "Book") (ga K "File") a (ns.map V.int) sr pd p x fa da q d at' c1 c2 c3 m n10 s10 H12 :=
      ⟨SqF.up hF10 u02, tb10.ext u02, u02 _ _ hs10, hpd10.up u02, bk10.up u02, u02 _ _ hfa10, u02 _ _ hd10, hm12⟩
    clear hF10 tb10 hs10 hpd10 bk10 hfa10 hd10 hm12 hm11 hm u11 u12 u02 w410 w310 hL10 w10 hq9 hs9 w9 ch9 hv hL8 u8 u38 hs8 hLr u57 u47 h5 h6 h7 c5 c6 c7 hpd3' bk4 hd3 ht3 hx4 hdd4 u4 hF3 tb3 hs3 w3 w2 ch2 hs2 hs1 v1 ch1 hn5 hn6 hn7
    obtain ⟨ba, bb, bc, bd1, be, bf, bg, bh⟩ := bd
    have op' := op
    obtain ⟨b0, b1, ll, d0, d1, g0, g1, t0, t1, p0, p1⟩ := op'
    (purse 7012 => fail)
    obtain ⟨tt, hpd, htt⟩ := S12.pd
    refine g_dg (v := .int p.b) hpd (by rfl) ?_
    (purse 7012 => fail)
    refine g_dg (v := .int p.day) hpd (by rfl) ?_
    (purse 7012 => fail)
    refine ⟨pd, m, p, c1, c2, c3, at', rfl, S12.pd, op, .inl S12.mrk, ?_⟩
    (purse 7012 => fail)
    have hmul0 : 0 ≤ (p.b + 1) * p.day := Int.mul_nonneg (by omega) (by omega)
    have hmul1 : (p.b + 1) * p.day ≤ 1000000000001 * 1000000000 := Int.mul_le_mul (by omega) (by omega) (by omega) (by decide)
    have hT : -1000 ≤ tops (mv c1 c2 c3) p.lk ∧ tops (mv c1 c2 c3) p.lk ≤ 1000 := by
      obtain ⟨_, s, hs, e⟩ := tops_spec (mv c1 c2 c3) (lk_ne op.l)
      rw [e]
      unfold mv
      split
      · exact ⟨by omega, by omega⟩
      · split <;> exact ⟨by omega, by omega⟩
    have hg0 := Int.emod_nonneg (tops (mv c1 c2 c3) p.lk) (show p.gr ≠ 0 by omega)
    have hg1 := Int.emod_lt_of_pos (tops (mv c1 c2 c3) p.lk) (show 0 < p.gr by omega)
    have hE : -10000000000 ≤ at' + (p.b + 1) * p.day - (at' - (tops (mv c1 c2 c3) p.lk - tops (mv c1 c2 c3) p.lk % p.gr)) ∧ at' + (p.b + 1) * p.day - (at' - (tops (mv c1 c2 c3) p.lk - tops (mv c1 c2 c3) p.lk % p.gr)) ≤ 10000000000000000000000 := ⟨by omega, by omega⟩
    generalize at' + (p.b + 1) * p.day - (at' - (tops (mv c1 c2 c3) p.lk - tops (mv c1 c2 c3) p.lk % p.gr)) = ed at hE ⊢
    obtain ⟨hE0, hE1⟩ := hE
    clear hmul0 hmul1 hg0 hg1
    refine g_dg (v := .int p.day) hpd (by rfl) ?_
    (purse 7012 => fail)
    refine g_l0 (by rfl) fun Lx hLx => ?_
    have u13 := Up.new (o := .lst [.int at', .int (at' + 1), .int (ed - p.day - 1), .int (ed - p.day), .int (ed - 1), .int ed, .int (ed + 1), .int (ed + 1000000)]) hLx
    have hLx13 : upd H12 Lx (.lst [.int at', .int (at' + 1), .int (ed - p.day - 1), .int (ed - p.day), .int (ed - 1), .int ed, .int (ed + 1), .int (ed + 1000000)]) Lx = some (.lst [.int at', .int (at' + 1), .int (ed - p.day - 1), .int (ed - p.day), .int (ed - 1), .int ed, .int (ed + 1), .int (ed + 1000000)]) := upd_same
    generalize upd H12 Lx (.lst [.int at', .int (at' + 1), .int (ed - p.day - 1), .int (ed - p.day), .int (ed - 1), .int ed, .int (ed + 1), .int (ed + 1000000)]) = H13 at u13 hLx13 ⊢
    have S13 := S12.up u13
    refine g_ls hLx13 ?_
    refine g_eachAll (fun σ' H' => ∃ o10 o11 o12, σ' = [some (.ref a), some (.int (i : Nat)), some (.ref sr), some (.ref pd), some (.ref x), some (.ref fa), some (.int at'), some (.ref m), some (.int ed), some (.int (ed - p.day)), o10, o11, o12, o13, o14] ∧ S19 K xs (ga K "Book") (ga K "File") a (ns.map V.int) sr pd p x fa da q d at' c1 c2 c3 m n10 s10 H' ∧ H' Lx = some (.lst [.int at', .int (at' + 1), .int (ed - p.day - 1), .int (ed - p.day), .int (ed - 1), .int ed, .int (ed + 1), .int (ed + 1000000)]))
      (fun σ' H' w => by obtain ⟨_, _, _, _, _, h⟩ := w; exact h) ?_ _ ?_ _ _ ⟨_, _, _, rfl, S13, hLx13⟩
    case refine_2 =>
      intro vv hvv σ' H' ⟨o10, o11, o12, eσ, SS, hLx'⟩ nx' hnx
      subst eσ
      obtain ⟨nn, rfl, hn0, hn1⟩ : ∃ nn, vv = .int nn ∧ -1000000000000000000000000000000 ≤ nn ∧ nn ≤ 1000000000000000000000000000000 := by
        simp only [List.mem_cons, List.not_mem_nil, or_false] at hvv
        rcases hvv with rfl | rfl | rfl | rfl | rfl | rfl | rfl | rfl <;> exact ⟨_, rfl, by omega, by omega⟩
      clear hvv
      (purse 7012 => fail)
      have hmd : ∀ Hz : Hp, Hz m = some (.dK (KF.mk3 c1 c2 c3)) → MdAt (ga K "Moment") Hz m c1 c2 c3 := fun Hz h => ⟨.int c1, .int c2, .int c3, _, h, .a, .int _, .int _, .int _, ⟨by omega, by omega⟩, ⟨by omega, by omega⟩, ⟨by omega, by omega⟩⟩
      by_cases c : at' ≤ nn
      · rw [decide_eq_true c]
        (purse 7015 => fail)
        (purse 7012 => fail)
        refine ⟨pd, m, p, c1, c2, c3, nn, false, rfl, SS.pd, op, .inl SS.mrk, ?_⟩
        (purse 7012 => fail)
        refine g_kci ?_
        (purse 7012 => fail)
        obtain ⟨dxb, ddb, hxb, _⟩ := SS.bk
        refine ⟨⟨_, _, hxb⟩, x, fa, da, q, d, p, at', nn, c1, c2, c3, false, .int nn, rfl, .int nn, SS.bk, op, SS.fl, SS.dm, hn0, hn1, fun H20 u20 => ?_⟩
        have S20 := SS.up u20
        (purse 7012 => fail)
        (purse 7016 => fail)
        (purse 7012 => fail)
        refine g_isi (.ty "bool") (.base (.bl _)) (kit_ty (b := "bool") (r := true) (by decide +kernel)) ?_
        (purse 7012 => fail)
        (purse 7016 => fail)
        (purse 7012 => fail)
        refine g_kci ?_
        (purse 7012 => fail)
        intro mo dmo hmo hdmo hne
        have v1 : Up H20 (upd (upd H20 dmo (.own mo)) mo (.ins (ga K "Moment") dmo [])) := (Up.new hdmo).trans (Up.new (by rw [upd_ne (fun z => hne z.symm)]; exact hmo))
        refine ⟨mo, dmo, nn, rfl, upd_same, hn0, hn1, fun H22 ch22 h22 => ⟨rfl, ?_⟩⟩
        have u22 : Up H20 H22 := fun b o h => by
          have nb : b ≠ mo := fun z => by rw [z, hmo] at h; cases h
          exact ch22 b o (v1 _ _ h) (by simpa using nb)
        have S22 := S20.up u22
        (purse 7012 => fail)
        refine ⟨⟨_, _, u22 _ _ (u20 _ _ hxb)⟩, x, fa, da, q, d, p, at', nn, c1, c2, c3, false, .ref mo, rfl, .mom h22, S22.bk, op, S22.fl, S22.dm, hn0, hn1, fun H23 u23 => ?_⟩
        have S23 := S22.up u23
        (purse 7012 => fail)
        (purse 7016 => fail)
        (purse 7012 => fail)
        refine ⟨x, m, .int nn, p, c1, c2, c3, nn, rfl, S23.bk, op, hmd _ S23.mrk, .int nn, ⟨hn0, hn1⟩, fun H24 u24 => ?_⟩
        have S24 := S23.up u24
        (purse 7012 => fail)
        refine ⟨pd, m, p, c1, c2, c3, nn, rfl, S24.pd, op, .inl S24.mrk, ?_⟩
        (purse 7012 => fail)
        obtain ⟨tt4, hpd4, htt4⟩ := S24.pd
        refine g_dg (v := .int p.day) hpd4 (by rfl) ?_
        (purse 7012 => fail)
        (purse 7016 => fail)
        (purse 7012 => fail)
        refine ⟨fa, x, da, q, d, p, at', nn, c1, c2, c3, rfl, S24.tb, S24.bk, op, S24.fl, S24.dm, ⟨hn0, hn1⟩, fun H26 e26 t26 => ?_⟩
        have S26 := S24.ext e26 t26
        have hLx26 := e26 _ _ (u24 _ _ (u23 _ _ (u22 _ _ (u20 _ _ hLx')))) (fun _ z => nomatch z)
        obtain ⟨tt6, hpd6, htt6⟩ := S26.pd
        rw [del_held]
        (purse 7012 => fail)
        generalize del p c1 c2 c3 false nn = D
        cases D with
        | true =>
          (purse 7015 => fail)
          (purse 7012 => fail)
          refine g_dg (v := .bl p.sp) hpd6 (by rfl) ?_
          (purse 7012 => fail)
          rw [show (!decide ((true && !p.sp) = !p.sp)) = false by cases p.sp <;> rfl]
          (purse 7016 => fail)
          (purse 7012 => fail)
          exact hnx _ _ ⟨_, _, _, rfl, S26, hLx26⟩
        | false =>
          (purse 7016 => fail)
          refine g_neB ?_
          (purse 7012 => fail)
          (purse 7016 => fail)
          (purse 7012 => fail)
          exact hnx _ _ ⟨_, _, _, rfl, S26, hLx26⟩
      · rw [decide_eq_false c]
        (purse 7016 => fail)
        (purse 7012 => fail)
        exact hnx _ _ ⟨_, _, _, rfl, SS, hLx'⟩
    rintro σ' H' ⟨o10, o11, o12, rfl, SS, hLx'⟩
    (purse 7012 => fail)
    refine ⟨sr, n10, s10, 100, rfl, SS.sr, sd10, by omega, by omega, fun ye n30 s30 H30 ch30 hs30 ye0 ye1 sd30 => ?_⟩
    have S30 := SS.upX (UpX.of ch30) hs30
    have hmd : ∀ Hz : Hp, Hz m = some (.dK (KF.mk3 c1 c2 c3)) → MdAt (ga K "Moment") Hz m c1 c2 c3 := fun Hz h => ⟨.int c1, .int c2, .int c3, _, h, .a, .int _, .int _, .int _, ⟨by omega, by omega⟩, ⟨by omega, by omega⟩, ⟨by omega, by omega⟩⟩
    (purse 7012 => fail)
    refine ⟨x, m, .int (at' - ye), p, c1, c2, c3, at' - ye, rfl, S30.bk, op, hmd _ S30.mrk, .int _, ⟨by omega, by omega⟩, fun H31 u31 => ?_⟩
    have S31 := S30.up u31
    (purse 7012 => fail)
    refine ⟨pd, m, p, c1, c2, c3, at' - ye, rfl, S31.pd, op, .inl S31.mrk, ?_⟩
    (purse 7012 => fail)
    obtain ⟨tt1, hpd1, htt1⟩ := S31.pd
    refine g_dg (v := .int p.day) hpd1 (by rfl) ?_
    (purse 7012 => fail)
    (purse 7016 => fail)
    (purse 7012 => fail)
    refine fun td htd => ?_
    have u32 := Up.new (o := .dK []) htd
    have htd2 : upd H31 td (.dK []) td = some (.dK []) := upd_same
    generalize upd H31 td (.dK []) = H32 at u32 htd2 ⊢
    have S32 := S31.up u32
    (purse 7012 => fail)
    refine g_dg (v := .int c3) S32.mrk (by rfl) ?_
    (purse 7012 => fail)
    intro mo dmo hmo hdmo hne
    have v1 : Up H32 (upd (upd H32 dmo (.own mo)) mo (.ins (ga K "Moment") dmo [])) := (Up.new hdmo).trans (Up.new (by rw [upd_ne (fun z => hne z.symm)]; exact hmo))
    refine ⟨mo, dmo, c3, rfl, upd_same, by omega, by omega, fun H33 ch33 h33 => ⟨rfl, ?_⟩⟩
    have u33 : Up H32 H33 := fun b o h => by
      have nb : b ≠ mo := fun z => by rw [z, hmo] at h; cases h
      exact ch33 b o (v1 _ _ h) (by simpa using nb)
    have S33 := S32.up u33
    (purse 7012 => fail)
    refine g_dg (v := .int c1) S33.mrk (by rfl) ?_
    (purse 7012 => fail)
    refine g_dg (v := .int c2) S33.mrk (by rfl) ?_
    (purse 7012 => fail)
    have htd3 := u33 _ _ htd2
    have nmt : mo ≠ td := fun z => by rw [z, htd3] at h33; cases h33
    refine ⟨htd3, [(.inr "changed", .ref mo), (.inr "read", .int c1), (.inr "written", .int c2)], rfl, by exact Nat.le_of_ble_eq_true rfl, ?_⟩
    rw [show mergeK [] [((.inr "changed", .ref mo) : Key × V), (.inr "read", .int c1), (.inr "written", .int c2)] = [(.inr "changed", .ref mo), (.inr "read", .int c1), (.inr "written", .int c2)] from rfl]
    have u34 : Up H31 (upd H33 td (.dK [(.inr "changed", .ref mo), (.inr "read", .int c1), (.inr "written", .int c2)])) := Up.setF (u32.trans u33) htd
    have htd4 : upd H33 td (.dK [(.inr "changed", .ref mo), (.inr "read", .int c1), (.inr "written", .int c2)]) td = some (.dK [(.inr "changed", .ref mo), (.inr "read", .int c1), (.inr "written", .int c2)]) := upd_same
    have hmo4 : upd H33 td (.dK [(.inr "changed", .ref mo), (.inr "read", .int c1), (.inr "written", .int c2)]) mo = some (.ins (ga K "Moment") dmo (KF.mo c3)) := by rw [upd_ne nmt]; exact h33
    generalize upd H33 td (.dK [(.inr "changed", .ref mo), (.inr "read", .int c1), (.inr "written", .int c2)]) = H34 at u34 htd4 hmo4 ⊢
    have S34 := S31.up u34
    clear S33 S32 htd3 htd2 u32 u33 htd h33 v1 ch33
    (purse 7012 => fail)
    intro m2 dm2 hm2 hdm2 hne2
    have v2 : Up H34 (upd (upd H34 dm2 (.own m2)) m2 (.ins (ga K "Moment") dm2 [])) := (Up.new hdm2).trans (Up.new (by rw [upd_ne (fun z => hne2.symm z)]; exact hm2))
    refine ⟨m2, dm2, at' - ye, rfl, upd_same, by omega, by omega, fun H35 ch35 h35 => ⟨rfl, ?_⟩⟩
    have u35 : Up H34 H35 := fun b o h => by
      have nb : b ≠ m2 := fun z => by rw [z, hm2] at h; cases h
      exact ch35 b o (v2 _ _ h) (by simpa using nb)
    have S35 := S34.up u35
    (purse 7012 => fail)
    refine ⟨x, td, .ref m2, p, c1, c2, c3, at' - ye, rfl, S35.bk, op, ⟨.int c1, .int c2, .ref mo, _, u35 _ _ htd4, .b, .int _, .int _, .mom (u35 _ _ hmo4), ⟨by omega, by omega⟩, ⟨by omega, by omega⟩, ⟨by omega, by omega⟩⟩, .mom h35, ⟨by omega, by omega⟩, fun H36 u36 => ?_⟩
    have S36 := S35.up u36
    (purse 7012 => fail)
    refine ⟨pd, m, p, c1, c2, c3, at' - ye, rfl, S36.pd, op, .inl S36.mrk, ?_⟩
    (purse 7012 => fail)
    obtain ⟨tt2, hpd2, htt2⟩ := S36.pd
    refine g_dg (v := .int p.day) hpd2 (by rfl) ?_
    (purse 7012 => fail)
    (purse 7016 => fail)
    (purse 7012 => fail)
    refine g_kmeth S36.fl rfl ?_
    (purse 7012 => fail)
    refine ⟨fa, da, q, d, at', false, _, rfl, S36.fl, S36.dm, fun m5 H37 hm5 ch37 hm37 => ?_⟩
    have u37 : Up H36 H37 := Up.of ch37
    have S37 := S36.up u37
    (purse 7012 => fail)
    refine g_ne3 hm37 S37.mrk (same3 rfl rfl rfl) ?_
    (purse 7012 => fail)
    (purse 7016 => fail)
    (purse 7012 => fail)
    refine ⟨pd, tt2, p, rfl, u37 _ _ hpd2, .inl (u37 _ _ htt2), op, fun y dy e H38 hyn hen u38 hy38 he38 => ?_⟩
    have S38 := S37.up u38
    obtain ⟨dxb, ddb, hxb, tb8, hdb, htb⟩ := S38.bk
    refine g_neq hxb (.ins hy38) T.nf ?_
    refine ⟨x, y, dxb, ddb, rfl, hxb, .inl ⟨dy, e, tb8, tt2, p, p, hy38, hdb, he38, .inl htb, .inl (u38 _ _ (u37 _ _ htt2)), op.l, op.l, ?_⟩⟩
    rw [e9_self]
    (purse 7012 => fail)
    (purse 7016 => fail)
    (purse 7012 => fail)
    exact ⟨_, _, _, _, _, _, _, _, _, _, _, _, _, _, rfl, S38.sf, S38.tb⟩
end

end K1
namespace K1
open PySem PySem.Spec PyProof.Rows L2 AF LamX
local macro_rules | `(tactic| purse 7003 => fail) => `(tactic| k_dflt (refine Sh.has_ (by assumption) ?_; repeat (first | exact On.here | apply On.next)))
local macro_rules | `(tactic| purse 7004 => fail) => `(tactic| k_dflt (repeat (first | exact On.here | apply On.next)))
local macro_rules | `(tactic| purse 7005 => fail) => `(tactic| (repeat (first | exact Rep.here | apply Rep.next)))
local macro_rules | `(tactic| purse 7006 => fail) => `(tactic| (exact Sh.out (by assumption) (fun b h => by simp [h])))
local macro_rules | `(tactic| purse 7007 => fail) => `(tactic| k_dflt (first | ((with_reducible refine cdivw ?_ ?_) <;> omega) | ((with_reducible show CDiv _ _); constructor <;> omega) | ((with_reducible show CMul _ _); (first | (left; constructor <;> omega) | (right; constructor <;> omega))) | (show (0 : Int) < _; omega)))
local macro_rules | `(tactic| purse 7008 => fail) => `(tactic| first | exact Kd.int _ | exact Kd.bl _ | exact Kd.non | exact Kd.str _ | exact Kd.ins (by (purse 7003 => fail)) | exact Kd.lst (by (purse 7003 => fail)) | exact Kd.tup (by (purse 7003 => fail)))
local macro_rules | `(tactic| purse 7009 => fail) => `(tactic| first | exact DpAll.nil | (apply DpAll.cons; (purse 7010 => fail); (purse 7009 => fail)))
local macro_rules | `(tactic| purse 7010 => fail) => `(tactic| first | exact Dp.int _ | exact Dp.bl _ | exact Dp.non | exact Dp.str _ | (refine dp_int ?_; omega) | (refine dp_bl ?_; simp only [decide_eq_decide]; omega) | (apply dp_lst; (purse 7003 => fail); (purse 7009 => fail)) | (apply dp_tup; (purse 7003 => fail); (purse 7009 => fail)))
local macro_rules | `(tactic| purse 7011 => fail) => `(tactic| first | assumption | omega)
local macro_rules | `(tactic| purse 7001 => fail) => `(tactic| fail "no use")
local macro_rules | `(tactic| purse 7002 => fail) => `(tactic| first
  | (with_reducible refine set_go ?_)
  | (with_reducible refine Step.go ?_)
  | (with_reducible first | refine g_pow10_6 ?_ | refine g_pow10_7 ?_ | refine g_pow10_18 ?_ | refine g_pow10_29 ?_ | refine g_pow10_30 ?_)
  | ((with_reducible refine' g_I ?a0 ?_); (case a0 => (purse 7007 => fail)))
  | ((with_reducible refine' g_ixL ?a0 ?a1 ?_); (case a0 => (purse 7003 => fail)); (case a1 => k_dflt (exact rfl)))
  | ((with_reducible refine' g_kfld ?a0 ?a1 ?a2 ?a3 ?_); (case a0 => (purse 7003 => fail)); (case a1 => k_dflt (assumption)); (case a2 => k_dflt (assumption)); (case a3 => k_dflt (exact rfl)))
  | ((with_reducible refine' g_kprop ?a0 ?_); (case a0 => (purse 7003 => fail)))
  | ((with_reducible refine' g_kmeth ?a0 ?a1 ?_); (case a0 => (purse 7003 => fail)); (case a1 => k_dflt (exact rfl)))
  | ((with_reducible refine' g_own ?a0 ?a1 ?a2 ?_); (case a0 => (purse 7003 => fail)); (case a1 => (purse 7008 => fail)); (case a2 => k_dflt (assumption)))
  | ((with_reducible refine' g_cmp ?a0 ?a1 ?a2 ?_); (case a0 => (purse 7003 => fail)); (case a1 => (purse 7008 => fail)); (case a2 => k_dflt (assumption)))
  | ((with_reducible refine' g_neq ?a0 ?a1 ?a2 ?_); (case a0 => (purse 7003 => fail)); (case a1 => (purse 7008 => fail)); (case a2 => k_dflt (assumption)))
  | ((with_reducible refine' g_right ?a0 ?_); (case a0 => (purse 7003 => fail)))
  | ((with_reducible refine' use_draw ?a0 ?a1 ?a2 ?a3 ?a4 ?_); (case a0 => assumption); (case a1 => intro _ _; (purse 7005 => fail)); (case a2 => assumption); (case a3 => (purse 7011 => fail)); (case a4 => (purse 7011 => fail)); intro _ _ _ _ _ _ _ _)
  | ((with_reducible refine' use_giveI ?a0 ?a1 ?a2 ?_); (case a0 => assumption); (case a1 => intro _ _; (purse 7005 => fail)); (case a2 => assumption); intro _ _ _ _ _ _ _ _)
  | ((with_reducible refine' use_source ?a0 ?a1 ?_); (case a0 => assumption); (case a1 => k_dflt (assumption)); intro _ _ _ _ _ _)
  | (with_reducible refine g_absN ?_; intro _ _)
  | (with_reducible refine g_maxN ?_; intro _ _ _ _)
  | (with_reducible refine g_minN ?_; intro _ _ _ _)
  | ((with_reducible refine' g_kR1 ?a0 ?a1 ?_); (case a0 => omega); (case a1 => omega))
  | ((with_reducible refine' g_neD ?a0 ?a1 ?a2 ?_); (case a0 => (purse 7010 => fail)); (case a1 => (purse 7010 => fail)); (case a2 => k_dflt (rfl)))
  | ((with_reducible refine' g_eqD ?a0 ?a1 ?a2 ?_); (case a0 => (purse 7010 => fail)); (case a1 => (purse 7010 => fail)); (case a2 => k_dflt (rfl)))
  | ((with_reducible refine' g_klst ?a0 ?a1 ?_); (case a0 => assumption); (case a1 => k_dflt (exact rfl)); intro _ _ _ _)
  | ((with_reducible refine' g_ktup ?a0 ?a1 ?_); (case a0 => assumption); (case a1 => k_dflt (exact rfl)); intro _ _ _ _)
  | ((with_reducible refine' g_setL ?a0 ?a1 ?a2 ?_); (case a0 => assumption); (case a1 => (purse 7005 => fail)); (case a2 => k_dflt (exact rfl)); intro _ _)
  | ((with_reducible refine' g_unl3 ?a0 ?_); (case a0 => (purse 7003 => fail)))
  | (purse 7001 => fail))
local macro_rules | `(tactic| purse 7012 => fail) => `(tactic| ((try (with_reducible refine start_go ?_)); repeat (purse 7002 => fail)))
local macro_rules | `(tactic| purse 7013 => fail) => `(tactic| first | rfl | (refine decide_eq_true ?_; omega) | (simp only [Bool.not_eq_true', Bool.not_eq_false', decide_eq_false_iff_not, decide_eq_true_eq, Bool.not_not, decide_eq_decide]; done) | (simp only [Bool.not_eq_true', Bool.not_eq_false', decide_eq_false_iff_not, decide_eq_true_eq, Bool.not_not, decide_eq_decide]; omega))
local macro_rules | `(tactic| purse 7014 => fail) => `(tactic| first | rfl | (refine decide_eq_false ?_; omega) | (simp only [Bool.not_eq_true', Bool.not_eq_false', decide_eq_false_iff_not, decide_eq_true_eq, Bool.not_not, decide_eq_decide]; done) | (simp only [Bool.not_eq_true', Bool.not_eq_false', decide_eq_false_iff_not, decide_eq_true_eq, Bool.not_not, decide_eq_decide]; omega))
local macro_rules | `(tactic| purse 7015 => fail) => `(tactic| ((refine g_yes ?h ?_); (case h => (purse 7013 => fail))))
local macro_rules | `(tactic| purse 7016 => fail) => `(tactic| ((refine g_no ?h ?_); (case h => (purse 7014 => fail))))
local macro_rules | `(tactic| purse 7017 => fail) => `(tactic| first | (purse 7015 => fail) | (purse 7016 => fail))
local macro_rules | `(tactic| purse 7018 => fail) => `(tactic| repeat ((purse 7012 => fail); (purse 7017 => fail)))
local macro_rules | `(tactic| purse 7019 => fail) => `(tactic| repeat (first | exact intIn_nil | refine intIn_cons (by omega) (by omega) ?_))
local macro_rules | `(tactic| purse 7020 => fail) => `(tactic| (simp only [List.length_cons, List.length_nil]; omega))
local macro_rules | `(tactic| purse 7021 => fail) => `(tactic| (refine g_two (fun c => ?_) (fun c => ?_) <;> first | (have c := of_decide_eq_true c) | (have c := of_decide_eq_false c) | skip))
local macro_rules | `(tactic| purse 7022 => fail) => `(tactic| ((purse 7018 => fail); (purse 7012 => fail); try ((purse 7021 => fail) <;> (purse 7022 => fail))))

section
open He
theorem all_ok {P : Program} {w : World} {K : PySem.W.Frag} {h : Heap} {mg : Str → Option Value} {f : Addr} (X : K.In h) (G : h.Ns mainGlobals mg) (hfa : mg ("law" : Str) = some (.ref f)) (c : TellsT hfacts hdefs htabs w K) (hb : ∀ x ∈ lams, lawB K x = true) :
    ∃ fd : FuncData, (∀ (s : Shared) (v : Value), BindsTo s fd ⟨[v], []⟩ [("script", v)]) ∧ ∀ base : Heap, K.In base → base.Ns mainGlobals mg → (∀ p ∈ lamC K lams, TabB base mg p.1 p.2) → FnG P w K mg base (L2.CX P w) 22 f fd ["script"] (spLaw K lams) := by
  have nw1 := nowB_ok (c.d.fact 10 (b := nowB K (ga K "SET_NOW") "make" ["read", "written", "changed"]) rfl)
  have nw2 := nowB_ok (c.d.fact 11 (b := nowB K (ga K "SET_NOW") "read" []) rfl)
  have nw3 := nowB_ok (c.d.fact 12 (b := nowB K (ga K "SET_NOW") "write" ["written", "changed"]) rfl)
  have nw4 := nowB_ok (c.d.fact 13 (b := nowB K (ga K "SET_NOW") "rename" ["changed"]) rfl)
  have nw5 := nowB_ok (c.d.fact 14 (b := nowB K (ga K "SET_NOW") "touch" ["read", "written", "changed"]) rfl)
  have nw6 := nowB_ok (c.d.fact 15 (b := nowB K (ga K "SET_NOW") "unpack" ["read", "changed"]) rfl)
  have nw7 := nowB_ok (c.d.fact 16 (b := nowB K (ga K "SET_NOW") "setback" ["changed"]) rfl)
  have bk1 := nowB_ok (c.d.fact 17 (b := nowB K (ga K "SET_BACK") "unpack" ["written"]) rfl)
  have bk2 := nowB_ok (c.d.fact 18 (b := nowB K (ga K "SET_BACK") "setback" ["read", "written"]) rfl)
  have tm : KF.TM K mg := {
    g_Moment := glo_ok X G (c.d.fact 27 (b := (Fa.glo "Moment").ok K) rfl),
    g_is_whole := glo_ok X G (c.d.fact 0 (b := (Fa.glo "is_whole").ok K) rfl),
    g_is_moment := glo_ok X G (c.d.fact 28 (b := (Fa.glo "is_moment").ok K) rfl),
    g_number_of := glo_ok X G (c.d.fact 55 (b := (Fa.glo "number_of").ok K) rfl),
    z_isinstance := free_ok X G (c.d.fact 4 (b := (Fa.free "isinstance").ok K) rfl),
    z_int := free_ok X G (c.d.fact 6 (b := (Fa.free "int").ok K) rfl),
    z_bool := free_ok X G (c.d.fact 7 (b := (Fa.free "bool").ok K) rfl),
    cl := cls_ok (c.d.fact 45 (b := (Fa.cls "Moment").ok K) rfl),
    nN := noat_ok (c.d.fact 47 (b := (Fa.noat "Moment" "number").ok K) rfl),
    ic := insB_ok (cls_ok (c.d.fact 45 (b := (Fa.cls "Moment").ok K) rfl)) (c.d.fact 46 (b := insB K (ga K "Moment")) rfl),
    ki := of_decide_eq_true (c.d.fact 44 (b := decide (PySem.W.kitOne K (.type "int") (.ref (ga K "Moment")) = some false)) rfl),
    ba := binB_ok (c.d.fact 56 (b := binB K .Add (ga K "Moment") (ma K (ga K "Moment") "__add__")) rfl),
    bi := binTB_ok (c.d.fact 57 (b := binTB K .Add (ga K "Moment") "int") rfl) }
  have tr : KF.TR K w mg := {
    g_Rule := glo_ok X G (c.d.fact 30 (b := (Fa.glo "Rule").ok K) rfl),
    g_is_whole := glo_ok X G (c.d.fact 0 (b := (Fa.glo "is_whole").ok K) rfl),
    cl := cls_ok (c.d.fact 38 (b := (Fa.cls "Rule").ok K) rfl),
    nC := noat_ok (c.d.fact 40 (b := (Fa.noat "Rule" "chosen").ok K) rfl),
    nW := noat_ok (c.d.fact 41 (b := (Fa.noat "Rule" "wait").ok K) rfl) }
  have TF : KF.TFL K w mg := {
    g_is_whole := glo_ok X G (c.d.fact 0 (b := (Fa.glo "is_whole").ok K) rfl),
    g_is_time := glo_ok X G (c.d.fact 1 (b := (Fa.glo "is_time").ok K) rfl),
    g_is_deed := glo_ok X G (c.d.fact 2 (b := (Fa.glo "is_deed").ok K) rfl),
    g_makes := glo_ok X G (c.d.fact 3 (b := (Fa.glo "makes").ok K) rfl),
    z_isinstance := free_ok X G (c.d.fact 4 (b := (Fa.free "isinstance").ok K) rfl),
    z_len := free_ok X G (c.d.fact 5 (b := (Fa.free "len").ok K) rfl),
    z_int := free_ok X G (c.d.fact 6 (b := (Fa.free "int").ok K) rfl),
    z_bool := free_ok X G (c.d.fact 7 (b := (Fa.free "bool").ok K) rfl),
    z_tuple := free_ok X G (c.d.fact 8 (b := (Fa.free "tuple").ok K) rfl),
    z_str := free_ok X G (c.d.fact 9 (b := (Fa.free "str").ok K) rfl),
    v_MARKS := ⟨_, glo_ok X G (c.d.fact 19 (b := (Fa.glo "MARKS").ok K) rfl), rfl⟩,
    marks := ktB_ok (c.d.fact 20 (b := ktB K (ga K "MARKS") ["read", "written", "changed"]) rfl),
    n_make := nw1,
    n_read := nw2,
    n_write := nw3,
    n_rename := nw4,
    n_touch := nw5,
    n_unpack := nw6,
    n_setback := nw7,
    b_unpack := bk1,
    b_setback := bk2,
    v_SET_NOW := ⟨_, glo_ok X G (c.d.fact 21 (b := (Fa.glo "SET_NOW").ok K) rfl), rfl⟩,
    v_SET_BACK := ⟨_, glo_ok X G (c.d.fact 22 (b := (Fa.glo "SET_BACK").ok K) rfl), rfl⟩,
    dn := c.tab 0,
    db := c.tab 1,
    now0 := fun x hx => by
      simp only [List.mem_cons, List.not_mem_nil, or_false] at hx
      rcases hx with rfl | rfl | rfl | rfl | rfl
      · exact now_some nw1
      · exact now_some nw2
      · exact now_some nw3
      · exact now_some nw4
      · exact now_some nw5,
    now1 := fun x hx => by
      simp only [List.mem_cons, List.not_mem_nil, or_false] at hx
      rcases hx with rfl | rfl
      · exact now_some nw6
      · exact now_some nw7,
    back1 := fun x hx => by
      simp only [List.mem_cons, List.not_mem_nil, or_false] at hx
      rcases hx with rfl | rfl
      · exact now_some bk1
      · exact now_some bk2,
    back0 := fun x hx => eqO_ok (List.all_eq_true.mp (c.d.fact 23 (b := (["make", "read", "write", "rename", "touch"] : List Str).all fun x => eqO (PySem.W.nsIn K (ga K "SET_BACK") x) (some none)) rfl) x hx),
    g_File := glo_ok X G (c.d.fact 25 (b := (Fa.glo "File").ok K) rfl),
    g_AnyFile := glo_ok X G (c.d.fact 26 (b := (Fa.glo "AnyFile").ok K) rfl),
    g_Moment := glo_ok X G (c.d.fact 27 (b := (Fa.glo "Moment").ok K) rfl),
    g_is_moment := glo_ok X G (c.d.fact 28 (b := (Fa.glo "is_moment").ok K) rfl),
    g_seconds_of := glo_ok X G (c.d.fact 29 (b := (Fa.glo "seconds_of").ok K) rfl),
    g_Rule := glo_ok X G (c.d.fact 30 (b := (Fa.glo "Rule").ok K) rfl),
    g_backs := glo_ok X G (c.d.fact 31 (b := (Fa.glo "backs").ok K) rfl),
    g_is_looks := glo_ok X G (c.d.fact 32 (b := (Fa.glo "is_looks").ok K) rfl),
    z_dict := free_ok X G (c.d.fact 33 (b := (Fa.free "dict").ok K) rfl),
    z_list := free_ok X G (c.d.fact 34 (b := (Fa.free "list").ok K) rfl),
    z_max := free_ok X G (c.d.fact 35 (b := (Fa.free "max").ok K) rfl),
    z_all := free_ok X G (c.d.fact 36 (b := (Fa.free "all").ok K) rfl),
    cl := cls_ok (c.d.fact 37 (b := (Fa.cls "File").ok K) rfl),
    rcl := cls_ok (c.d.fact 38 (b := (Fa.cls "Rule").ok K) rfl),
    nN := noat_ok (c.d.fact 39 (b := (Fa.noat "File" "noted").ok K) rfl),
    nC := noat_ok (c.d.fact 40 (b := (Fa.noat "Rule" "chosen").ok K) rfl),
    nW := noat_ok (c.d.fact 41 (b := (Fa.noat "Rule" "wait").ok K) rfl),
    ic := insB_ok (cls_ok (c.d.fact 37 (b := (Fa.cls "File").ok K) rfl)) (c.d.fact 42 (b := insB K (ga K "File")) rfl),
    kF := of_decide_eq_true (c.d.fact 43 (b := decide (PySem.W.kitOne K (.ref (ga K "File")) (.ref (ga K "AnyFile")) = some true)) rfl),
    ki := of_decide_eq_true (c.d.fact 44 (b := decide (PySem.W.kitOne K (.type "int") (.ref (ga K "Moment")) = some false)) rfl),
    icM := insB_ok (cls_ok (c.d.fact 45 (b := (Fa.cls "Moment").ok K) rfl)) (c.d.fact 46 (b := insB K (ga K "Moment")) rfl),
    mnN := noat_ok (c.d.fact 47 (b := (Fa.noat "Moment" "number").ok K) rfl),
    nR := noat_ok (c.d.fact 48 (b := (Fa.noat "File" "ruling").ok K) rfl),
    nD := noat_ok (c.d.fact 49 (b := (Fa.noat "File" "done_at").ok K) rfl),
    nH := noat_ok (c.d.fact 50 (b := (Fa.noat "File" "holding").ok K) rfl),
    ci := ciB_ok (c.d.fact 51 (b := ciB K (ga K "Rule") (ma K (ga K "Rule") "__call__")) rfl),
    icR := insB_ok (cls_ok (c.d.fact 38 (b := (Fa.cls "Rule").ok K) rfl)) (c.d.fact 52 (b := insB K (ga K "Rule")) rfl),
    ceR := cmpB_ok (c.d.fact 53 (b := cmpB K .Eq (ga K "Rule") (ma K (ga K "Rule") "__eq__")) rfl),
    nfR := (c.d.fact 54 (b := PySem.W.notFirst K (ga K "Rule") (.ref (ga K "Rule"))) rfl) }
  have T : TU19 K w mg := {
    g_is_whole := glo_ok X G (c.d.fact 0 (b := (Fa.glo "is_whole").ok K) rfl),
    g_is_count := glo_ok X G (c.d.fact 58 (b := (Fa.glo "is_count").ok K) rfl),
    g_is_time := glo_ok X G (c.d.fact 1 (b := (Fa.glo "is_time").ok K) rfl),
    g_is_looks := glo_ok X G (c.d.fact 32 (b := (Fa.glo "is_looks").ok K) rfl),
    g_is_part := glo_ok X G (c.d.fact 59 (b := (Fa.glo "is_part").ok K) rfl),
    g_is_worth := glo_ok X G (c.d.fact 60 (b := (Fa.glo "is_worth").ok K) rfl),
    g_check_part := glo_ok X G (c.d.fact 61 (b := (Fa.glo "check_part").ok K) rfl),
    g_check_book := glo_ok X G (c.d.fact 62 (b := (Fa.glo "check_book").ok K) rfl),
    g_Book := glo_ok X G (c.d.fact 63 (b := (Fa.glo "Book").ok K) rfl),
    g_File := glo_ok X G (c.d.fact 25 (b := (Fa.glo "File").ok K) rfl),
    g_Rule := glo_ok X G (c.d.fact 30 (b := (Fa.glo "Rule").ok K) rfl),
    g_Moment := glo_ok X G (c.d.fact 27 (b := (Fa.glo "Moment").ok K) rfl),
    g_Hold := glo_ok X G (c.d.fact 64 (b := (Fa.glo "Hold").ok K) rfl),
    g_seconds_of := glo_ok X G (c.d.fact 29 (b := (Fa.glo "seconds_of").ok K) rfl),
    g_is_moment := glo_ok X G (c.d.fact 28 (b := (Fa.glo "is_moment").ok K) rfl),
    g_is_point := glo_ok X G (c.d.fact 65 (b := (Fa.glo "is_point").ok K) rfl),
    g_is_dict_of_marks := glo_ok X G (c.d.fact 66 (b := (Fa.glo "is_dict_of_marks").ok K) rfl),
    g_seen_age := glo_ok X G (c.d.fact 67 (b := (Fa.glo "seen_age").ok K) rfl),
    g_law_source := glo_ok X G (c.d.fact 68 (b := (Fa.glo "_law_source").ok K) rfl),
    g_law_draw := glo_ok X G (c.d.fact 69 (b := (Fa.glo "_law_draw").ok K) rfl),
    g_law_pick := glo_ok X G (c.d.fact 70 (b := (Fa.glo "_law_pick").ok K) rfl),
    g_law_looks := glo_ok X G (c.d.fact 71 (b := (Fa.glo "_law_looks").ok K) rfl),
    g_law_parts := glo_ok X G (c.d.fact 72 (b := (Fa.glo "_law_parts").ok K) rfl),
    g_law_wide := glo_ok X G (c.d.fact 73 (b := (Fa.glo "_law_wide").ok K) rfl),
    g_law_book := glo_ok X G (c.d.fact 74 (b := (Fa.glo "_law_book").ok K) rfl),
    g_law_old := glo_ok X G (c.d.fact 75 (b := (Fa.glo "_law_old").ok K) rfl),
    g_law_deletes := glo_ok X G (c.d.fact 76 (b := (Fa.glo "_law_deletes").ok K) rfl),
    g_law_file := glo_ok X G (c.d.fact 77 (b := (Fa.glo "_law_file").ok K) rfl),
    g_law_held := glo_ok X G (c.d.fact 78 (b := (Fa.glo "_law_held").ok K) rfl),
    z_isinstance := free_ok X G (c.d.fact 4 (b := (Fa.free "isinstance").ok K) rfl),
    z_int := free_ok X G (c.d.fact 6 (b := (Fa.free "int").ok K) rfl),
    z_bool := free_ok X G (c.d.fact 7 (b := (Fa.free "bool").ok K) rfl),
    z_str := free_ok X G (c.d.fact 9 (b := (Fa.free "str").ok K) rfl),
    z_tuple := free_ok X G (c.d.fact 8 (b := (Fa.free "tuple").ok K) rfl),
    z_len := free_ok X G (c.d.fact 5 (b := (Fa.free "len").ok K) rfl),
    z_list := free_ok X G (c.d.fact 34 (b := (Fa.free "list").ok K) rfl),
    z_all := free_ok X G (c.d.fact 36 (b := (Fa.free "all").ok K) rfl),
    z_max := free_ok X G (c.d.fact 35 (b := (Fa.free "max").ok K) rfl),
    z_abs := free_ok X G (c.d.fact 79 (b := (Fa.free "abs").ok K) rfl),
    z_min := free_ok X G (c.d.fact 80 (b := (Fa.free "min").ok K) rfl),
    z_range := free_ok X G (c.d.fact 81 (b := (Fa.free "range").ok K) rfl),
    z_dict := free_ok X G (c.d.fact 33 (b := (Fa.free "dict").ok K) rfl),
    v_MARKS := ⟨_, glo_ok X G (c.d.fact 19 (b := (Fa.glo "MARKS").ok K) rfl), rfl⟩,
    marks := ktB_ok (c.d.fact 20 (b := ktB K (ga K "MARKS") ["read", "written", "changed"]) rfl),
    v_PARTS := ⟨_, glo_ok X G (c.d.fact 86 (b := (Fa.glo "PARTS").ok K) rfl), rfl⟩,
    parts := ktB_ok (c.d.fact 87 (b := ktB K (ga K "PARTS") ["bound", "looks", "how", "day", "grain", "spares", "late", "again", "period"]) rfl),
    cl := cls_ok (c.d.fact 88 (b := (Fa.cls "Book").ok K) rfl),
    nT := noat_ok (c.d.fact 89 (b := (Fa.noat "Book" "told_parts").ok K) rfl),
    ic := insB_ok (cls_ok (c.d.fact 88 (b := (Fa.cls "Book").ok K) rfl)) (c.d.fact 90 (b := insB K (ga K "Book")) rfl),
    ceq := cmpB_ok (c.d.fact 91 (b := cmpB K .Eq (ga K "Book") (ma K (ga K "Book") "__eq__")) rfl),
    nf := (c.d.fact 92 (b := PySem.W.notFirst K (ga K "Book") (.ref (ga K "Book"))) rfl),
    nfd := (c.d.fact 93 (b := PySem.W.notFirst K (ga K "Book") (.type "dict")) rfl),
    nid := of_decide_eq_true (c.d.fact 94 (b := decide (PySem.W.kitOne K (.type "dict") (.ref (ga K "Book")) = some false)) rfl),
    sm_always := smB_ok (c.d.fact 95 (b := smB K (ga K "Rule") "always" (ma K (ga K "Rule") "always") (He5.wf K (ga K "Rule") "staticmethod" "always")) rfl),
    sm_never := smB_ok (c.d.fact 96 (b := smB K (ga K "Rule") "never" (ma K (ga K "Rule") "never") (He5.wf K (ga K "Rule") "staticmethod" "never")) rfl),
    sm_seldom := smB_ok (c.d.fact 97 (b := smB K (ga K "Rule") "seldom" (ma K (ga K "Rule") "seldom") (He5.wf K (ga K "Rule") "staticmethod" "seldom")) rfl),
    cib := ciB_ok (c.d.fact 98 (b := ciB K (ga K "Book") (ma K (ga K "Book") "__call__")) rfl),
    neB := neB_ok (c.d.fact 99 (b := neB K (ga K "Book") (ma K (ga K "Book") "__eq__")) rfl),
    icM := insB_ok (cls_ok (c.d.fact 45 (b := (Fa.cls "Moment").ok K) rfl)) (c.d.fact 46 (b := insB K (ga K "Moment")) rfl),
    icF := insB_ok (cls_ok (c.d.fact 37 (b := (Fa.cls "File").ok K) rfl)) (c.d.fact 42 (b := insB K (ga K "File")) rfl),
    ki := of_decide_eq_true (c.d.fact 44 (b := decide (PySem.W.kitOne K (.type "int") (.ref (ga K "Moment")) = some false)) rfl),
    wc := ⟨of_decide_eq_true (c.d.fact 82 (b := decide (PySem.W.findIn K (.ref (ga K "Hold")) "__enter__" = some (some (.ref (ma K (ga K "Hold") "__enter__"))))) rfl), (c.d.fact 83 (b := PySem.W.isFn K (.ref (ma K (ga K "Hold") "__enter__"))) rfl), of_decide_eq_true (c.d.fact 84 (b := decide (PySem.W.findIn K (.ref (ga K "Hold")) "__exit__" = some (some (.ref (ma K (ga K "Hold") "__exit__"))))) rfl), (c.d.fact 85 (b := PySem.W.isFn K (.ref (ma K (ga K "Hold") "__exit__"))) rfl)⟩,
    hcl := cls_ok (c.d.fact 100 (b := (Fa.cls "Hold").ok K) rfl),
    nhF := noat_ok (c.d.fact 101 (b := (Fa.noat "Hold" "file").ok K) rfl),
    fcl := cls_ok (c.d.fact 37 (b := (Fa.cls "File").ok K) rfl),
    nH := noat_ok (c.d.fact 50 (b := (Fa.noat "File" "holding").ok K) rfl) }
  have tl : TL K mg := {
    z_int := free_ok X G (c.d.fact 6 (b := (Fa.free "int").ok K) rfl),
    z_abs := free_ok X G (c.d.fact 79 (b := (Fa.free "abs").ok K) rfl),
    z_len := free_ok X G (c.d.fact 5 (b := (Fa.free "len").ok K) rfl) }
  have t2 : KF.TF2 K w mg := TF.toTF2
  have tf : KF.TF K w mg := t2.toTF
  have tdd : KF.TD K w mg := t2.toTD
  have te : TE17 K w mg := T.toTE17
  have tc : TC17 K w mg := te.toTC17
  have tb : TB35 K w mg := tc.toTC35.toTB35
  have nd : (lams.map (lawP K)).Nodup := of_decide_eq_true (c.d.fact 102 (b := lamB K lams) rfl)
  obtain ⟨fd0, F0⟩ := c.d.def_ 0 rfl
  have F0 : FnP K "law" "law" s_law (ga K "law") fd0 := F0
  obtain ⟨fd1, F1⟩ := c.d.def_ 1 rfl
  have F1 : FnP K "_law_source" "_law_source" s_law_source (ga K "_law_source") fd1 := F1
  have b1 : Binds K fd1 ["script", "turn"] [] := F1.bindsN fun _ _ _ _ _ _ us hl => match us, hl with | [_, _], _ => rfl
  obtain ⟨fd2, F2⟩ := c.d.def_ 2 rfl
  have F2 : FnP K "_law_draw" "_law_draw" s_law_draw (ga K "_law_draw") fd2 := F2
  have b2 : Binds K fd2 ["source", "amount"] [] := F2.bindsN fun _ _ _ _ _ _ us hl => match us, hl with | [_, _], _ => rfl
  obtain ⟨fd3, F3⟩ := c.d.def_ 3 rfl
  have F3 : FnP K "_law_pick" "_law_pick" s_law_pick (ga K "_law_pick") fd3 := F3
  have b3 : Binds K fd3 ["source", "items"] [] := F3.bindsN fun _ _ _ _ _ _ us hl => match us, hl with | [_, _], _ => rfl
  obtain ⟨fd4, F4⟩ := c.d.def_ 4 rfl
  have F4 : FnP K "_law_looks" "_law_looks" s_law_looks (ga K "_law_looks") fd4 := F4
  have b4 : Binds K fd4 ["source"] [] := F4.bindsN fun _ _ _ _ _ _ us hl => match us, hl with | [_], _ => rfl
  obtain ⟨fd5, F5⟩ := c.d.def_ 5 rfl
  have F5 : FnP K "_law_parts" "_law_parts" s_law_parts (ga K "_law_parts") fd5 := F5
  have b5 : Binds K fd5 ["source", "most", "grains"] [] := F5.bindsN fun _ _ _ _ _ _ us hl => match us, hl with | [_, _, _], _ => rfl
  obtain ⟨fd6, F6⟩ := c.d.def_ 6 rfl
  have F6 : FnP K "_law_wide" "_law_wide" s_law_wide (ga K "_law_wide") fd6 := F6
  have b6 : Binds K fd6 ["source"] [] := F6.bindsN fun _ _ _ _ _ _ us hl => match us, hl with | [_], _ => rfl
  obtain ⟨fd7, F7⟩ := c.d.def_ 7 rfl
  have F7 : FnP K "_law_book" "_law_book" s_law_book (ga K "_law_book") fd7 := F7
  have b7 : Binds K fd7 ["parts"] [] := F7.bindsN fun _ _ _ _ _ _ us hl => match us, hl with | [_], _ => rfl
  obtain ⟨fd8, F8⟩ := c.d.def_ 8 rfl
  have F8 : FnP K "_law_old" "_law_old" s_law_old (ga K "_law_old") fd8 := F8
  have b8 : Binds K fd8 ["parts", "marks", "at"] [] := F8.bindsN fun _ _ _ _ _ _ us hl => match us, hl with | [_, _, _], _ => rfl
  obtain ⟨fd9, F9⟩ := c.d.def_ 9 rfl
  have F9 : FnP K "_law_deletes" "_law_deletes" s_law_deletes (ga K "_law_deletes") fd9 := F9
  have b9 : Binds K fd9 ["parts", "marks", "held", "at"] [] := F9.bindsN fun _ _ _ _ _ _ us hl => match us, hl with | [_, _, _, _], _ => rfl
  obtain ⟨fd10, F10⟩ := c.d.def_ 10 rfl
  have F10 : FnP K "_law_file" "_law_file" s_law_file (ga K "_law_file") fd10 := F10
  have b10 : Binds K fd10 ["source", "rule", "far"] [] := F10.bindsN fun _ _ _ _ _ _ us hl => match us, hl with | [_, _, _], _ => rfl
  obtain ⟨fd11, F11⟩ := c.d.def_ 11 rfl
  have F11 : FnP K "_law_held" "_law_held" s_law_held (ga K "_law_held") fd11 := F11
  have b11 : Binds K fd11 ["file", "book", "at"] [] := F11.bindsN fun _ _ _ _ _ _ us hl => match us, hl with | [_, _, _], _ => rfl
  obtain ⟨fd12, F12⟩ := c.d.def_ 12 rfl
  have F12 : FnP K "is_whole" "is_whole" s_is_whole (ga K "is_whole") fd12 := F12
  have b12 : Binds K fd12 ["value"] [] := F12.bindsN fun _ _ _ _ _ _ us hl => match us, hl with | [_], _ => rfl
  obtain ⟨fd13, F13⟩ := c.d.def_ 13 rfl
  have F13 : FnP K "is_count" "is_count" s_is_count (ga K "is_count") fd13 := F13
  have b13 : Binds K fd13 ["value"] [] := F13.bindsN fun _ _ _ _ _ _ us hl => match us, hl with | [_], _ => rfl
  obtain ⟨fd14, F14⟩ := c.d.def_ 14 rfl
  have F14 : FnP K "is_time" "is_time" s_is_time (ga K "is_time") fd14 := F14
  have b14 : Binds K fd14 ["value"] [] := F14.bindsN fun _ _ _ _ _ _ us hl => match us, hl with | [_], _ => rfl
  obtain ⟨fd15, F15⟩ := c.d.def_ 15 rfl
  have F15 : FnP K "is_moment" "is_moment" s_is_moment (ga K "is_moment") fd15 := F15
  have b15 : Binds K fd15 ["value"] [] := F15.bindsN fun _ _ _ _ _ _ us hl => match us, hl with | [_], _ => rfl
  obtain ⟨fd16, F16⟩ := c.d.def_ 16 rfl
  have F16 : FnP K "is_looks" "is_looks" s_is_looks (ga K "is_looks") fd16 := F16
  have b16 : Binds K fd16 ["value"] [] := F16.bindsN fun _ _ _ _ _ _ us hl => match us, hl with | [_], _ => rfl
  obtain ⟨fd17, F17⟩ := c.d.def_ 17 rfl
  have F17 : FnP K "is_deed" "is_deed" s_is_deed (ga K "is_deed") fd17 := F17
  have b17 : Binds K fd17 ["value"] [] := F17.bindsN fun _ _ _ _ _ _ us hl => match us, hl with | [_], _ => rfl
  obtain ⟨fd18, F18⟩ := c.d.def_ 18 rfl
  have F18 : FnP K "makes" "makes" s_makes (ga K "makes") fd18 := F18
  have b18 : Binds K fd18 ["value"] [] := F18.bindsN fun _ _ _ _ _ _ us hl => match us, hl with | [_], _ => rfl
  obtain ⟨fd19, F19⟩ := c.d.def_ 19 rfl
  have F19 : FnP K "backs" "backs" s_backs (ga K "backs") fd19 := F19
  have b19 : Binds K fd19 ["deed"] [] := F19.bindsN fun _ _ _ _ _ _ us hl => match us, hl with | [_], _ => rfl
  obtain ⟨fd20, F20⟩ := c.d.def_ 20 rfl
  have F20 : FnP K "seconds_of" "seconds_of" s_seconds_of (ga K "seconds_of") fd20 := F20
  have b20 : Binds K fd20 ["value"] [] := F20.bindsN fun _ _ _ _ _ _ us hl => match us, hl with | [_], _ => rfl
  obtain ⟨fd21, F21⟩ := c.d.def_ 21 rfl
  have F21 : FnP K "is_point" "is_point" s_is_point (ga K "is_point") fd21 := F21
  have b21 : Binds K fd21 ["value"] [] := F21.bindsN fun _ _ _ _ _ _ us hl => match us, hl with | [_], _ => rfl
  obtain ⟨fd22, F22⟩ := c.d.def_ 22 rfl
  have F22 : FnP K "is_dict_of_marks" "is_dict_of_marks" s_is_dict_of_marks (ga K "is_dict_of_marks") fd22 := F22
  have b22 : Binds K fd22 ["value"] [] := F22.bindsN fun _ _ _ _ _ _ us hl => match us, hl with | [_], _ => rfl
  obtain ⟨fd23, F23⟩ := c.d.def_ 23 rfl
  have F23 : FnP K "is_part" "is_part" s_is_part (ga K "is_part") fd23 := F23
  have b23 : Binds K fd23 ["value"] [] := F23.bindsN fun _ _ _ _ _ _ us hl => match us, hl with | [_], _ => rfl
  obtain ⟨fd24, F24⟩ := c.d.def_ 24 rfl
  have F24 : FnP K "is_worth" "is_worth" s_is_worth (ga K "is_worth") fd24 := F24
  have b24 : Binds K fd24 ["part", "value"] [] := F24.bindsN fun _ _ _ _ _ _ us hl => match us, hl with | [_, _], _ => rfl
  obtain ⟨fd25, F25⟩ := c.d.def_ 25 rfl
  have F25 : FnP K "check_part" "check_part" s_check_part (ga K "check_part") fd25 := F25
  have b25 : Binds K fd25 ["part", "value"] [] := F25.bindsN fun _ _ _ _ _ _ us hl => match us, hl with | [_, _], _ => rfl
  obtain ⟨fd26, F26⟩ := c.d.def_ 26 rfl
  have F26 : FnP K "check_book" "check_book" s_check_book (ga K "check_book") fd26 := F26
  have b26 : Binds K fd26 ["value"] [] := F26.bindsN fun _ _ _ _ _ _ us hl => match us, hl with | [_], _ => rfl
  obtain ⟨fd27, F27⟩ := c.d.def_ 27 rfl
  have F27 : FnP K "seen_age" "seen_age" s_seen_age (ga K "seen_age") fd27 := F27
  have b27 : Binds K fd27 ["book", "marks", "at"] [] := F27.bindsN fun _ _ _ _ _ _ us hl => match us, hl with | [_, _, _], _ => rfl
  obtain ⟨fd28, F28⟩ := c.d.def_ 28 rfl
  obtain ⟨fd29, F29⟩ := c.d.def_ 29 rfl
  have F29 : FnP K "change" "Book.change" s_Book_change (ma K (ga K "Book") "change") fd29 := F29
  have b29 : Binds K fd29 ["self", "part", "value"] [] := F29.bindsN fun _ _ _ _ _ _ us hl => match us, hl with | [_, _, _], _ => rfl
  obtain ⟨fd30, F30⟩ := c.d.def_ 30 rfl
  have F30 : FnP K "threshold" "Book.threshold" s_Book_threshold (ma K (ga K "Book") "threshold") fd30 := F30
  have b30 : Binds K fd30 ["self"] [] := F30.bindsN fun _ _ _ _ _ _ us hl => match us, hl with | [_], _ => rfl
  obtain ⟨fd31, F31⟩ := c.d.def_ 31 rfl
  have F31 : FnP K "due" "Book.due" s_Book_due (ma K (ga K "Book") "due") fd31 := F31
  have b31 : Binds K fd31 ["self", "latest"] [] := F31.bindsN fun _ _ _ _ _ _ us hl => match us, hl with | [_, _], _ => rfl
  obtain ⟨fd32, F32⟩ := c.d.def_ 32 rfl
  have F32 : FnP K "__eq__" "Book.__eq__" s_Book___eq__ (ma K (ga K "Book") "__eq__") fd32 := F32
  have b32 : Binds K fd32 ["self", "other"] [] := F32.bindsN fun _ _ _ _ _ _ us hl => match us, hl with | [_, _], _ => rfl
  obtain ⟨fd33, F33⟩ := c.d.def_ 33 rfl
  have F33 : FnP K "__call__" "Book.__call__" s_Book___call__ (ma K (ga K "Book") "__call__") fd33 := F33
  have b33 : Binds K fd33 ["self", "file", "at"] [] := F33.bindsN fun _ _ _ _ _ _ us hl => match us, hl with | [_, _, _], _ => rfl
  obtain ⟨fd34, F34⟩ := c.d.def_ 34 rfl
  have F34 : FnP K "bound" "Book.bound" s_Book_bound (getA "Book" "bound" K) fd34 := F34
  have b34 : Binds K fd34 ["self"] [] := F34.bindsN fun _ _ _ _ _ _ us hl => match us, hl with | [_], _ => rfl
  obtain ⟨fd35, F35⟩ := c.d.def_ 35 rfl
  have F35 : FnP K "looks" "Book.looks" s_Book_looks (getA "Book" "looks" K) fd35 := F35
  have b35 : Binds K fd35 ["self"] [] := F35.bindsN fun _ _ _ _ _ _ us hl => match us, hl with | [_], _ => rfl
  obtain ⟨fd36, F36⟩ := c.d.def_ 36 rfl
  have F36 : FnP K "how" "Book.how" s_Book_how (getA "Book" "how" K) fd36 := F36
  have b36 : Binds K fd36 ["self"] [] := F36.bindsN fun _ _ _ _ _ _ us hl => match us, hl with | [_], _ => rfl
  obtain ⟨fd37, F37⟩ := c.d.def_ 37 rfl
  have F37 : FnP K "day" "Book.day" s_Book_day (getA "Book" "day" K) fd37 := F37
  have b37 : Binds K fd37 ["self"] [] := F37.bindsN fun _ _ _ _ _ _ us hl => match us, hl with | [_], _ => rfl
  obtain ⟨fd38, F38⟩ := c.d.def_ 38 rfl
  have F38 : FnP K "grain" "Book.grain" s_Book_grain (getA "Book" "grain" K) fd38 := F38
  have b38 : Binds K fd38 ["self"] [] := F38.bindsN fun _ _ _ _ _ _ us hl => match us, hl with | [_], _ => rfl
  obtain ⟨fd39, F39⟩ := c.d.def_ 39 rfl
  have F39 : FnP K "spares" "Book.spares" s_Book_spares (getA "Book" "spares" K) fd39 := F39
  have b39 : Binds K fd39 ["self"] [] := F39.bindsN fun _ _ _ _ _ _ us hl => match us, hl with | [_], _ => rfl
  obtain ⟨fd40, F40⟩ := c.d.def_ 40 rfl
  have F40 : FnP K "__init__" "Moment.__init__" s_Moment___init__ (ma K (ga K "Moment") "__init__") fd40 := F40
  have b40 : Binds K fd40 ["self", "seconds"] [] := F40.bindsN fun _ _ _ _ _ _ us hl => match us, hl with | [_, _], _ => rfl
  obtain ⟨fd41, F41⟩ := c.d.def_ 41 rfl
  have F41 : FnP K "__init__" "File.__init__" s_File___init__ (ma K (ga K "File") "__init__") fd41 := F41
  have b41 : Binds K fd41 ["self", "rule", "deed", "at"] [] := F41.bindsN fun _ _ _ _ _ _ us hl => match us, hl with | [_, _, _, _], _ => rfl
  obtain ⟨fd42, F42⟩ := c.d.def_ 42 rfl
  have F42 : FnP K "marks" "File.marks" s_File_marks (ma K (ga K "File") "marks") fd42 := F42
  have b42 : Binds K fd42 ["self"] [] := F42.bindsN fun _ _ _ _ _ _ us hl => match us, hl with | [_], _ => rfl
  obtain ⟨fd43, F43⟩ := c.d.def_ 43 rfl
  have F43 : FnP K "latest" "File.latest" s_File_latest (ma K (ga K "File") "latest") fd43 := F43
  have b43 : Binds K fd43 ["self", "looks"] [] := F43.bindsN fun _ _ _ _ _ _ us hl => match us, hl with | [_, _], _ => rfl
  obtain ⟨fd44, F44⟩ := c.d.def_ 44 rfl
  have F44 : FnP K "do" "File.do" s_File_do (ma K (ga K "File") "do") fd44 := F44
  have b44 : Binds K fd44 ["self", "deed", "at"] [] := F44.bindsN fun _ _ _ _ _ _ us hl => match us, hl with | [_, _, _], _ => rfl
  obtain ⟨fd45, F45⟩ := c.d.def_ 45 rfl
  have F45 : FnP K "shifts" "File.shifts" s_File_shifts (ma K (ga K "File") "shifts") fd45 := F45
  have b45 : Binds K fd45 ["self", "deed", "moment"] [] := F45.bindsN fun _ _ _ _ _ _ us hl => match us, hl with | [_, _, _], _ => rfl
  obtain ⟨fd46, F46⟩ := c.d.def_ 46 rfl
  have F46 : FnP K "within" "File.within" s_File_within (ma K (ga K "File") "within") fd46 := F46
  have b46 : Binds K fd46 ["self", "visitor"] [] := F46.bindsN fun _ _ _ _ _ _ us hl => match us, hl with | [_, _], _ => rfl
  obtain ⟨fd47, F47⟩ := c.d.def_ 47 rfl
  have F47 : FnP K "held" "File.held" s_File_held (getA "File" "held" K) fd47 := F47
  have b47 : Binds K fd47 ["self"] [] := F47.bindsN fun _ _ _ _ _ _ us hl => match us, hl with | [_], _ => rfl
  obtain ⟨fd48, F48⟩ := c.d.def_ 48 rfl
  have F48 : FnP K "__init__" "Rule.__init__" s_Rule___init__ (ma K (ga K "Rule") "__init__") fd48 := F48
  have b48 : Binds K fd48 ["self", "word", "after"] [] := F48.bindsN fun _ _ _ _ _ _ us hl => match us, hl with | [_, _, _], _ => rfl
  obtain ⟨fd49, F49⟩ := c.d.def_ 49 rfl
  have F49 : FnP K "always" "Rule.always" s_Rule_always (He5.wf K (ga K "Rule") "staticmethod" "always") fd49 := F49
  have b49 : Binds K fd49 [] [] := F49.bindsN fun _ _ _ _ _ _ us hl => match us, hl with | [], _ => rfl
  obtain ⟨fd50, F50⟩ := c.d.def_ 50 rfl
  have F50 : FnP K "never" "Rule.never" s_Rule_never (He5.wf K (ga K "Rule") "staticmethod" "never") fd50 := F50
  have b50 : Binds K fd50 [] [] := F50.bindsN fun _ _ _ _ _ _ us hl => match us, hl with | [], _ => rfl
  obtain ⟨fd51, F51⟩ := c.d.def_ 51 rfl
  have F51 : FnP K "seldom" "Rule.seldom" s_Rule_seldom (He5.wf K (ga K "Rule") "staticmethod" "seldom") fd51 := F51
  have b51 : Binds K fd51 ["after"] [] := F51.bindsN fun _ _ _ _ _ _ us hl => match us, hl with | [_], _ => rfl
  obtain ⟨fd52, F52⟩ := c.d.def_ 52 rfl
  have F52 : FnP K "__call__" "Rule.__call__" s_Rule___call__ (ma K (ga K "Rule") "__call__") fd52 := F52
  have b52 : Binds K fd52 ["self", "file", "at"] [] := F52.bindsN fun _ _ _ _ _ _ us hl => match us, hl with | [_, _, _], _ => rfl
  obtain ⟨fd53, F53⟩ := c.d.def_ 53 rfl
  have F53 : FnP K "__init__" "Hold.__init__" s_Hold___init__ (ma K (ga K "Hold") "__init__") fd53 := F53
  have b53 : Binds K fd53 ["self", "file"] [] := F53.bindsN fun _ _ _ _ _ _ us hl => match us, hl with | [_, _], _ => rfl
  obtain ⟨fd54, F54⟩ := c.d.def_ 54 rfl
  have F54 : FnP K "__enter__" "Hold.__enter__" s_Hold___enter__ (ma K (ga K "Hold") "__enter__") fd54 := F54
  have b54 : Binds K fd54 ["self"] [] := F54.bindsN fun _ _ _ _ _ _ us hl => match us, hl with | [_], _ => rfl
  obtain ⟨fd55, F55⟩ := c.d.def_ 55 rfl
  have F55 : FnP K "__exit__" "Hold.__exit__" s_Hold___exit__ (ma K (ga K "Hold") "__exit__") fd55 := F55
  have b55 : Binds K fd55 ["self", "kind", "value", "trace"] [] := F55.bindsN fun _ _ _ _ _ _ us hl => match us, hl with | [_, _, _, _], _ => rfl
  have e := hfa.symm.trans (glo_ok X G (c.d.fact 123 (b := (Fa.glo "law").ok K) rfl))
  cases e
  have bl := FunD.bindsA (ps := ["script"]) F0 fun _ _ _ _ _ _ us hl => match us, hl with | [_], _ => rfl
  refine ⟨fd0, fun s v => bl s [v] rfl, fun base _ _ hTB => ?_⟩
  have DH : Mkr K mg base lams "_law_held" := mkr_of hTB hb nd (.head _)
  have D_law_source : Dn P w K mg base 2 (ga K "_law_source") ["script", "turn"] (spSource K) := ⟨⟨fd1, ok_source F1 tl, b1⟩, F1.kp⟩
  have D_law_draw : Dn P w K mg base 2 (ga K "_law_draw") ["source", "amount"] (spDraw) := ⟨⟨fd2, ok_draw F2 tl, b2⟩, F2.kp⟩
  have D_law_pick : Dn P w K mg base 4 (ga K "_law_pick") ["source", "items"] (spPick) := ⟨⟨fd3, ok_pick F3 te D_law_draw, b3⟩, F3.kp⟩
  have D_is_whole : Dn P w K mg base 2 (ga K "is_whole") ["value"] (spWhole) := ⟨⟨fd12, ok_whole F12 tb, b12⟩, F12.kp⟩
  have D_is_count : Dn P w K mg base 4 (ga K "is_count") ["value"] (spCnt) := ⟨⟨fd13, ok_cnt F13 tb D_is_whole, b13⟩, F13.kp⟩
  have D_is_time : Dn P w K mg base 4 (ga K "is_time") ["value"] (spTime) := ⟨⟨fd14, ok_time F14 tb D_is_whole, b14⟩, F14.kp⟩
  have D_is_looks : Dn P w K mg base 4 (ga K "is_looks") ["value"] (spLooks K) := ⟨⟨fd16, ok_looks F16 tb, b16⟩, F16.kp⟩
  have D_is_part : Dn P w K mg base 2 (ga K "is_part") ["value"] (spPart) := ⟨⟨fd23, ok_part F23 tb, b23⟩, F23.kp⟩
  have D_is_worth : Dn P w K mg base 6 (ga K "is_worth") ["part", "value"] (spWorth K) := ⟨⟨fd24, ok_worth F24 tb D_is_whole D_is_count D_is_time D_is_looks, b24⟩, F24.kp⟩
  have D_check_part : Dn P w K mg base 8 (ga K "check_part") ["part", "value"] (spCheck K) := ⟨⟨fd25, ok_check F25 tb D_is_part D_is_worth, b25⟩, F25.kp⟩
  have D_wholeF : Dn P w K mg base 2 (ga K "is_whole") ["value"] (KF.spWhole) := ⟨⟨fd12, KF.ok_whole F12 tm, b12⟩, F12.kp⟩
  have D_momF : Dn P w K mg base 4 (ga K "is_moment") ["value"] (KF.spIsMo) := ⟨⟨fd15, KF.ok_ismo F15 tm D_wholeF, b15⟩, F15.kp⟩
  have D_timeF : Dn P w K mg base 4 (ga K "is_time") ["value"] (KF.spTime) := ⟨⟨fd14, KF.ok_time F14 tdd D_wholeF, b14⟩, F14.kp⟩
  have D_deedF : Dn P w K mg base 6 (ga K "is_deed") ["value"] (KF.spDeed) := ⟨⟨fd17, KF.ok_deed F17 tdd D_timeF, b17⟩, F17.kp⟩
  have D_makesF : Dn P w K mg base 8 (ga K "makes") ["value"] (KF.spMakes) := ⟨⟨fd18, KF.ok_makes F18 tdd D_deedF, b18⟩, F18.kp⟩
  have D_backsF : Dn P w K mg base 8 (ga K "backs") ["deed"] (KF.spBacks) := ⟨⟨fd19, KF.ok_backs F19 tdd D_deedF, b19⟩, F19.kp⟩
  have D_secsF : Dn P w K mg base 6 (ga K "seconds_of") ["value"] (KF.spSecs (ga K "Moment")) := ⟨⟨fd20, KF.ok_secs F20 tf D_momF, b20⟩, F20.kp⟩
  have M_Moment : Mn P w K mg base 6 (ga K "Moment") ["self", "seconds"] (KF.spInit (ga K "Moment")) := ⟨⟨_, fd40, KF.ok_init F40 tm D_momF, b40, mkr_ok (c.d.fact 103 (b := (Fa.mkr "Moment").ok K) rfl)⟩⟩
  have M_Rule : Mn P w K mg base 2 (ga K "Rule") ["self", "word", "after"] (KF.spRInit (ga K "Rule")) := ⟨⟨_, fd48, KF.ok_rinit F48 tr, b48, mkr_ok (c.d.fact 104 (b := (Fa.mkr "Rule").ok K) rfl)⟩⟩
  have D_always : Dn P w K mg base 5 (He5.wf K (ga K "Rule") "staticmethod" "always") [] (KF.spRule0 (ga K "Rule") "always") := ⟨⟨fd49, KF.ok_always F49 tr M_Rule, b49⟩, F49.kp⟩
  have D_never : Dn P w K mg base 5 (He5.wf K (ga K "Rule") "staticmethod" "never") [] (KF.spRule0 (ga K "Rule") "never") := ⟨⟨fd50, KF.ok_never F50 tr M_Rule, b50⟩, F50.kp⟩
  have D_seldom : Dn P w K mg base 5 (He5.wf K (ga K "Rule") "staticmethod" "seldom") ["after"] (KF.spSeldom (ga K "Rule")) := ⟨⟨fd51, KF.ok_seldom F51 tr D_wholeF M_Rule, b51⟩, F51.kp⟩
  have H_marks : Hn P w K mg base 2 (ga K "File") "marks" (KF.spMarks (ga K "File")) := ⟨⟨_, fd42, ["self"], KF.ok_marks F42 tf, b42, meth_ok (c.d.fact 105 (b := (Fa.meth "File" "marks").ok K) rfl)⟩, TF.cl⟩
  have D_rcall : Dn P w K mg base 8 (ma K (ga K "Rule") "__call__") ["self", "file", "at"] (KF.spTold (ga K "Rule") (ga K "File")) := ⟨⟨fd52, KF.ok_told F52 tf D_secsF H_marks, b52⟩, F52.kp⟩
  have M_File : Mn P w K mg base 10 (ga K "File") ["self", "rule", "deed", "at"] (KF.spFInit (ga K "Rule") (ga K "File") (ga K "Moment")) := ⟨⟨_, fd41, KF.ok_finit F41 t2 D_makesF D_secsF D_backsF, b41, mkr_ok (c.d.fact 106 (b := (Fa.mkr "File").ok K) rfl)⟩⟩
  have R_held : Rn P w K mg base 2 (ga K "File") "held" (KF.spHeld (ga K "File")) := ⟨⟨_, _, fd47, ["self"], propB_ok (c.d.fact 107 (b := propB K (ga K "File") "held" (getA "File" "held" K)) rfl), KF.ok_held F47 t2, b47⟩, TF.cl⟩
  have H_latest : Hn P w K mg base 6 (ga K "File") "latest" (KF.spLatest (ga K "File")) := ⟨⟨_, fd43, ["self", "looks"], KF.ok_latest F43 TF D_is_looks, b43, meth_ok (c.d.fact 108 (b := (Fa.meth "File" "latest").ok K) rfl)⟩, TF.cl⟩
  have H_shifts : Hn P w K mg base 10 (ga K "File") "shifts" (KF.spShifts (ga K "Rule") (ga K "File")) := ⟨⟨_, fd45, ["self", "deed", "moment"], KF.ok_shifts F45 t2 D_backsF D_rcall, b45, meth_ok (c.d.fact 109 (b := (Fa.meth "File" "shifts").ok K) rfl)⟩, TF.cl⟩
  have H_do : Hn P w K mg base 12 (ga K "File") "do" (KF.spDo (ga K "Rule") (ga K "File") (ga K "Moment")) := ⟨⟨_, fd44, ["self", "deed", "at"], KF.ok_do F44 t2 D_deedF D_secsF D_makesF H_shifts, b44, meth_ok (c.d.fact 110 (b := (Fa.meth "File" "do").ok K) rfl)⟩, TF.cl⟩
  have FJ : FI K (ma K (ga K "Book") "__init__") fd28 := F28
  obtain ⟨mv_M_Book, hb_M_Book⟩ := binds5 FJ
  have M_Book : Mw P w K mg base 10 (ga K "Book") ["bound", "looks", "how", "day", "grain"] (fun us ws => us ++ ws ++ [.bl false, .int 0, .bl true, .int 1]) (spInit K (ga K "Book")) := ⟨⟨_, fd28, _, _, ok_init FJ tb D_check_part, mkr_ok (c.d.fact 111 (b := (Fa.mkr "Book").ok K) rfl), hb_M_Book⟩⟩
  have H_change : Hn P w K mg base 10 (ga K "Book") "change" (spChange K (ga K "Book")) := ⟨⟨_, fd29, ["self", "part", "value"], ok_change F29 tb D_check_part, b29, meth_ok (c.d.fact 112 (b := (Fa.meth "Book" "change").ok K) rfl)⟩, T.cl⟩
  have R_bound : Rn P w K mg base 2 (ga K "Book") "bound" (spGet (ga K "Book") "bound") := ⟨⟨_, _, fd34, ["self"], propB_ok (c.d.fact 113 (b := propB K (ga K "Book") "bound" (getA "Book" "bound" K)) rfl), ok_gbound F34 tb, b34⟩, T.cl⟩
  have R_looks : Rn P w K mg base 2 (ga K "Book") "looks" (spGet (ga K "Book") "looks") := ⟨⟨_, _, fd35, ["self"], propB_ok (c.d.fact 114 (b := propB K (ga K "Book") "looks" (getA "Book" "looks" K)) rfl), ok_glooks F35 tb, b35⟩, T.cl⟩
  have R_how : Rn P w K mg base 2 (ga K "Book") "how" (spGet (ga K "Book") "how") := ⟨⟨_, _, fd36, ["self"], propB_ok (c.d.fact 115 (b := propB K (ga K "Book") "how" (getA "Book" "how" K)) rfl), ok_ghow F36 tb, b36⟩, T.cl⟩
  have R_day : Rn P w K mg base 2 (ga K "Book") "day" (spGet (ga K "Book") "day") := ⟨⟨_, _, fd37, ["self"], propB_ok (c.d.fact 116 (b := propB K (ga K "Book") "day" (getA "Book" "day" K)) rfl), ok_gday F37 tb, b37⟩, T.cl⟩
  have R_grain : Rn P w K mg base 2 (ga K "Book") "grain" (spGet (ga K "Book") "grain") := ⟨⟨_, _, fd38, ["self"], propB_ok (c.d.fact 117 (b := propB K (ga K "Book") "grain" (getA "Book" "grain" K)) rfl), ok_ggrain F38 tb, b38⟩, T.cl⟩
  have R_spares : Rn P w K mg base 2 (ga K "Book") "spares" (spGet (ga K "Book") "spares") := ⟨⟨_, _, fd39, ["self"], propB_ok (c.d.fact 118 (b := propB K (ga K "Book") "spares" (getA "Book" "spares" K)) rfl), ok_gspares F39 tb, b39⟩, T.cl⟩
  have H_threshold : Hn P w K mg base 4 (ga K "Book") "threshold" (spThr K (ga K "Book")) := ⟨⟨_, fd30, ["self"], ok_thr F30 tb R_how R_bound R_day, b30, meth_ok (c.d.fact 119 (b := (Fa.meth "Book" "threshold").ok K) rfl)⟩, T.cl⟩
  have H_due : Hn P w K mg base 6 (ga K "Book") "due" (spDue (ga K "Book")) := ⟨⟨_, fd31, ["self", "latest"], ok_due F31 tb R_grain H_threshold, b31, meth_ok (c.d.fact 120 (b := (Fa.meth "Book" "due").ok K) rfl)⟩, T.cl⟩
  have D_check_book : Dn P w K mg base 2 (ga K "check_book") ["value"] (spCb (ga K "Book")) := ⟨⟨fd26, ok_cb F26 tb, b26⟩, F26.kp⟩
  have D_beq : Dn P w K mg base 4 (ma K (ga K "Book") "__eq__") ["self", "other"] (spBEq K (ga K "Book")) := ⟨⟨fd32, ok_beq F32 tc, b32⟩, F32.kp⟩
  have D_callB : Dn P w K mg base 10 (ma K (ga K "Book") "__call__") ["self", "file", "at"] (spCallB (ga K "Book") (ga K "File") (ga K "Moment")) := ⟨⟨fd33, ok_callB F33 T TF D_secsF R_spares R_looks R_held H_latest H_due, b33⟩, F33.kp⟩
  have D_pointF : Dn P w K mg base 6 (ga K "is_point") ["value"] (spPoint (ga K "Moment")) := ⟨⟨fd21, ok_point F21 T D_momF, b21⟩, F21.kp⟩
  have D_domF : Dn P w K mg base 8 (ga K "is_dict_of_marks") ["value"] (spDom (ga K "Moment")) := ⟨⟨fd22, ok_dom F22 T D_pointF, b22⟩, F22.kp⟩
  have D_seenF : Dn P w K mg base 12 (ga K "seen_age") ["book", "marks", "at"] (spSeen19 (ga K "Book") (ga K "Moment")) := ⟨⟨fd27, ok_seen19 F27 T D_check_book D_domF D_secsF R_looks R_grain R_day, b27⟩, F27.kp⟩
  have M_Hold : Mn P w K mg base 2 (ga K "Hold") ["self", "file"] (spHinit (ga K "Hold")) := ⟨⟨_, fd53, ok_hinit F53 T, b53, mkr_ok (c.d.fact 121 (b := (Fa.mkr "Hold").ok K) rfl)⟩⟩
  have D_enter : Dn P w K mg base 2 (ma K (ga K "Hold") "__enter__") ["self"] (spHset (ga K "Hold") (ga K "File") true []) := ⟨⟨fd54, ok_enter F54 T, b54⟩, F54.kp⟩
  have D_exit : Dn P w K mg base 2 (ma K (ga K "Hold") "__exit__") ["self", "kind", "value", "trace"] (spHset (ga K "Hold") (ga K "File") false [.non, .non, .non]) := ⟨⟨fd55, ok_exit F55 T, b55⟩, F55.kp⟩
  have D_lheld : DnG P w K mg base 18 (ga K "_law_held") ["file", "book", "at"] (spLHeld K lams (ga K "Book") (ga K "File")) := ⟨⟨fd11, ok_lheld F11 T F46 b46 (meth_ok (c.d.fact 122 (b := (Fa.meth "File" "within").ok K) rfl)) DH M_Hold D_enter D_exit D_callB, b11⟩, F11.kp⟩
  have D_law_looks : Dn P w K mg base 6 (ga K "_law_looks") ["source"] (spLk35) := ⟨⟨fd4, ok_llooks F4 te D_law_pick, b4⟩, F4.kp⟩
  have D_law_parts : Dn P w K mg base 8 (ga K "_law_parts") ["source", "most", "grains"] (spParts36) := ⟨⟨fd5, ok_lparts F5 te D_law_draw D_law_pick D_law_looks, b5⟩, F5.kp⟩
  have D_law_wide : Dn P w K mg base 8 (ga K "_law_wide") ["source"] (spParts17 K []) := ⟨⟨fd6, ok_lwide F6 te D_law_draw D_law_pick D_law_looks, b6⟩, F6.kp⟩
  have D_law_book : Dn P w K mg base 12 (ga K "_law_book") ["parts"] (spBook17 K (ga K "Book")) := ⟨⟨fd7, ok_lbook F7 te M_Book H_change, b7⟩, F7.kp⟩
  have D_law_old : Dn P w K mg base 2 (ga K "_law_old") ["parts", "marks", "at"] (spOld) := ⟨⟨fd8, ok_old F8 T, b8⟩, F8.kp⟩
  have D_law_deletes : Dn P w K mg base 4 (ga K "_law_deletes") ["parts", "marks", "held", "at"] (spDel) := ⟨⟨fd9, ok_del F9 T D_law_old, b9⟩, F9.kp⟩
  have D_law_file : Dn P w K mg base 14 (ga K "_law_file") ["source", "rule", "far"] (spLFile (ga K "Rule") (ga K "File")) := ⟨⟨fd10, ok_lfile F10 T D_law_draw D_law_pick M_File H_do, b10⟩, F10.kp⟩
  exact ok_law F0 T D_law_draw D_law_source D_law_pick D_law_parts D_law_wide D_law_book D_law_file D_always D_never D_seldom H_marks D_law_old D_law_deletes D_callB M_Moment D_seenF D_lheld D_beq
end

end K1
open PySem PySem.W PySem.Calls PyProof.Rows
set_option maxRecDepth 100000 in
set_option maxHeartbeats 0 in
theorem PySem.Challenge.cw_agedfiles_k19_whole_looks_decided_holds : PySem.Challenge.rw_agedfiles_k19_whole_looks_decided.Holds := by
  w_on; o_law
  refine HandSHeadRun.head_any (r := OpenLaw.row PySem.Challenge.rw_agedfiles_k19_whole_looks_decided) (q := view (OpenLaw.row PySem.Challenge.rw_agedfiles_k19_whole_looks_decided).prog [58]) (H := K1.hk) (ob := K1.ob) (M := 12000) (loose := K1.names) (d := HandSHeadRun.topDef (OpenLaw.row PySem.Challenge.rw_agedfiles_k19_whole_looks_decided).prog 58) (kwd := []) K1.ob_eq
    (by kernel_rfl) (fun s => by kernel_rfl) K1.run (by kernel_rfl) (by kernel_rfl) (by kernel_rfl) (by rfl) (by first | assumption | decide +kernel) (by decide +kernel) ⟨rfl, rfl, rfl, rfl, rfl, by decide +kernel⟩ ?hw ?hc
  case hw => w_witness2
  case hc =>
    refine AF.walk_ofG (l := PySem.Challenge.rw_agedfiles_k19_whole_looks_decided) (n := 63) (k := 22) (x := "script") (CX := fun w => L2.CX (PySem.Challenge.rw_agedfiles_k19_whole_looks_decided).prog w) rfl (by decide) (by kernel_rfl) ⟨rfl, by decide, by decide⟩ ?F (fun _ _ _ _ _ z => ?N)
    case N =>
      obtain ⟨_, _, _, _, _, _, _, _, _, _, _, _, h⟩ := z
      exact h
    case F =>
      intro w mg fa h Y G hmg0
      obtain ⟨K, KX, c, hb0⟩ := Y
      have hb1 : ∀ x ∈ K1.lams, AF.lawB K x = true := fun x hx => (hb0 x hx).1
      have hmg : mg ("law" : PySem.Str) = some (.ref fa) := by
        have e : (HandSHeadRun.topDef (OpenLaw.row PySem.Challenge.rw_agedfiles_k19_whole_looks_decided).prog 58).name = ("law" : PySem.Str) := by kernel_rfl
        rw [← e]
        exact hmg0
      obtain ⟨fd, hb, hF⟩ := K1.all_ok (P := (PySem.Challenge.rw_agedfiles_k19_whole_looks_decided).prog) (w := w) KX G hmg c hb1
      exact ⟨K, KX, fd, AF.lamC K K1.lams, K1.spLaw K K1.lams, (fun p hp => by
        obtain ⟨x, hx, rfl⟩ := List.mem_map.mp hp
        exact (hb0 x hx).2), AF.lamC_n hb1, AF.lamC_C KX hb1, hb, fun H a ns hl _ hT hS => ⟨a, ns, rfl, hS, hl, AF.tabs0 hT, fun _ => rfl⟩, fun base h1 h2 h3 => hF base h1 h2 h3⟩
