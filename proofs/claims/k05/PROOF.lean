import PyProof.Rows.All
import Wide.All
import OpenK.AllK
import Wide.FinOn
import HandS.ForMost
import HandS.Deep
import HandS.IsInst
import HandS.More
import HandS.SortRule
import HandS.SortInts
import KE.DataMinMax
import PyProof.TypeEq
import HandS.Codes
import HandS.Defaults
import HandS.Conv
import HandS.Exc
import HandS.ExcOwn
import HandS.WordsExc
import HandS.HotCalls
import HandS.ExcIs
import HandS.TupSets
import HandS.DictComp
import HandS.TupLe
import PySem.Challenge.RW_flatdraw_k05_turns_looked_at
set_option Elab.async false
set_option linter.all false
set_option maxRecDepth 100000
namespace Fd
open PySem L2
/-! ### == and != of two built-in types -/
theorem slot_ty_ne : Slot "type" (cmpInfo .NotEq).2.1 "object.__ne__" :=
  Slot.of (n := "__ne__") (owner := "object") (by rw [typeLookup_type, builtinLookup_eq_fast]; kernel_rfl) (by decide +kernel) (by decide +kernel) (by decide +kernel) (by first | exact .inl (by decide +kernel) | exact .inr (by decide +kernel)) (by rw [isSubtype_type]; kernel_rfl)
theorem slot_ty_ne' : Slot "type" (cmpInfo .NotEq).2.2 "object.__ne__" := slot_ty_ne
section
variable {prog : Program} {w : World} {A : Around} {E : Value → Shared → Prop} {s : Shared}
theorem call_ne_ty {X Y : String} {Q : Value → Shared → Prop} (hX : ∀ s' : Shared, s'.TypeIs (.type X) "type")
    (h : Q (if (Value.type X == Value.type Y) = true then .bool false else .notImplemented) s) : wpAny (model prog w) A (call (.builtin "object.__ne__") [.type X, .type Y]) Q E s := by
  refine wpAny_call (codeAny_call_builtin slot_ty_ne.plain F.entry_object_ne (slot_ty_ne.check _ _ _ _ _ _ _ _ (hX s) (F.args_object_ne_2 _ _) ?_))
  unfold Builtin.«object.__ne__»
  have e1 : slotArgs "__ne__" 1 ⟨[Value.type X, Value.type Y], []⟩ = pure (Value.type X, [Value.type Y]) := by
    simp [slotArgs]
  rw [e1]
  simp only [pure_bind]
  refine wpAny_bind (wpAny_cRoomFor_or (.inl rfl) ?_)
  refine wpAny_bind (wpAny_callSpecialIfBound?_slot (name := (cmpInfo .Eq).2.1) (hX s) TypeEq.slot_type_eq ?_)
  by_cases hk : (Value.type X == Value.type Y) = true
  · rw [if_pos hk] at h
    refine call_gives TypeEq.slot_type_eq (hX s) F.entry_object_eq (F.args_object_eq_2 _ _) (TypeEq.object_eq_same rfl hk) ?_
    exact wpAny_bind (wpAny_truthy_bool (wpAny_pure h))
  · rw [if_neg hk] at h
    refine call_gives TypeEq.slot_type_eq (hX s) F.entry_object_eq (F.args_object_eq_2 _ _) (TypeEq.object_eq_other rfl (Bool.eq_false_iff.mpr hk)) ?_
    exact wpAny_pure h
theorem ne_ty {X Y : String} {Q : Value → Shared → Prop} (hX : ∀ s' : Shared, s'.TypeIs (.type X) "type") (hY : ∀ s' : Shared, s'.TypeIs (.type Y) "type")
    (h : Q (.bool (!decide (X = Y))) s) : wpAny (model prog w) A (compareOp .NotEq (.type X) (.type Y)) Q E s := by
  show wpAny (model prog w) A (richCompare CmpOp.NotEq (.type X) (.type Y)) Q E s
  by_cases e : X = Y
  · subst e
    refine wpAny_richCompare_same (T := "type") (hX s) (hX s) slot_ty_ne (call_ne_ty hX ?_)
    rw [if_pos (by simp)]
    rw [decide_eq_true rfl] at h
    exact ⟨(by intro z; cases z), h⟩
  · have k1 : (Value.type X == Value.type Y) = false := by simp [e]
    have k2 : (Value.type Y == Value.type X) = false := by simpa using fun z : Y = X => e z.symm
    rw [decide_eq_false e] at h
    rcases hi : cmpInfo CmpOp.NotEq with ⟨sym, f, r⟩
    have h1 := slot_ty_ne
    have h2 := slot_ty_ne'
    rw [hi] at h1 h2
    simp only [richCompare, hi, (hX s).oneThing_none]
    try with_reducible refine wpAny_holding ?_
    refine wpAny_bind (wpAny_cRoomFor_or (.inl rfl) ?_)
    refine wpAny_bind (wpAny_typeOf (hX s) (wpAny_bind (wpAny_typeOf (hY s) ?_)))
    simp only [if_true, if_false, bne_self_eq_false, Bool.not_false, Bool.false_eq_true, pure_bind]
    refine wpAny_bind (m := tryCompare (.type X) _ (.type Y)) (wpAny_tryCompare_declines (hX s) h1 (call_ne_ty hX ?_))
    rw [if_neg (by rw [k1]; exact Bool.false_ne_true)]
    refine ⟨rfl, ?_⟩
    refine wpAny_bind (m := tryCompare (.type Y) _ (.type X)) (wpAny_tryCompare_declines (hY s) h2 (call_ne_ty hY ?_))
    rw [if_neg (by rw [k2]; exact Bool.false_ne_true)]
    refine ⟨rfl, ?_⟩
    refine wpAny_bind (wpAny_rule (wpAny_bind (wpAny_of_eq (isSame_plain rfl) ?_)))
    rw [k1]
    exact wpAny_pure h
end
/-- the names of the built-in kinds that are compared -/
def kinds : List String := ["int", "str", "bool", "NoneType", "list", "tuple", "dict", "bytes"]
theorem meta_of {T : String} (h : T ∈ kinds) (s : Shared) : s.TypeIs (.type T) "type" := by
  simp only [kinds, List.mem_cons, List.not_mem_nil, or_false] at h
  rcases h with rfl | rfl | rfl | rfl | rfl | rfl | rfl | rfl
  · exact TypeEq.meta_int s
  · exact TypeEq.meta_str s
  · exact TypeEq.meta_bool s
  · exact TypeEq.meta_NoneType s
  · exact TypeEq.meta_list s
  · exact TypeEq.meta_tuple s
  · exact TypeEq.meta_dict s
  · exact TypeEq.meta_bytes s
theorem TyB_kind {K : PySem.W.Frag} {H : Hp} {x : V} {T : String} (h : TyB K H x T) : T ∈ kinds := by
  cases h <;> decide
def rEqTy : R2 := fun x y H Q => ∃ a b, x = .ty a ∧ y = .ty b ∧ a ∈ kinds ∧ b ∈ kinds ∧ Q (.bl (decide (a = b))) H
def rNeTy : R2 := fun x y H Q => ∃ a b, x = .ty a ∧ y = .ty b ∧ a ∈ kinds ∧ b ∈ kinds ∧ Q (.bl (!decide (a = b))) H
section
variable {X : Cx}
theorem op_eqTy : OpR X (compareOp .Eq) rEqTy := by
  intro pins s σ H x y v u Q I rx ry h
  obtain ⟨a, b, rfl, rfl, ha, hb, q⟩ := h
  cases rx
  cases ry
  by_cases e : a = b
  · subst e
    rw [decide_eq_true rfl] at q
    exact TypeEq.eq_type_same (meta_of ha) ⟨.bl true, H, I, rfl, q⟩
  · rw [decide_eq_false e] at q
    exact TypeEq.eq_type_other (meta_of ha) (meta_of hb) (by simp [e]) ⟨.bl false, H, I, rfl, q⟩
theorem op_neTy : OpR X (compareOp .NotEq) rNeTy := by
  intro pins s σ H x y v u Q I rx ry h
  obtain ⟨a, b, rfl, rfl, ha, hb, q⟩ := h
  cases rx
  cases ry
  exact ne_ty (meta_of ha) (meta_of hb) ⟨.bl _, H, I, rfl, q⟩
end
end Fd
namespace Fd
/-! ### plain lists -/
theorem strict_uniq {α : Type} {lt : α → α → Prop} (asym : ∀ a b, lt a b → ¬ lt b a) : ∀ {l1 l2 : List α}, l1.Pairwise lt → l2.Pairwise lt → (∀ x, x ∈ l1 ↔ x ∈ l2) → l1 = l2
  | [], [], _, _, _ => rfl
  | [], b :: l2, _, _, h => absurd ((h b).mpr List.mem_cons_self) (by simp)
  | a :: l1, [], _, _, h => absurd ((h a).mp List.mem_cons_self) (by simp)
  | a :: l1, b :: l2, h1, h2, h => by
    obtain ⟨p1, q1⟩ := List.pairwise_cons.mp h1
    obtain ⟨p2, q2⟩ := List.pairwise_cons.mp h2
    have e : a = b := by
      rcases List.mem_cons.mp ((h a).mp List.mem_cons_self) with e | ha
      · exact e
      · rcases List.mem_cons.mp ((h b).mpr List.mem_cons_self) with e | hb
        · exact e.symm
        · exact absurd (p1 b hb) (asym _ _ (p2 a ha))
    subst e
    have irr : ∀ x, lt a x → x ≠ a := fun x hx z => by
      subst z
      exact asym _ _ hx hx
    rw [strict_uniq asym q1 q2 fun x => ⟨fun hx => ?_, fun hx => ?_⟩]
    · rcases List.mem_cons.mp ((h x).mp (List.mem_cons_of_mem _ hx)) with e | hx'
      · exact absurd e (irr x (p1 x hx))
      · exact hx'
    · rcases List.mem_cons.mp ((h x).mpr (List.mem_cons_of_mem _ hx)) with e | hx'
      · exact absurd e (irr x (p2 x hx))
      · exact hx'
theorem strict_of_le {l : List Int} (h : l.Pairwise (· ≤ ·)) (n : l.Nodup) : l.Pairwise (· < ·) := by
  induction l with
  | nil => exact List.Pairwise.nil
  | cons a l ih =>
    obtain ⟨p, q⟩ := List.pairwise_cons.mp h
    obtain ⟨n1, n2⟩ := List.nodup_cons.mp n
    refine List.pairwise_cons.mpr ⟨fun b hb => ?_, ih q n2⟩
    have h1 := p b hb
    have h2 : a ≠ b := fun e => n1 (e ▸ hb)
    omega
theorem take_next {α : Type} : ∀ {l : List α} {i : Nat} {x : α}, l[i]? = some x → l.take (i + 1) = l.take i ++ [x]
  | [], i, x, h => by simp at h
  | a :: l, 0, x, h => by
    cases Option.some.inj h
    rfl
  | a :: l, i + 1, x, h => by
    rw [List.take_succ_cons, take_next (l := l) (i := i) (x := x) h]
    rfl
/-! ### points, ties, rows -/
abbrev Tie := Int × Int
def pts (m : Nat) : List Int := (List.range m).map fun n : Nat => (n : Int)
theorem mem_pts {m : Nat} {x : Int} : x ∈ pts m ↔ 0 ≤ x ∧ x < m := by
  unfold pts
  rw [List.mem_map]
  constructor
  · rintro ⟨n, hn, rfl⟩
    rw [List.mem_range] at hn
    omega
  · intro h
    exact ⟨x.toNat, List.mem_range.mpr (by omega), by omega⟩
theorem pts_strict (m : Nat) : (pts m).Pairwise (· < ·) := by
  unfold pts
  rw [List.pairwise_map]
  exact List.pairwise_lt_range.imp fun h => by omega
theorem pts_len (m : Nat) : (pts m).length = m := by simp [pts]
theorem pts_at {m i : Nat} (h : i < m) : (pts m)[i]? = some (i : Int) := by
  simp [pts, h]
theorem pts_succ (m : Nat) : pts (m + 1) = pts m ++ [(m : Int)] := by
  simp [pts, List.range_succ]
/-- a tie joins p and j -/
def Adj (ts : List Tie) (p j : Int) : Prop := (p, j) ∈ ts ∨ (j, p) ∈ ts
instance (ts : List Tie) (p j : Int) : Decidable (Adj ts p j) := by unfold Adj; exact inferInstance
theorem Adj.symm {ts : List Tie} {p j : Int} (h : Adj ts p j) : Adj ts j p := Or.symm h
structure Good (m : Nat) (ts : List Tie) : Prop where
  rng : ∀ t ∈ ts, 0 ≤ t.1 ∧ t.1 < m ∧ 0 ≤ t.2 ∧ t.2 < m ∧ t.1 ≠ t.2
  ap : ts.Pairwise fun t u => t ≠ u ∧ t ≠ (u.2, u.1)
theorem Good.nil (m : Nat) : Good m [] := ⟨fun _ h => by simp at h, List.Pairwise.nil⟩
theorem Good.snoc {m : Nat} {ts : List Tie} {t : Tie} (g : Good m ts) (h : 0 ≤ t.1 ∧ t.1 < m ∧ 0 ≤ t.2 ∧ t.2 < m ∧ t.1 ≠ t.2) (h1 : t ∉ ts) (h2 : (t.2, t.1) ∉ ts) : Good m (ts ++ [t]) := by
  refine ⟨fun u hu => ?_, List.pairwise_append.mpr ⟨g.ap, List.pairwise_singleton _ _, fun u hu v hv => ?_⟩⟩
  · rcases List.mem_append.mp hu with hu | hu
    · exact g.rng u hu
    · rw [List.mem_singleton.mp hu]
      exact h
  · rw [List.mem_singleton.mp hv]
    exact ⟨fun e => h1 (e ▸ hu), fun e => h2 (e ▸ hu)⟩
theorem Good.drop {m : Nat} {ts : List Tie} (g : Good m ts) (k : Nat) : Good m (ts.drop k) := ⟨fun t h => g.rng t (List.mem_of_mem_drop h), g.ap.sublist (List.drop_sublist k ts)⟩
theorem Good.take {m : Nat} {ts : List Tie} (g : Good m ts) (k : Nat) : Good m (ts.take k) := ⟨fun t h => g.rng t (List.mem_of_mem_take h), g.ap.sublist (List.take_sublist k ts)⟩
theorem Good.apart {m : Nat} {ts : List Tie} (g : Good m ts) {i : Nat} {t : Tie} (h : ts[i]? = some t) : t ∉ ts.take i ∧ (t.2, t.1) ∉ ts.take i := by
  have e := take_next h
  have g1 := (g.take (i + 1)).ap
  rw [e] at g1
  have q := (List.pairwise_append.mp g1).2.2
  refine ⟨fun hm => ?_, fun hm => ?_⟩
  · exact (q t hm t (by simp)).1 rfl
  · exact (q (t.2, t.1) hm t (by simp)).2 rfl
/-- what one tie puts beside p -/
def here (t : Tie) (p : Int) : List Int := (if t.1 = p then [t.2] else []) ++ (if t.2 = p then [t.1] else [])
def nb (ts : List Tie) (p : Int) : List Int := ts.flatMap fun t => here t p
theorem mem_here {t : Tie} {p j : Int} : j ∈ here t p ↔ t = (p, j) ∨ t = (j, p) := by
  obtain ⟨a, b⟩ := t
  unfold here
  by_cases h1 : a = p <;> by_cases h2 : b = p <;> simp [h1, h2] <;> constructor <;> intro h <;> simp_all
theorem mem_nb {ts : List Tie} {p j : Int} : j ∈ nb ts p ↔ Adj ts p j := by
  unfold nb Adj
  rw [List.mem_flatMap]
  constructor
  · rintro ⟨t, ht, hj⟩
    rcases mem_here.mp hj with e | e
    · exact .inl (e ▸ ht)
    · exact .inr (e ▸ ht)
  · rintro (h | h)
    · exact ⟨_, h, mem_here.mpr (.inl rfl)⟩
    · exact ⟨_, h, mem_here.mpr (.inr rfl)⟩
theorem nb_snoc (ts : List Tie) (t : Tie) (p : Int) : nb (ts ++ [t]) p = nb ts p ++ here t p := by
  unfold nb
  rw [List.flatMap_append]
  simp
theorem nb_nodup {m : Nat} : ∀ {ts : List Tie} (g : Good m ts) (p : Int), (nb ts p).Nodup
  | [], _, _ => by simp [nb]
  | t :: ts, g, p => by
    have g' : Good m ts := ⟨fun u h => g.rng u (List.mem_cons_of_mem _ h), (List.pairwise_cons.mp g.ap).2⟩
    have ih := nb_nodup g' p
    have hne := (g.rng t List.mem_cons_self).2.2.2.2
    have e : nb (t :: ts) p = here t p ++ nb ts p := by simp [nb]
    rw [e]
    refine List.nodup_append.mpr ⟨?_, ih, fun x hx y hy z => ?_⟩
    · obtain ⟨a, b⟩ := t
      unfold here
      by_cases h1 : a = p <;> by_cases h2 : b = p <;> simp [h1, h2]
      exact hne (h1.trans h2.symm)
    · subst z
      have q := (List.pairwise_cons.mp g.ap).1
      rcases mem_here.mp hx with e1 | e1 <;> rcases mem_nb.mp hy with e2 | e2
      · exact (q _ e2).1 e1
      · exact (q _ e2).2 e1
      · exact (q _ e2).2 e1
      · exact (q _ e2).1 e1
/-- the points beside p, rising -/
def rowOf (m : Nat) (ts : List Tie) (p : Int) : List Int := (pts m).filter fun j => decide (Adj ts p j)
theorem mem_rowOf {m : Nat} {ts : List Tie} (g : Good m ts) {p j : Int} : j ∈ rowOf m ts p ↔ Adj ts p j := by
  unfold rowOf
  rw [List.mem_filter, decide_eq_true_iff, mem_pts]
  refine ⟨fun h => h.2, fun h => ⟨?_, h⟩⟩
  rcases h with h | h
  · have := g.rng _ h
    exact ⟨this.2.2.1, this.2.2.2.1⟩
  · have := g.rng _ h
    exact ⟨this.1, this.2.1⟩
theorem rowOf_strict (m : Nat) (ts : List Tie) (p : Int) : (rowOf m ts p).Pairwise (· < ·) := (pts_strict m).filter _
theorem rowOf_len (m : Nat) (ts : List Tie) (p : Int) : (rowOf m ts p).length ≤ m := by
  have h := List.length_filter_le (fun j => decide (Adj ts p j)) (pts m)
  rw [pts_len] at h
  exact h
theorem row_sorted {m : Nat} {ts : List Tie} (g : Good m ts) {p : Int} {ns : List Int} (hp : ns.Perm (nb ts p)) (hs : ns.Pairwise (· ≤ ·)) : ns = rowOf m ts p := by
  refine strict_uniq (lt := fun a b : Int => a < b) (fun a b h => by omega) (strict_of_le hs (hp.nodup_iff.mpr (nb_nodup g p))) (rowOf_strict m ts p) fun x => ?_
  rw [hp.mem_iff, mem_nb, mem_rowOf g]
def rowsOf (m : Nat) (ts : List Tie) : List (List Int) := (pts m).map (rowOf m ts)
theorem rowsOf_len (m : Nat) (ts : List Tie) : (rowsOf m ts).length = m := by simp [rowsOf, pts_len]
theorem rowsOf_at {m : Nat} {ts : List Tie} {i : Nat} (h : i < m) : (rowsOf m ts)[i]? = some (rowOf m ts i) := by
  unfold rowsOf
  rw [List.getElem?_map, pts_at h]
  rfl
/-! ### the ties told -/
def pickT (m : Nat) (ts : List Tie) (i : Int) : List Tie := ((rowOf m ts i).filter fun j => decide (i < j)).map fun j => (i, j)
def toldT (m : Nat) (ts : List Tie) : List Tie := (pts m).flatMap (pickT m ts)
def lexT (a b : Tie) : Prop := a.1 < b.1 ∨ (a.1 = b.1 ∧ a.2 < b.2)
theorem mem_pickT {m : Nat} {ts : List Tie} (g : Good m ts) {i : Int} {t : Tie} : t ∈ pickT m ts i ↔ t.1 = i ∧ t.1 < t.2 ∧ Adj ts t.1 t.2 := by
  unfold pickT
  rw [List.mem_map]
  constructor
  · rintro ⟨j, hj, rfl⟩
    rw [List.mem_filter, decide_eq_true_iff, mem_rowOf g] at hj
    exact ⟨rfl, hj.2, hj.1⟩
  · rintro ⟨rfl, h1, h2⟩
    exact ⟨t.2, by rw [List.mem_filter, decide_eq_true_iff, mem_rowOf g]; exact ⟨h2, h1⟩, rfl⟩
theorem mem_toldT {m : Nat} {ts : List Tie} (g : Good m ts) {t : Tie} : t ∈ toldT m ts ↔ t.1 < t.2 ∧ Adj ts t.1 t.2 := by
  unfold toldT
  rw [List.mem_flatMap]
  constructor
  · rintro ⟨i, _, h⟩
    exact ((mem_pickT g).mp h).2
  · intro h
    refine ⟨t.1, ?_, (mem_pickT g).mpr ⟨rfl, h⟩⟩
    rw [mem_pts]
    rcases h.2 with k | k
    · have := g.rng _ k
      exact ⟨this.1, this.2.1⟩
    · have := g.rng _ k
      exact ⟨this.2.2.1, this.2.2.2.1⟩
theorem toldT_strict {m : Nat} {ts : List Tie} (g : Good m ts) : (toldT m ts).Pairwise lexT := by
  unfold toldT
  rw [List.pairwise_flatMap]
  refine ⟨fun i _ => ?_, (pts_strict m).imp fun {i k} hik x hx y hy => ?_⟩
  · unfold pickT
    rw [List.pairwise_map]
    exact ((rowOf_strict m ts i).filter _).imp fun h => .inr ⟨rfl, h⟩
  · have h1 := ((mem_pickT g).mp hx).1
    have h2 := ((mem_pickT g).mp hy).1
    exact .inl (by omega)
def norm (t : Tie) : Tie := (min t.1 t.2, max t.1 t.2)
theorem norm_cases (t : Tie) : norm t = t ∨ norm t = (t.2, t.1) := by
  unfold norm
  obtain ⟨a, b⟩ := t
  by_cases h : a ≤ b
  · left
    show (min a b, max a b) = (a, b)
    rw [Int.min_eq_left h, Int.max_eq_right h]
  · right
    show (min a b, max a b) = (b, a)
    rw [Int.min_eq_right (by omega), Int.max_eq_left (by omega)]
theorem mem_norm {m : Nat} {ts : List Tie} (g : Good m ts) {t : Tie} : t ∈ ts.map norm ↔ t.1 < t.2 ∧ Adj ts t.1 t.2 := by
  rw [List.mem_map]
  constructor
  · rintro ⟨u, hu, rfl⟩
    have hne := (g.rng u hu).2.2.2.2
    obtain ⟨a, b⟩ := u
    refine ⟨?_, ?_⟩
    · show min a b < max a b
      have : a ≠ b := hne
      omega
    · rcases norm_cases (a, b) with e | e
      · rw [e]
        exact .inl hu
      · rw [e]
        exact .inr hu
  · rintro ⟨h1, h2⟩
    obtain ⟨a, b⟩ := t
    have h1 : a < b := h1
    rcases h2 with h2 | h2
    · refine ⟨_, h2, ?_⟩
      show (min a b, max a b) = (a, b)
      rw [Int.min_eq_left (by omega), Int.max_eq_right (by omega)]
    · refine ⟨_, h2, ?_⟩
      show (min b a, max b a) = (a, b)
      rw [Int.min_eq_right (by omega), Int.max_eq_left (by omega)]
theorem norm_nodup {m : Nat} : ∀ {ts : List Tie} (g : Good m ts), (ts.map norm).Nodup
  | [], _ => by simp
  | t :: ts, g => by
    have g' : Good m ts := ⟨fun u h => g.rng u (List.mem_cons_of_mem _ h), (List.pairwise_cons.mp g.ap).2⟩
    rw [List.map_cons, List.nodup_cons]
    refine ⟨fun h => ?_, norm_nodup g'⟩
    obtain ⟨u, hu, e⟩ := List.mem_map.mp h
    have q := (List.pairwise_cons.mp g.ap).1 u hu
    rcases norm_cases u with e1 | e1 <;> rcases norm_cases t with e2 | e2 <;> rw [e1, e2] at e
    · exact q.1 e.symm
    · exact q.2 (by rw [e])
    · exact q.2 e.symm
    · exact q.1 (by
        obtain ⟨a, b⟩ := t
        obtain ⟨c, d⟩ := u
        simp only [Prod.mk.injEq] at e ⊢
        exact ⟨e.2.symm, e.1.symm⟩)
theorem told_sorted {m : Nat} {ts ys : List Tie} (g : Good m ts) (hp : ys.Perm (ts.map norm)) (hs : ys.Pairwise fun a b => ¬ lexT b a) : ys = toldT m ts := by
  have nd : ys.Nodup := hp.nodup_iff.mpr (norm_nodup g)
  refine strict_uniq (lt := lexT) (fun a b h k => ?_) ?_ (toldT_strict g) fun x => ?_
  · unfold lexT at h k
    omega
  · have both := List.Pairwise.and hs nd
    refine both.imp fun {a b} h => ?_
    obtain ⟨h1, h2⟩ := h
    unfold lexT at h1 ⊢
    by_cases e1 : a.1 = b.1
    · by_cases e2 : a.2 = b.2
      · exact absurd (Prod.ext e1 e2) h2
      · omega
    · omega
  · rw [hp.mem_iff, mem_norm g, mem_toldT g]
theorem toldT_len {m : Nat} {ts : List Tie} (g : Good m ts) : (toldT m ts).length = ts.length := by
  have h1 : (toldT m ts).Nodup := (toldT_strict g).imp fun {a b} h e => by
    subst e
    unfold lexT at h
    omega
  have hp : (toldT m ts).Perm (ts.map norm) := (List.perm_ext_iff_of_nodup h1 (norm_nodup g)).mpr fun x => by rw [mem_norm g, mem_toldT g]
  have e := hp.length_eq
  rw [List.length_map] at e
  exact e
end Fd
namespace Fd
open PySem L2
/-! ### min and max of a pair of iL -/
def rPr (f : Int → Int → Int) (K : PySem.W.Frag) : List V → Hp → VK → Prop := fun vs H Q => ∃ (a : Addr) (i j : Int), vs = [V.ref a] ∧ SqT K H a [.int i, .int j] ∧ Q (.int (f i j)) H
section
variable {X : Cx}
theorem alike2 (i j : Int) : PySem.W.AlikeAll [PyData.int i, PyData.int j] := by
  refine ⟨fun x hx y hy => ?_, fun x hx => ?_⟩
  · simp only [List.mem_cons, List.not_mem_nil, or_false] at hx hy
    rcases hx with rfl | rfl <;> rcases hy with rfl | rfl <;> rfl
  · simp only [List.mem_cons, List.not_mem_nil, or_false] at hx
    rcases hx with rfl | rfl <;> intro z <;> cases z
theorem cr_minPr (hc : X.calm = true) (hu : X.A.units + 64 < cLine) : CallR X (.builtin "min") (rPr min X.K) := by
  intro pins s σ H vs us Q I r h
  obtain ⟨a, i, j, rfl, hT, q⟩ := h
  obtain ⟨its, rv, ⟨o, ho, hcl, n, hd⟩, _⟩ := I.tuple hT
  rw [Vals.ref1 r]
  obtain ⟨u1, u2, rfl, ri, rj⟩ := vals2 rv
  obtain ⟨t1, rfl⟩ := ri
  obtain ⟨t2, rfl⟩ := rj
  refine PySem.W.min_tuple_data (x := .int i) (xs := [.int j]) (I.ok.hd hc) ⟨o, ho, hcl, n, hd⟩ (.cons (.int i t1) (.cons (.int j t2) .nil)) (alike2 i j) ?_ fun k v h' tk bs hk hr keep => ?_
  · simp only [PyData.depthAll, PyData.depth]
    omega
  · rw [show PySem.W.minD (PyData.int i) [PyData.int j] = PyData.int (min i j) from PySem.W.minD_ints i [j]] at hr
    cases hr
    exact ⟨.int (min i j), H, I.kept keep, ⟨_, rfl⟩, q⟩
theorem cr_maxPr (hc : X.calm = true) (hu : X.A.units + 64 < cLine) : CallR X (.builtin "max") (rPr max X.K) := by
  intro pins s σ H vs us Q I r h
  obtain ⟨a, i, j, rfl, hT, q⟩ := h
  obtain ⟨its, rv, ⟨o, ho, hcl, n, hd⟩, _⟩ := I.tuple hT
  rw [Vals.ref1 r]
  obtain ⟨u1, u2, rfl, ri, rj⟩ := vals2 rv
  obtain ⟨t1, rfl⟩ := ri
  obtain ⟨t2, rfl⟩ := rj
  refine PySem.W.max_tuple_data (x := .int i) (xs := [.int j]) (I.ok.hd hc) ⟨o, ho, hcl, n, hd⟩ (.cons (.int i t1) (.cons (.int j t2) .nil)) (alike2 i j) ?_ fun k v h' tk bs hk hr keep => ?_
  · simp only [PyData.depthAll, PyData.depth]
    omega
  · rw [show PySem.W.maxD (PyData.int i) [PyData.int j] = PyData.int (max i j) from PySem.W.maxD_ints i [j]] at hr
    cases hr
    exact ⟨.int (max i j), H, I.kept keep, ⟨_, rfl⟩, q⟩
end
/-! ### pairs and lists of pairs in the heap -/
abbrev iL (xs : List Int) : List V := xs.map V.int
def PairAt (H : Hp) (v : V) (t : Tie) : Prop := ∃ a, v = .ref a ∧ H a = some (.tup [.int t.1, .int t.2])
abbrev PairsAt (H : Hp) (vs : List V) (ts : List Tie) : Prop := Paired (PairAt H) vs ts
theorem PairAt.same {H H' : Hp} (s : Same H H') {v : V} {t : Tie} (h : PairAt H v t) : PairAt H' v t := by
  obtain ⟨a, e, k⟩ := h
  exact ⟨a, e, s _ _ k⟩
theorem PairsAt.same {H H' : Hp} (s : Same H H') {vs : List V} {ts : List Tie} (h : PairsAt H vs ts) : PairsAt H' vs ts := Paired.mono (fun _ _ => PairAt.same s) h
theorem paired_get {α β : Type} {F : α → β → Prop} : ∀ {xs : List α} {ys : List β}, Paired F xs ys → ∀ {i : Nat} {x : α}, xs[i]? = some x → ∃ y, ys[i]? = some y ∧ F x y
  | _, _, .nil, i, x, h => by simp at h
  | _, _, .cons r t, 0, x, h => by
    cases Option.some.inj h
    exact ⟨_, rfl, r⟩
  | _, _, .cons r t, i + 1, x, h => paired_get t (i := i) (by simpa using h)
theorem paired_get' {α β : Type} {F : α → β → Prop} : ∀ {xs : List α} {ys : List β}, Paired F xs ys → ∀ {i : Nat} {y : β}, ys[i]? = some y → ∃ x, xs[i]? = some x ∧ F x y
  | _, _, .nil, i, x, h => by simp at h
  | _, _, .cons r t, 0, x, h => by
    cases Option.some.inj h
    exact ⟨_, rfl, r⟩
  | _, _, .cons r t, i + 1, x, h => paired_get' t (i := i) (by simpa using h)
theorem paired_drop {α β : Type} {F : α → β → Prop} : ∀ {xs : List α} {ys : List β}, Paired F xs ys → ∀ k, Paired F (xs.drop k) (ys.drop k)
  | _, _, h, 0 => h
  | _, _, .nil, _ + 1 => .nil
  | _, _, .cons _ t, k + 1 => paired_drop t k
theorem paired_take {α β : Type} {F : α → β → Prop} : ∀ {xs : List α} {ys : List β}, Paired F xs ys → ∀ k, Paired F (xs.take k) (ys.take k)
  | _, _, h, 0 => .nil
  | _, _, .nil, _ + 1 => .nil
  | _, _, .cons r t, k + 1 => .cons r (paired_take t k)
def prd (t : Tie) : PyData := .tuple [.int t.1, .int t.2]
theorem prd_lay (t : Tie) : (prd t).canLay0 = true := by simp [prd, PyData.canLay0, PyData.canLayAll0]
theorem prd_depth (t : Tie) : (prd t).depth = 1 := by simp [prd, PyData.depth, PyData.depthAll]
theorem prds_lay : ∀ ts : List Tie, PyData.canLayAll0 (ts.map prd) = true
  | [] => by simp [PyData.canLayAll0]
  | t :: ts => by simp [PyData.canLayAll0, prd_lay t, prds_lay ts]
theorem prds_depth : ∀ ts : List Tie, PyData.depthAll (ts.map prd) ≤ 1
  | [] => by simp [PyData.depthAll]
  | t :: ts => by
    have h1 := prds_depth ts
    have h2 := prd_depth t
    simp only [List.map_cons, PyData.depthAll]
    omega
theorem shaped_by {d : PyData} (h1 : d.canLay0 = true) (h2 : d.depth ≤ 64) : SeqAt.shaped d = true := by
  unfold SeqAt.shaped
  rw [h1, decide_eq_true h2, Bool.and_self]
theorem prd_shaped (t : Tie) : SeqAt.shaped (prd t) = true := shaped_by (prd_lay t) (by rw [prd_depth]; decide)
theorem prds_shaped (ts : List Tie) : SeqAt.shaped (.list (ts.map prd)) = true := by
  have h := prds_depth ts
  refine shaped_by (by simp only [PyData.canLay0]; exact prds_lay ts) ?_
  simp only [PyData.depth]
  omega
theorem prd_eqv (t u : Tie) : PyData.eqv (prd t) (prd u) = decide (t = u) := by
  obtain ⟨a, b⟩ := t
  obtain ⟨c, d⟩ := u
  simp only [prd, PyData.eqv, PyData.eqvAll, Bool.and_true]
  rw [Bool.eq_iff_iff]
  simp
theorem prds_any (ts : List Tie) (t : Tie) : ((ts.map prd).any fun z => PyData.eqv z (prd t)) = decide (t ∈ ts) := by
  rw [List.any_map, Bool.eq_iff_iff, List.any_eq_true, decide_eq_true_iff]
  constructor
  · rintro ⟨u, hu, e⟩
    have e : PyData.eqv (prd u) (prd t) = true := e
    rw [prd_eqv, decide_eq_true_iff] at e
    exact e ▸ hu
  · intro h
    exact ⟨t, h, by show PyData.eqv (prd t) (prd t) = true; rw [prd_eqv]; exact decide_eq_true rfl⟩
theorem prds_refl (ts : List Tie) : PyData.eqv (.list (ts.map prd)) (.list (ts.map prd)) = true := SeqAt.eqv_refl _ (SeqAt.canLay_of_shaped (prds_shaped ts))
theorem dp_pair {K : PySem.W.Frag} {H : Hp} {v : V} {t : Tie} (h : PairAt H v t) : Dp K H v (prd t) := by
  obtain ⟨a, rfl, k⟩ := h
  exact .tup (SqT.of k) (.cons (.int _) (.cons (.int _) .nil))
theorem dp_all {K : PySem.W.Frag} {H : Hp} : ∀ {vs : List V} {ts : List Tie}, PairsAt H vs ts → DpAll K H vs (ts.map prd)
  | _, _, .nil => .nil
  | _, _, .cons r t => .cons (dp_pair r) (dp_all t)
theorem dp_pairs {K : PySem.W.Frag} {H : Hp} {a : Addr} {vs : List V} {ts : List Tie} (h : SqL K H a vs) (k : PairsAt H vs ts) : Dp K H (.ref a) (.list (ts.map prd)) := .lst h (dp_all k)
theorem dpi_all {K : PySem.W.Frag} {H : Hp} : ∀ xs : List Int, DpAll K H (iL xs) (xs.map PyData.int)
  | [] => .nil
  | x :: xs => .cons (.int x) (dpi_all xs)
theorem dp_ints {K : PySem.W.Frag} {H : Hp} {a : Addr} {xs : List Int} (h : SqL K H a (iL xs)) : Dp K H (.ref a) (.list (xs.map PyData.int)) := .lst h (dpi_all xs)
theorem inl_lay : ∀ xs : List Int, PyData.canLayAll0 (xs.map PyData.int) = true
  | [] => by simp [PyData.canLayAll0]
  | t :: ts => by simp [PyData.canLayAll0, PyData.canLay0, inl_lay ts]
theorem inl_depth : ∀ xs : List Int, PyData.depthAll (xs.map PyData.int) = 0
  | [] => by simp [PyData.depthAll]
  | t :: ts => by simp [PyData.depthAll, PyData.depth, inl_depth ts]
theorem inl_shaped (xs : List Int) : SeqAt.shaped (.list (xs.map PyData.int)) = true := by
  have h := inl_depth xs
  refine shaped_by (by simp only [PyData.canLay0]; exact inl_lay xs) ?_
  simp only [PyData.depth]
  omega
theorem inl_refl (xs : List Int) : PyData.eqv (.list (xs.map PyData.int)) (.list (xs.map PyData.int)) = true := SeqAt.eqv_refl _ (SeqAt.canLay_of_shaped (inl_shaped xs))
theorem inV_ints (xs : List Int) (x : Int) : inV (.int x) (iL xs) = decide (x ∈ xs) := by
  unfold inV iL
  rw [List.any_map, Bool.eq_iff_iff, List.any_eq_true, decide_eq_true_iff]
  constructor
  · rintro ⟨u, hu, e⟩
    have e : (u == x) = true := e
    rw [beq_iff_eq] at e
    exact e ▸ hu
  · intro h
    exact ⟨x, h, beq_self_eq_true x⟩
theorem flat_ints (xs : List Int) : (iL xs).all flatV = true := by
  rw [List.all_eq_true]
  intro v hv
  obtain ⟨x, _, rfl⟩ := List.mem_map.mp hv
  rfl
theorem iL_at {xs : List Int} {i : Nat} {y : V} (h : (iL xs)[i]? = some y) : ∃ z, xs[i]? = some z ∧ y = V.int z := by
  rw [List.getElem?_map] at h
  cases e : xs[i]? with
  | none =>
    rw [e] at h
    cases h
  | some z =>
    rw [e] at h
    exact ⟨z, rfl, (Option.some.inj h).symm⟩
theorem iL_get {xs : List Int} {i : Nat} {z : Int} (h : xs[i]? = some z) : (iL xs)[i]? = some (.int z) := by
  rw [List.getElem?_map, h]
  rfl
/-! ### heaps -/
theorem Same.put {H : Hp} {p : Addr} {o : HO} (h : H p = none) : Same H (upd H p o) := fun b u e => by
  rw [upd_ne (ne_of_none e h)]
  exact e
theorem Same.step {H H1 : Hp} {p : Addr} {o : HO} (s : Same H H1) (h : H1 p = none) : Same H (upd H1 p o) := s.trans (Same.put h)
/-- a list that was new behind H is written -/
theorem Same.write {H H1 : Hp} {p : Addr} {o : HO} (s : Same H H1) (h : H p = none) : Same H (upd H1 p o) := fun b u e => by
  rw [upd_ne (ne_of_none e h)]
  exact s _ _ e
theorem small {n : Nat} (h : n ≤ 1000) : n < sizeLine := Nat.lt_of_le_of_lt h (by decide)
theorem smalle {n : Nat} (h : n ≤ 1000) : n ≤ sizeLine := Nat.le_of_lt (small h)
/-! ### rows: a list of lists of iL, all new behind H0, all apart -/
structure RowsAt (H0 H : Hp) (R : Addr) (as : List Addr) (rss : List (List Int)) : Prop where
  top : H R = some (.lst (as.map V.ref))
  new : H0 R = none
  len : as.length = rss.length
  nd : as.Nodup
  out : R ∉ as
  row : ∀ (i : Nat) (a : Addr) (r : List Int), as[i]? = some a → rss[i]? = some r → H0 a = none ∧ H a = some (.lst (iL r))
theorem RowsAt.get {H0 H : Hp} {R : Addr} {as : List Addr} {rss : List (List Int)} (h : RowsAt H0 H R as rss) {i : Nat} {r : List Int} (e : rss[i]? = some r) : ∃ a, as[i]? = some a ∧ (as.map V.ref)[i]? = some (.ref a) ∧ H0 a = none ∧ H a = some (.lst (iL r)) := by
  have hi : i < as.length := by
    rw [h.len]
    exact (List.getElem?_eq_some_iff.mp e).1
  have ea : as[i]? = some as[i] := List.getElem?_eq_getElem hi
  obtain ⟨k1, k2⟩ := h.row i _ r ea e
  refine ⟨as[i], ea, ?_, k1, k2⟩
  rw [List.getElem?_map, ea]
  rfl
theorem RowsAt.same {H0 H H' : Hp} {R : Addr} {as : List Addr} {rss : List (List Int)} (h : RowsAt H0 H R as rss) (s : Same H H') : RowsAt H0 H' R as rss :=
  ⟨s _ _ h.top, h.new, h.len, h.nd, h.out, fun i a r e1 e2 => ⟨(h.row i a r e1 e2).1, s _ _ (h.row i a r e1 e2).2⟩⟩
/-- what stood ahead may change -/
theorem RowsAt.apart {H0 H H' : Hp} {R : Addr} {as : List Addr} {rss : List (List Int)} (h : RowsAt H0 H R as rss) (s : ∀ b o, H b = some o → H0 b = none → H' b = some o) : RowsAt H0 H' R as rss :=
  ⟨s _ _ h.top h.new, h.new, h.len, h.nd, h.out, fun i a r e1 e2 => ⟨(h.row i a r e1 e2).1, s _ _ (h.row i a r e1 e2).2 (h.row i a r e1 e2).1⟩⟩
theorem RowsAt.older {H0 H1 H : Hp} {R : Addr} {as : List Addr} {rss : List (List Int)} (h : RowsAt H1 H R as rss) (s : Same H0 H1) : RowsAt H0 H R as rss :=
  ⟨h.top, s.free h.new, h.len, h.nd, h.out, fun i a r e1 e2 => ⟨s.free (h.row i a r e1 e2).1, (h.row i a r e1 e2).2⟩⟩
/-- a row more -/
theorem RowsAt.more {H0 H : Hp} {R p : Addr} {as : List Addr} {rss : List (List Int)} {r : List Int} (h : RowsAt H0 H R as rss) (s : Same H0 H) (hp : H p = none) :
    RowsAt H0 (upd (upd H p (.lst (iL r))) R (.lst (as.map V.ref ++ [.ref p]))) R (as ++ [p]) (rss ++ [r]) := by
  have pR : R ≠ p := ne_of_none h.top hp
  have pas : p ∉ as := fun hm => by
    obtain ⟨i, hi, e⟩ := List.getElem_of_mem hm
    have e' : as[i]? = some p := by rw [List.getElem?_eq_getElem hi, e]
    have hi2 : i < rss.length := by rw [← h.len]; exact hi
    have q := (h.row i p rss[i] e' (List.getElem?_eq_getElem hi2)).2
    rw [hp] at q
    cases q
  refine ⟨by rw [upd_same, List.map_append]; rfl, h.new, by simp [h.len], List.nodup_append.mpr ⟨h.nd, by simp, fun x hx y hy e => ?_⟩, fun hm => ?_, fun i a r' e1 e2 => ?_⟩
  · rw [List.mem_singleton.mp hy] at e
    exact pas (e ▸ hx)
  · rcases List.mem_append.mp hm with k | k
    · exact h.out k
    · exact pR (List.mem_singleton.mp k)
  · by_cases hi : i < as.length
    · rw [List.getElem?_append_left hi] at e1
      rw [List.getElem?_append_left (by rw [← h.len]; exact hi)] at e2
      obtain ⟨k1, k2⟩ := h.row i a r' e1 e2
      have aR : a ≠ R := fun e => h.out (e ▸ List.mem_of_getElem? e1)
      have ap : a ≠ p := ne_of_none k2 hp
      exact ⟨k1, by rw [upd_ne aR, upd_ne ap]; exact k2⟩
    · have hi' : as.length ≤ i := Nat.le_of_not_lt hi
      rw [List.getElem?_append_right hi'] at e1
      rw [List.getElem?_append_right (by rw [← h.len]; exact hi')] at e2
      obtain ⟨e1a, e1b⟩ := List.getElem?_eq_some_iff.mp e1
      obtain ⟨e2a, e2b⟩ := List.getElem?_eq_some_iff.mp e2
      simp only [List.getElem_singleton] at e1b e2b
      subst e1b
      subst e2b
      exact ⟨s.free hp, by rw [upd_ne pR.symm, upd_same]⟩
/-- a row is written -/
theorem RowsAt.write {H0 H : Hp} {R a : Addr} {as : List Addr} {rss : List (List Int)} {i : Nat} {r : List Int} (h : RowsAt H0 H R as rss) (e : as[i]? = some a) : RowsAt H0 (upd H a (.lst (iL r))) R as (rss.set i r) := by
  have aR : R ≠ a := fun z => h.out (z ▸ List.mem_of_getElem? e)
  refine ⟨by rw [upd_ne aR]; exact h.top, h.new, by rw [h.len, List.length_set], h.nd, h.out, fun j b r' e1 e2 => ?_⟩
  by_cases hj : i = j
  · subst hj
    have eb : a = b := Option.some.inj (e.symm.trans e1)
    subst eb
    have hi : i < rss.length := by
      rw [← h.len]
      exact (List.getElem?_eq_some_iff.mp e).1
    rw [List.getElem?_set_self hi] at e2
    cases Option.some.inj e2
    exact ⟨(h.row i a rss[i] e (List.getElem?_eq_getElem hi)).1, upd_same⟩
  · rw [List.getElem?_set_ne hj] at e2
    have ab : b ≠ a := fun z => hj (nd_ix h.nd e (z ▸ e1))
    obtain ⟨k1, k2⟩ := h.row j b r' e1 e2
    exact ⟨k1, by rw [upd_ne ab]; exact k2⟩
theorem RowsAt.sameW {H0 H : Hp} {R a : Addr} {as : List Addr} {rss : List (List Int)} {i : Nat} {o : HO} (h : RowsAt H0 H R as rss) (s : Same H0 H) (e : as[i]? = some a) : Same H0 (upd H a o) := by
  have hi : i < rss.length := by
    rw [← h.len]
    exact (List.getElem?_eq_some_iff.mp e).1
  exact Same.write s (h.row i a rss[i] e (List.getElem?_eq_getElem hi)).1
end Fd
namespace Fd
open PySem PySem.Spec PyProof.Rows L2
/-! ### defs as they stand behind the top -/
structure Fn (K : PySem.W.Frag) (mg : Str → Option Value) (x : Str) (st : Stmt) (ps : List Str) : Prop where
  ex : ∃ (f : Addr) (fd : FuncData), L2.Fun K x x st f fd ∧ mg x = some (.ref f) ∧ Binds K fd ps []
structure FnM (K : PySem.W.Frag) (C : Addr) (m qual : Str) (st : Stmt) (ps : List Str) : Prop where
  ex : ∃ (f : Addr) (fd : FuncData), L2.Fun K m qual st f fd ∧ Meth K C m f ∧ Binds K fd ps []
structure FnI (K : PySem.W.Frag) (C : Addr) (qual : Str) (st : Stmt) (ps : List Str) : Prop where
  ex : ∃ (f : Addr) (fd : FuncData), L2.Fun K "__init__" qual st f fd ∧ Mk K C f ∧ Binds K fd ps []
section
variable {P : Program} {w : World} {K : PySem.W.Frag} {mg : Str → Option Value} {base : Heap}
abbrev Body (P : Program) (w : World) (K : PySem.W.Frag) (mg : Str → Option Value) (base : Heap) (k : Nat) (qual : Str) (st : Stmt) (N : List Str) (sp : Sp) : Prop :=
  ∀ (f : Addr) (cdv : Value) (A : Around) (outer : List Env) (s : Shared) (H : Hp) (vs : List V) (Q : VK) (E : XK), Room k (A.deeper (envOfC qual (defScope st) s.heap.objs.size f cdv)) → sp vs H Q E →
    ∃ t, PSs (cxOf L2.CX0 P w K mg base N qual (defScope st) f cdv A outer s H E).nox (defBody st) t ∧ t { nx := fun _ H' => Q .non H', rt := Q } (start N vs) H
theorem cal_of {x : Str} {st : Stmt} {N ps : List Str} {k : Nat} {sp : Sp} (F : Fn K mg x st ps) (S : FnScope N ps (defScope st)) (len : ∀ vs H Q E, sp vs H Q E → vs.length = ps.length) (hb : Body P w K mg base k x st N sp) :
    C8.Cal P w K mg base (k + 1) x sp [] := by
  obtain ⟨f, fd, F, hm, b⟩ := F.ex
  exact ⟨f, fd, ps, [], F.ok S len fun cdv A outer s H vs Q E hr h => hb f cdv A outer s H vs Q E hr h, hm, F.kp, b, .nil⟩
theorem met_of {C : Addr} {m qual : Str} {st : Stmt} {N ps : List Str} {k : Nat} {sp : Sp} (c : Cls K C) (F : FnM K C m qual st ps) (S : FnScope N ps (defScope st)) (len : ∀ vs H Q E, sp vs H Q E → vs.length = ps.length) (hb : Body P w K mg base k qual st N sp) :
    C8.Met P w K mg base (k + 1) C m sp [] := by
  obtain ⟨f, fd, F, hm, b⟩ := F.ex
  exact ⟨f, fd, ps, [], c, hm, F.ok S len fun cdv A outer s H vs Q E hr h => hb f cdv A outer s H vs Q E hr h, b, .nil⟩
theorem mak_of {C : Addr} {x qual : Str} {st : Stmt} {N ps : List Str} {k : Nat} {sp : Sp} (g : mg x = some (.ref C)) (F : FnI K C qual st ps) (S : FnScope N ps (defScope st)) (len : ∀ vs H Q E, sp vs H Q E → vs.length = ps.length) (hb : Body P w K mg base k qual st N sp) :
    C8.Mak P w K mg base (k + 1) x C sp [] := by
  obtain ⟨f, fd, F, hm, b⟩ := F.ex
  exact ⟨f, fd, ps, [], hm, F.ok S len fun cdv A outer s H vs Q E hr h => hb f cdv A outer s H vs Q E hr h, g, b, .nil⟩
end
end Fd
namespace Fd
open PySem PySem.Spec PyProof.Rows L2
/-! ### what a call lets out within a try: wished for at any slots -/
abbrev EW (N : List Str) (W : WX) : XK := fun cls d H => ∀ σ : L2.St, σ.length = N.length → W cls d σ H
theorem passW {X : Cx} {W : WX} (tk : Takes X W) : Passes (L2.CX X.prog X.w) X (EW X.N W) := fun _ σ _ _ u st I c => tk u st (XE.of_call I (fun _ _ _ h => h σ I.len) c)
/-! ### a def that is handed the caught error -/
structure FnX (P : Program) (w : World) (K : PySem.W.Frag) (mg : Str → Option Value) (base : Heap) (k : Nat) (f : Addr) (fd : FuncData) (ps : List Str) (D : Addr) (sp : Addr → Sp) : Prop where
  run : ∀ (B : Around) (out : List Env) (st : Shared) (G : Hp) (us : List Value) (vs : List V) (R : VK) (p : Addr × Obj), L2H.RoomH k B → Zc (.ref D) none p.2 → (∃ z, p.2.data = .fields z) → L2H.PinOk out G st p →
    Env0 P w K mg base B out st G → BindsTo st fd ⟨us, []⟩ (ps.zip us) → Vals vs us → vs.length = ps.length → sp p.1 vs G R L2.E0 → codeAny (model P w) B (.call (.ref f) ⟨us, []⟩) (CR L2.CX0 out P w G st R L2.E0) st
theorem fnX_of {P : Program} {w : World} {K : PySem.W.Frag} {mg : Str → Option Value} {base : Heap} {k : Nat} {f D : Addr} {x qual : Str} {st0 : Stmt} {fd : FuncData} {N ps : List Str} {sp : Addr → Sp} (F : L2.Fun K x qual st0 f fd) (S : FnScope N ps (defScope st0))
    (hb : ∀ (cdv : Value) (B : Around) (out : List Env) (st : Shared) (G : Hp) (vs : List V) (R : VK) (p : Addr × Obj), Zc (.ref D) none p.2 → (∃ z, p.2.data = .fields z) → sp p.1 vs G R L2.E0 →
      ∃ t, PSs (L2H.cxH L2.CX0 P w K mg base N qual (defScope st0) f cdv B out st G L2.E0 p).nox (defBody st0) t ∧ t { nx := fun _ G' => R .non G', rt := R } (L2.start N vs) G) : FnX P w K mg base (k + 1) f fd ps D sp := by
  obtain ⟨oc, od, kV, doc, pm, an, cdv, ct, osl, rfl, lk, hcd⟩ := F.ex
  refine ⟨fun B out st G us vs R p room hz hf hpin e0 bind r hl hsp => ?_⟩
  have kin : K.In st.heap := e0.mod.kin.keeps fun b o e => (e0.bs b o e).1
  have nolim : st.heap.NoLimit := e0.mod.nolimit.keeps fun b o e => (e0.bs b o e).1
  have kinds : ∀ z ∈ ps.zip us, (defScope st0).names.lookup z.1 = some .local ∨ ((defScope st0).names.lookup z.1 = some .cell ∧ ((cellsFrom (st.heap.objs.size + 1) (defScope st0).names []).lookup z.1).isSome = true) := fun ⟨n, v⟩ hz => by
    rcases S.par n (List.of_mem_zip hz).1 with q | q
    · exact .inl q
    · exact .inr ⟨q, PySem.W.cellsFrom_some _ _ _ (.inl q)⟩
  refine codeAny_call_function room.depth (kin _ _ lk) rfl S.co S.gen rfl (PySem.W.codeRec_of kin hcd) (bind _ _ _ _ ?_)
  refine wpAny_newFunctionEnv_cells S.kind kinds fun env he st1 into => ?_
  subst he
  refine ⟨nolim.keeps into.toInCall.keep, codeAny_func ?_⟩
  obtain ⟨t, ht, hq⟩ := hb cdv B out st G vs R p hz hf hsp
  have I := (L2H.inv_startH (CX := L2.CX0) (E := L2.E0) S hpin e0 hl r into).wish fun _ _ => False
  refine wpAny_mono (ht.run [] st1 _ G _ I hq) (fun fl s' hs => ?_) fun e s' hs => hs.elim
  cases fl with
  | next =>
    obtain ⟨σ', G', J, q⟩ := hs
    exact ⟨V.non, G', J.os, J.bare, J.base, J.hok, rfl, q⟩
  | ret u =>
    obtain ⟨v, σ', G', J, rv, q⟩ := hs
    exact ⟨v, G', J.os, J.bare, J.base, J.hok, rv, q⟩
  | brk => exact hs.elim fun _ h => h.elim fun _ h => h.2.elim
  | cont => exact hs.elim fun _ h => h.elim fun _ h => h.2.elim
/-- f(n), n the name of the caught error, within the except suite -/
def tCallX (D0 : Value) (d0 : Option Addr) (a : Addr) (D : Addr) (sp : Addr → Sp) (t : TA) : TE := fun σ H Q => (D0 = .ref D ∧ d0 = none) ∧ t σ H fun vs H1 => vs.length = 1 ∧ sp a vs H1 Q L2.E0
section
variable {X : Cx}
theorem pe_callX {k : Nat} {f a D : Addr} {fd : FuncData} {ps : List Str} {sp : Addr → Sp} {oe : Obj} {cls : Value} {d : Option Addr} {pn : List (Addr × Obj)} {x : Str} {q pos : Pos} {e : Expr} {t : TA} (F : FnX X.prog X.w X.K X.mg X.base k f fd ps D sp) (hp1 : ps.length = 1) (hr : Room k X.A)
    (hz : Zc cls d oe) (hf : ∃ z, oe.data = .fields z) (hg : Gl X x) (hm : X.mg x = some (.ref f)) (hk : PySem.W.keepIn X.K (.ref f) = true) (hb : Binds X.K fd ps []) (ha : PA (X.suite a ((a, oe) :: pn)) [e] t)
    (hdb : (x == ("__debug__" : Str)) = false := by decide) (he : starEach [e] (X.suite a ((a, oe) :: pn)).env = (false, eval e (X.suite a ((a, oe) :: pn)).env) :: starEach [] (X.suite a ((a, oe) :: pn)).env := by rfl)
    (hpl : (backTo pos (starEach [] (X.suite a ((a, oe) :: pn)).env)).any (·.1) = false := by rfl) :
    PE (X.suite a ((a, oe) :: pn)) (.Call (.Name x q) [e] [] pos) (tCallX cls d a D sp t) := by
  refine ⟨fun pins s σ H Q I h => ?_⟩
  obtain ⟨⟨rfl, rfl⟩, h⟩ := h
  refine wpAny_Call_Name_kw (ld_glob I hg hm ?_ hdb)
  refine PySem.W.callWith_K (h₀ := X.base) I.ok.mod.kin hk (thn (ha.run pos pins s σ H _ I h) fun us s1 ⟨vs, H1, I1, r, hl, q⟩ => ⟨I1.kIn, ?_⟩) he hpl
  have lu : us.length = ps.length := by rw [← r.length, hl, hp1]
  have b := hb s1 us I1.kIn (by rw [List.append_nil]; exact lu)
  rw [List.append_nil] at b
  have pin := I1.pin (a, oe) (List.mem_append_left _ List.mem_cons_self)
  have ok : L2H.PinOk (X.suite a ((a, oe) :: pn)).stack H1 s1 (a, oe) := ⟨pin.1, pin.2.1, fun hm => (List.mem_cons.mp (I1.stkSub a hm)).elim pin.2.2.1 pin.2.2.2.1, pin.2.2.2.2⟩
  refine wpAny_call (codeAny_mono (F.run _ _ s1 H1 us vs Q (a, oe) (L2H.roomH_of (A := X.A) hr |> fun z => ⟨z.dp, z.un⟩) hz hf ok I1.env0 b r (by rw [hl, hp1]) q) fun res s' hq => ?_)
  cases res with
  | error e => exact hq.elim
  | ok fl =>
    cases fl with
    | ret u => exact I1.after hq
    | next => exact hq.elim
    | brk => exact hq.elim
    | cont => exact hq.elim
/-- isinstance of the caught error within the def it was handed to -/
def rIsX (K : PySem.W.Frag) (D a : Addr) : List V → Hp → VK → Prop := fun xs H Q => ∃ (c : V) (cv : Value) (b : Bool), xs = [.ref a, c] ∧ (∀ u, RelV c u → u = cv) ∧ PySem.W.kitOne K (.ref D) cv = some b ∧ Q (.bl b) H
theorem call_isX {D : Addr} {p : Addr × Obj} (hp : p ∈ X.pn) (C : ExcC X.K D) (hz : Zc (.ref D) none p.2) (hf : ∃ z, p.2.data = .fields z) : CallR X (.builtin "isinstance") (rIsX X.K D p.1) := by
  intro pins s σ H xs us Q I r h
  obtain ⟨c, cv, b, rfl, hcv, e, q⟩ := h
  obtain ⟨u1, u2, rfl, r1, r2⟩ := vals2 r
  cases r1
  have ec := hcv _ r2
  subst ec
  have got := (I.pin p (List.mem_append_left _ hp)).1
  obtain ⟨pa, po⟩ := p
  obtain ⟨z, hv⟩ := hf
  have J : PySem.W.InstAt s.heap pa po D none := by
    obtain ⟨oc, od, oda, osl⟩ := po
    obtain ⟨z1, z2⟩ := hz
    dsimp only at z1 z2 hv
    subst z1
    subst z2
    subst hv
    exact ⟨got, rfl, rfl, trivial⟩
  exact PySem.W.kia_one (PySem.W.handS_kitx_exc C.hg C.hk C.hs C.hd C.ha C.hn C.ht C.hm) I.kIn J e (fun y => nomatch y) fun tk => ⟨.bl b, H, I.tok tk, rfl, q⟩
/-- a text times nought or one -/
def rRepS : R2 := fun x y H Q => ∃ (z : Str) (b : Bool), x = .str z ∧ y = .int (if b then 1 else 0) ∧ Q (.str (if b then z else Str.empty)) H
theorem op_repS : OpR X (binaryOp .Mult) rRepS := by
  intro pins s σ H x y v u Q I rx ry h
  obtain ⟨z, b, rfl, rfl, q⟩ := h
  obtain ⟨t, rfl⟩ := rx
  cases b with
  | true =>
    obtain ⟨t', rfl⟩ : ∃ t', u = Value.int 1 t' := ry
    refine P.mul_str (by decide) (fun _ h => ?_) (fun _ h => ?_) ?_
    · simp at h
    · simp at h
    · rw [if_neg (by decide), if_pos (by simp)]
      exact ⟨.str z, H, I, ⟨t, rfl⟩, q⟩
  | false =>
    obtain ⟨t', rfl⟩ : ∃ t', u = Value.int 0 t' := ry
    exact P.mul_str_none (by decide) (by decide) ⟨.str Str.empty, H, I.tok _, ⟨_, rfl⟩, q⟩
end
end Fd
namespace Fd
open PySem L2
def top (i : Nat) : Stmt := PySem.Challenge.pw_flatdraw_k05_turns_looked_at.main.body.getD i (.Pass ⟨0, 0, 0, 0⟩)
abbrev sWall : Stmt := top 0
abbrev sReached : Stmt := top 7
abbrev sWebInit : Stmt := inClass (top 11) 0
abbrev sWebTies : Stmt := inClass (top 11) 1
abbrev sWebBeside : Stmt := inClass (top 11) 2
abbrev sWebTied : Stmt := inClass (top 11) 3
abbrev sWebPieces : Stmt := inClass (top 11) 4
abbrev sWebCheckPoint : Stmt := inClass (top 11) 5
abbrev sJoined : Stmt := top 12
abbrev sIsTie : Stmt := top 13
abbrev sIsPoint : Stmt := top 14
abbrev sIsNumber : Stmt := top 15
abbrev sAreTurns : Stmt := top 17
abbrev sWalks : Stmt := top 18
abbrev sFlat : Stmt := top 19
abbrev sCheckTurns : Stmt := top 20
abbrev sIsTurn : Stmt := top 21
abbrev sWalk : Stmt := top 22
abbrev sBehind : Stmt := top 23
abbrev sIsFlat : Stmt := top 24
abbrev sLawCellAt : Stmt := top 26
abbrev sLawWhole : Stmt := top 27
abbrev sLawMany : Stmt := top 28
abbrev sLawTies : Stmt := top 29
abbrev sLawOrderBy : Stmt := top 30
abbrev sLawTurnsBy : Stmt := top 31
abbrev sLawSpoilt : Stmt := top 32
abbrev sLawIsRight : Stmt := top 33
abbrev sLawWord : Stmt := top 34
abbrev sLawRefused : Stmt := top 35
abbrev sLaw : Stmt := top 36
end Fd
namespace Fd
open PySem PySem.Spec PyProof.Rows L2
/-! ### what the top has left, as far as the webs ask -/
structure WTxt (K : PySem.W.Frag) (mg : Str → Option Value) (C : Addr) : Prop where
  cl : Cls K C
  nMany : NoAttr K C "many"
  nRows : NoAttr K C "_rows"
  gWeb : mg "Web" = some (.ref C)
  mostP : ∃ t, mg "MOST_POINTS" = some (.int 16 t)
  mostT : ∃ t, mg "MOST_TIES" = some (.int 40 t)
  len : mg "len" = none
  type : mg "type" = none
  int : mg "int" = none
  list : mg "list" = none
  tuple : mg "tuple" = none
  range : mg "range" = none
  sorted : mg "sorted" = none
  fNum : Fn K mg "is_number" sIsNumber ["thing"]
  fPoint : Fn K mg "is_point" sIsPoint ["many", "thing"]
  fTie : Fn K mg "_is_tie" sIsTie ["many", "thing"]
  fJoined : Fn K mg "_joined" sJoined ["many", "ties"]
  fInit : FnI K C "Web.__init__" sWebInit ["self", "many", "ties"]
/-! ### the small tests -/
def spNum (K : PySem.W.Frag) : Sp := fun vs H Q _ => ∃ (x : V) (T : String), vs = [x] ∧ TyB K H x T ∧ Q (.bl (decide (T = "int"))) H
def isPt (m : Int) : V → Bool
  | .int i => decide (0 ≤ i) && decide (i < m)
  | _ => false
def spPoint (K : PySem.W.Frag) : Sp := fun vs H Q _ => ∃ (m : Int) (x : V) (T : String), vs = [.int m, x] ∧ TyB K H x T ∧ Q (.bl (isPt m x)) H
theorem isPt_int {m : Int} {x : V} (h : isPt m x = true) : ∃ i, x = .int i := by
  cases x with
  | int i => exact ⟨i, rfl⟩
  | _ => cases h
def tieOk (m : Int) : List V → Bool
  | [y, z] => isPt m y && isPt m z && !decide (y = z)
  | _ => false
def spTie (K : PySem.W.Frag) : Sp := fun vs H Q _ => ∃ (m : Int) (x : V), vs = [.int m, x] ∧
  ((∃ T, TyB K H x T ∧ T ≠ "tuple" ∧ Q (.bl false) H) ∨ ∃ (a : Addr) (xs : List V), x = .ref a ∧ SqT K H a xs ∧ (∀ y ∈ xs, ∃ T, TyB K H y T) ∧ Q (.bl (tieOk m xs)) H)
section
variable {P : Program} {w : World} {K : PySem.W.Frag} {mg : Str → Option Value} {base : Heap} {C : Addr}
theorem scNum : FnScope ["thing"] ["thing"] (defScope sIsNumber) := ⟨rfl, rfl, rfl, by decide +kernel, rfl, by decide +kernel, by decide +kernel⟩
theorem c_num (T : WTxt K mg C) : C8.Cal P w K mg base 1 "is_number" (spNum K) [] := by
  refine cal_of T.fNum scNum (fun vs H Q E h => ?_) (fun f cdv A outer s H vs Q E hr h => ?_)
  · obtain ⟨x, t, rfl, _⟩ := h
    rfl
  · obtain ⟨x, t, rfl, ht, k⟩ := h
    refine ⟨_, pss_one (ps_ret (pe_cmpR op_eqTy (pe_callTy call_type1 (by rfl) T.type (by decide +kernel) (pa_cons (pv 0) pa_nil)) (pe_bltn (v := .ty "int") (by rfl) T.int (by decide +kernel) rfl) (nomark _))), ?_⟩
    exact ⟨_, rfl, x, t, rfl, ht, t, "int", rfl, rfl, TyB_kind ht, by decide, k⟩
theorem scPoint : FnScope ["many", "thing"] ["many", "thing"] (defScope sIsPoint) := ⟨rfl, rfl, rfl, by decide +kernel, rfl, by decide +kernel, by decide +kernel⟩
theorem c_point (T : WTxt K mg C) : C8.Cal P w K mg base 2 "is_point" (spPoint K) [] := by
  refine cal_of T.fPoint scPoint (fun vs H Q E h => ?_) (fun f cdv A outer s H vs Q E hr h => ?_)
  · obtain ⟨m, x, t, rfl, _⟩ := h
    rfl
  · obtain ⟨m, x, t, rfl, ht, k⟩ := h
    refine ⟨_, pss_one (ps_ret (pe_and (C8.pe_c (c_num T) hr (by decide) (by rfl) (pa_cons (pv 1) pa_nil)) (pe_one (pe_chain op_le op_lt pe_int (pv 1) (pv 0))))), ?_⟩
    refine ⟨_, rfl, x, t, rfl, ht, _, rfl, ?_⟩
    cases ht with
    | int i =>
      refine iteT ?_
      refine ⟨_, rfl, 0, i, rfl, rfl, _, rfl, ?_⟩
      refine ite2 (fun c => ?_) (fun c => ?_)
      · refine ⟨_, rfl, i, m, rfl, rfl, ?_⟩
        have e : isPt m (.int i) = decide (i < m) := by
          show (decide (0 ≤ i) && decide (i < m)) = _
          rw [c, Bool.true_and]
        rw [e] at k
        exact k
      · have e : isPt m (.int i) = false := by
          show (decide (0 ≤ i) && decide (i < m)) = _
          rw [Bool.eq_false_iff.mpr c, Bool.false_and]
        rw [e] at k
        exact k
    | non => exact k
    | bl b => exact k
    | str x => exact k
    | byt b => exact k
    | lst h => exact k
    | tup h => exact k
    | dK h => exact k
theorem scTie : FnScope ["many", "thing", "one", "other"] ["many", "thing"] (defScope sIsTie) := ⟨rfl, rfl, rfl, by decide +kernel, rfl, by decide +kernel, by decide +kernel⟩
theorem c_tie (T : WTxt K mg C) : C8.Cal P w K mg base 3 "_is_tie" (spTie K) [] := by
  refine cal_of T.fTie scTie (fun vs H Q E h => ?_) (fun f cdv A outer s H vs Q E hr h => ?_)
  · obtain ⟨m, x, rfl, _⟩ := h
    rfl
  · obtain ⟨m, x, rfl, h⟩ := h
    refine ⟨_, pss_cons (ps_if (PW.pt (pw_or (pt_cmpR op_neTy (pe_callTy call_type1 (by rfl) T.type (by decide +kernel) (pa_cons (pv 1) pa_nil)) (pe_bltn (v := .ty "tuple") (by rfl) T.tuple (by decide +kernel) rfl) (nomark _))
        (pw_or1 (pt_cmpR op_ne (pe_callB call_len_seq (by rfl) T.len PySem.boot_len (pa_cons (pv 1) pa_nil)) pe_int (nomark _))))) (pss_one (ps_ret pe_bl)) pss_nil)
      (pss_cons (ps_asg (pv 1) (pg_tup (by rfl) (pgs_cons (pg_name (i := 2) scTie.nd rfl (.inl rfl)) (pgs_cons (pg_name (i := 3) scTie.nd rfl (.inl rfl)) pgs_nil))))
      (pss_one (ps_ret (pe_and (C8.pe_c (c_point T) hr (by decide) (by rfl) (pa_cons (pv 0) (pa_cons (pv 2) pa_nil)))
        (pe_and (C8.pe_c (c_point T) hr (by decide) (by rfl) (pa_cons (pv 0) (pa_cons (pv 3) pa_nil))) (pe_one (pe_cmpR op_ne (pv 2) (pv 3) (nomark _)))))))), ?_⟩
    rcases h with ⟨t, ht, hne, k⟩ | ⟨a, xs, rfl, hT, hy, k⟩
    · refine ⟨_, rfl, x, t, rfl, ht, t, "tuple", rfl, rfl, TyB_kind ht, by decide, _, rfl, ?_⟩
      rw [decide_eq_false hne]
      exact iteT (iteT k)
    · refine ⟨_, rfl, .ref a, "tuple", rfl, .tup hT, "tuple", "tuple", rfl, rfl, by decide, by decide, _, rfl, ?_⟩
      refine iteF ?_
      refine ⟨_, rfl, a, xs, rfl, .inr hT, rfl, _, rfl, ?_⟩
      match xs, hT, hy, k with
      | [], _, _, k => exact iteT k
      | [_], _, _, k => exact iteT k
      | _ :: _ :: _ :: l, _, _, k =>
        refine ite2 (fun _ => k) (fun c => ?_)
        refine absurd ?_ c
        rw [Bool.not_eq_true', decide_eq_false_iff_not]
        intro z
        have z : (((l.length + 1 + 1 + 1 : Nat)) : Int) = 2 := V.int.inj z
        omega
      | [y, z], hT, hy, k =>
        obtain ⟨t1, h1⟩ := hy y (by simp)
        obtain ⟨t2, h2⟩ := hy z (by simp)
        refine iteF ?_
        refine ⟨_, rfl, a, [y, z], rfl, hT, rfl, y, [z], rfl, z, [], rfl, rfl, ?_⟩
        refine ⟨_, rfl, _, rfl, m, y, t1, rfl, h1, _, rfl, ?_⟩
        refine ite2 (fun c1 => ?_) (fun c1 => ?_)
        · refine ⟨_, rfl, _, rfl, m, z, t2, rfl, h2, _, rfl, ?_⟩
          refine ite2 (fun c2 => ?_) (fun c2 => ?_)
          · obtain ⟨i, rfl⟩ := isPt_int c1
            obtain ⟨j, rfl⟩ := isPt_int c2
            refine ⟨_, rfl, _, rfl, rfl, ?_⟩
            have e : tieOk m [.int i, .int j] = !decide (V.int i = V.int j) := by
              show (isPt m (.int i) && isPt m (.int j) && !decide (V.int i = V.int j)) = _
              rw [c1, c2, Bool.and_self, Bool.true_and]
            rw [e] at k
            exact k
          · have e : tieOk m [y, z] = false := by
              show (isPt m y && isPt m z && !decide (y = z)) = _
              rw [c1, Bool.eq_false_iff.mpr c2, Bool.and_false, Bool.false_and]
            rw [e] at k
            exact k
        · have e : tieOk m [y, z] = false := by
            show (isPt m y && isPt m z && !decide (y = z)) = _
            rw [Bool.eq_false_iff.mpr c1, Bool.false_and, Bool.false_and]
          rw [e] at k
          exact k
end
end Fd
namespace Fd
open PySem PySem.Spec PyProof.Rows L2
theorem no_ {b : Bool} {A B : Prop} (e : b = false) (h : B) : if b = true then A else B := by
  rw [e]
  exact iteF h
theorem yep_ {b : Bool} {A B : Prop} (e : b = true) (h : A) : if b = true then A else B := by
  rw [e]
  exact iteT h
theorem yes_ {σ : L2.St} {H : Hp} {Q : Bool → Hp → Prop} (h : Q true H) : tYes σ H Q := h
theorem RowsAt.start {H : Hp} {D : Addr} (h : H D = none) : RowsAt H (upd H D (.lst [])) D [] [] :=
  ⟨upd_same, h, rfl, List.nodup_nil, by simp, fun i a r e _ => by simp at e⟩
/-! ### the rows as they grow -/
def nbRows (m : Nat) (ts : List Tie) : List (List Int) := (pts m).map (nb ts)
theorem nbRows_at {m : Nat} {ts : List Tie} {i : Nat} (h : i < m) : (nbRows m ts)[i]? = some (nb ts i) := by
  unfold nbRows
  rw [List.getElem?_map, pts_at h]
  rfl
theorem nbRows_len (m : Nat) (ts : List Tie) : (nbRows m ts).length = m := by simp [nbRows, pts_len]
theorem nbRows_nil (m : Nat) : nbRows m [] = List.replicate m [] := by
  unfold nbRows
  rw [show (nb [] : Int → List Int) = fun _ => [] from rfl, List.map_const', pts_len]
theorem nbRows_step {m : Nat} {ts : List Tie} {p q : Nat} (hp : p < m) (hq : q < m) (hne : p ≠ q) :
    ((nbRows m ts).set p (nb ts p ++ [(q : Int)])).set q (nb ts q ++ [(p : Int)]) = nbRows m (ts ++ [((p : Int), (q : Int))]) := by
  refine List.ext_getElem? fun j => ?_
  by_cases hj : j < m
  · rw [nbRows_at hj, nb_snoc]
    by_cases h2 : q = j
    · subst h2
      rw [List.getElem?_set_self (by rw [List.length_set, nbRows_len]; exact hj)]
      have e : here ((p : Int), (q : Int)) (q : Int) = [(p : Int)] := by
        unfold here
        rw [if_neg (by show ¬ (p : Int) = (q : Int); omega), if_pos rfl]
        rfl
      rw [e]
    · rw [List.getElem?_set_ne h2]
      by_cases h1 : p = j
      · subst h1
        rw [List.getElem?_set_self (by rw [nbRows_len]; exact hj)]
        have e : here ((p : Int), (q : Int)) (p : Int) = [(q : Int)] := by
          unfold here
          rw [if_pos rfl, if_neg (by show ¬ (q : Int) = (p : Int); omega)]
          rfl
        rw [e]
      · rw [List.getElem?_set_ne h1, nbRows_at hj]
        have e : here ((p : Int), (q : Int)) (j : Int) = [] := by
          unfold here
          rw [if_neg (by show ¬ (p : Int) = (j : Int); omega), if_neg (by show ¬ (q : Int) = (j : Int); omega)]
          rfl
        rw [e, List.append_nil]
  · rw [List.getElem?_eq_none (by rw [List.length_set, List.length_set, nbRows_len]; omega), List.getElem?_eq_none (by rw [nbRows_len]; omega)]
theorem here_len (t : Tie) (p : Int) : (here t p).length ≤ 2 := by
  unfold here
  rw [List.length_append]
  split <;> split <;> simp
theorem nb_len : ∀ (ts : List Tie) (p : Int), (nb ts p).length ≤ 2 * ts.length
  | [], _ => by simp [nb]
  | t :: ts, p => by
    have e : nb (t :: ts) p = here t p ++ nb ts p := by simp [nb]
    have h1 := here_len t p
    have h2 := nb_len ts p
    rw [e, List.length_append, List.length_cons]
    omega
end Fd
namespace Fd
open PySem PySem.Spec PyProof.Rows L2
def spJoined (K : PySem.W.Frag) : Sp := fun vs H Q _ => ∃ (m : Nat) (a : Addr) (ws : List V) (ts : List Tie), vs = [.int m, .ref a] ∧ SqL K H a ws ∧ PairsAt H ws ts ∧ Good m ts ∧ m ≤ 16 ∧ ts.length ≤ 40 ∧
  ∀ (H' : Hp) (R : Addr) (as : List Addr), Same H H' → RowsAt H H' R as (rowsOf m ts) → Q (.ref R) H'
section
variable {P : Program} {w : World} {K : PySem.W.Frag} {mg : Str → Option Value} {base : Heap} {C : Addr}
theorem scJoined : FnScope ["many", "ties", "rows", "tie", "one", "other", "_", "row"] ["many", "ties"] (defScope sJoined) := ⟨rfl, rfl, rfl, by decide +kernel, rfl, by decide +kernel, by decide +kernel⟩
theorem c_joined (T : WTxt K mg C) : C8.Cal P w K mg base 4 "_joined" (spJoined K) [] := by
  refine cal_of T.fJoined scJoined (fun vs H Q E h => ?_) (fun f cdv A outer s H vs Q E hr h => ?_)
  · obtain ⟨m, a, ws, ts, rfl, _⟩ := h
    rfl
  · obtain ⟨m, a, ws, ts, rfl, hS, hP, g, hm, ht, k⟩ := h
    refine ⟨_, pss_cons (ps_setLc (i := 2) (own := [("_", 6)]) (g := gName 6) (tt := tYes) (by rfl) scJoined.nd rfl rfl (sw_true rfl rfl rfl (by decide +kernel)) (pi_range1 (by rfl) T.range (pa_cons (pv 0) pa_nil))
        (blkOk_by (own := [("_", 6)]) (N := ["many", "ties", "rows", "tie", "one", "other", "_", "row"]) (sc := defScope sJoined) (by decide +kernel)) (fun _ _ _ _ _ => pg_name (i := 6) scJoined.nd rfl (Or.inl rfl)) (fun _ _ _ _ _ => pts_nil) (fun _ _ _ _ _ => pe_lst pa_nil))
      (pss_cons (ps_for PassesOwn.never rfl (pi_list (pv 1)) (pg_name (i := 3) scJoined.nd rfl (Or.inl rfl))
        (pss_cons (ps_if (pt_not (pt_val (C8.pe_c (c_tie T) hr (by decide) (by rfl) (pa_cons (pv 0) (pa_cons (pv 3) pa_nil))))) (pss_one ps_never) pss_nil)
        (pss_cons (ps_asg (pv 3) (pg_tup (by rfl) (pgs_cons (pg_name (i := 4) scJoined.nd rfl (.inl rfl)) (pgs_cons (pg_name (i := 5) scJoined.nd rfl (.inl rfl)) pgs_nil))))
        (pss_cons (ps_if (pt_cmpR op_in_seq (pv 5) (pe_ix ix_list (pv 2) (pv 4) (fun _ _ => rfl)) (by rfl)) (pss_one ps_never) pss_nil)
        (pss_cons (ps_expr (pe_bm PySem.F.plainAttrs_list PySem.F.slot_list_append PySem.F.type_list_append mt_append (pe_ix ix_list (pv 2) (pv 4) (fun _ _ => rfl)) (pa_cons (pv 5) pa_nil)))
        (pss_one (ps_expr (pe_bm PySem.F.plainAttrs_list PySem.F.slot_list_append PySem.F.type_list_append mt_append (pe_ix ix_list (pv 2) (pv 5) (fun _ _ => rfl)) (pa_cons (pv 4) pa_nil)))))))))
      (pss_one (ps_ret (pe_lc (own := [("row", 7)]) (g := gName 7) (tt := tYes) (by rfl) scJoined.nd (pi_list (pv 2))
        (blkOk_by (own := [("row", 7)]) (N := ["many", "ties", "rows", "tie", "one", "other", "_", "row"]) (sc := defScope sJoined) (by decide +kernel)) (fun _ _ _ _ _ => pg_name (i := 7) scJoined.nd rfl (Or.inl rfl)) (fun _ _ _ _ _ => pts_nil)
        (fun _ _ _ _ _ => pe_callB (id := "sorted") (r := rSortedI K) cr_sortedI (by rfl) T.sorted (by decide +kernel) (pa_cons (pv 7) pa_nil)))))), ?_⟩
    -- rows = [[] for _ in range(many)]
    refine ⟨_, rfl, (m : Int), rfl, by omega, by omega, fun R hR => ?_⟩
    refine lc_range (lo := 0) (n := (m : Int).toNat) (fun i H1 => Same H H1 ∧ ∃ bs, RowsAt H H1 R bs (List.replicate i [])) ⟨Same.put hR, [], RowsAt.start hR⟩ (fun i H1 hi ⟨s1, bs, r1⟩ => ?_) (fun H1 ⟨s1, as, r1⟩ => ?_)
    · refine ⟨rfl, ?_⟩
      refine yes_ ?_
      refine iteT ?_
      refine ⟨Nat.zero_le _, fun p hp => ?_⟩
      have pR : R ≠ p := ne_of_none r1.top hp
      refine ⟨bs.map V.ref, by rw [upd_ne pR]; exact r1.top, ?_, ?_⟩
      · rw [List.length_map, r1.len, List.length_replicate]
        exact small (by omega)
      · refine ⟨Same.write (Same.step s1 hp) hR, bs ++ [p], ?_⟩
        have q := r1.more (r := []) s1 hp
        rw [List.replicate_succ']
        exact q
    · rw [Int.toNat_natCast] at r1
      -- for tie in ties
      refine ⟨_, rfl, a, rfl, ⟨_, s1.seq hS⟩, for_list (K := K) (a := a) (xs := ws) (fun i σ H2 => ∃ v1 v2 v3 : Option V, σ = [some (.int m), some (.ref a), some (.ref R), v1, v2, v3, none, none] ∧ Same H H2 ∧ RowsAt H H2 R as (nbRows m (ts.take i)))
        ⟨none, none, none, rfl, s1, by rw [List.take_zero, nbRows_nil]; exact r1⟩ (fun i σ H2 _ ⟨_, _, _, _, s2, _⟩ => s2.seq hS) ?_ ?_⟩
      · rintro i x σ H2 hi ⟨v1, v2, v3, rfl, s2, r2⟩
        obtain ⟨t, hti, hpair⟩ := paired_get hP hi
        obtain ⟨c, rfl, hc⟩ := PairAt.same s2 hpair
        have rg := g.rng t (List.mem_of_getElem? hti)
        have ap := g.apart hti
        obtain ⟨t1, t2⟩ := t
        obtain ⟨h1, h2, h3, h4, h5⟩ := rg
        obtain ⟨p, rfl⟩ : ∃ p : Nat, t1 = p := ⟨t1.toNat, by have : 0 ≤ t1 := h1; omega⟩
        obtain ⟨q, rfl⟩ : ∃ q : Nat, t2 = q := ⟨t2.toNat, by have : 0 ≤ t2 := h3; omega⟩
        have hp : p < m := by have : ((p : Int) < m) := h2; omega
        have hq : q < m := by have : ((q : Int) < m) := h4; omega
        have hpq : p ≠ q := fun z => h5 (by rw [z])
        have hil : i < ts.length := (List.getElem?_eq_some_iff.mp hti).1
        obtain ⟨b, eb, ebr, _, hb⟩ := r2.get (nbRows_at (ts := ts.take i) hp)
        have ok : tieOk m [.int p, .int q] = true := by
          show (isPt m (.int p) && isPt m (.int q) && !decide (V.int p = V.int q)) = true
          have e1 : isPt m (.int p) = true := by
            show (decide ((0 : Int) ≤ p) && decide ((p : Int) < m)) = true
            rw [decide_eq_true (by omega), decide_eq_true (by omega), Bool.and_self]
          have e2 : isPt m (.int q) = true := by
            show (decide ((0 : Int) ≤ q) && decide ((q : Int) < m)) = true
            rw [decide_eq_true (by omega), decide_eq_true (by omega), Bool.and_self]
          rw [e1, e2, decide_eq_false (fun z => h5 (V.int.inj z)), Bool.and_self, Bool.true_and, Bool.not_false]
        -- if not _is_tie(many, tie)
        refine ⟨_, rfl, _, rfl, m, .ref c, rfl, .inr ⟨c, [.int p, .int q], rfl, SqT.of hc, fun y hy => ?_, _, rfl, no_ (by rw [ok]; rfl) ?_⟩⟩
        · simp only [List.mem_cons, List.not_mem_nil, or_false] at hy
          rcases hy with rfl | rfl <;> exact ⟨_, .int _⟩
        -- one, other = tie
        refine ⟨_, rfl, c, [.int p, .int q], rfl, SqT.of hc, rfl, .int p, [.int q], rfl, .int q, [], rfl, rfl, ?_⟩
        -- if other in rows[one]
        have hno : inV (.int q) (iL (nb (ts.take i) p)) = false := by
          rw [inV_ints]
          refine decide_eq_false fun z => ?_
          rcases mem_nb.mp z with z | z
          · exact ap.1 z
          · exact ap.2 z
        refine ⟨_, rfl, _, rfl, _, rfl, R, as.map V.ref, p, .ref b, rfl, rfl, SqL.of r2.top, atI_nat ebr, b, iL (nb (ts.take i) p), rfl, .inl (SqL.of hb), rfl, flat_ints _, _, rfl, no_ hno ?_⟩
        -- rows[one].append(other)
        have l1 := nb_len (ts.take i) p
        have l2 := nb_len (ts.take i) q
        rw [List.length_take] at l1 l2
        refine ⟨_, rfl, _, rfl, R, as.map V.ref, p, .ref b, rfl, rfl, SqL.of r2.top, atI_nat ebr, .inl ⟨rfl, _, SqL.of hb⟩, _, rfl, b, _, _, rfl, rfl, hb, by rw [List.length_map]; exact small (by omega), ?_⟩
        have r3 := r2.write (r := nb (ts.take i) p ++ [(q : Int)]) eb
        have e3 : iL (nb (ts.take i) p ++ [(q : Int)]) = iL (nb (ts.take i) p) ++ [V.int q] := by
          unfold iL
          rw [List.map_append]
          rfl
        rw [e3] at r3
        obtain ⟨d, ed, edr, _, hd⟩ := r3.get (i := q) (r := nb (ts.take i) q) (by rw [List.getElem?_set_ne hpq]; exact nbRows_at hq)
        -- rows[other].append(one)
        refine ⟨_, rfl, _, rfl, R, as.map V.ref, q, .ref d, rfl, rfl, SqL.of r3.top, atI_nat edr, .inl ⟨rfl, _, SqL.of hd⟩, _, rfl, d, _, _, rfl, rfl, hd, by rw [List.length_map]; exact small (by omega), ?_⟩
        have r4 := r3.write (r := nb (ts.take i) q ++ [(p : Int)]) ed
        have e4 : iL (nb (ts.take i) q ++ [(p : Int)]) = iL (nb (ts.take i) q) ++ [V.int p] := by
          unfold iL
          rw [List.map_append]
          rfl
        rw [e4, nbRows_step hp hq hpq, ← take_next hti] at r4
        exact ⟨_, _, _, rfl, r3.sameW (r2.sameW s2 eb) ed, r4⟩
      · rintro σ H2 ⟨v1, v2, v3, rfl, s2, r2⟩
        have el : ts.take ws.length = ts := by
          rw [hP.length]
          exact List.take_length
        rw [el] at r2
        refine ⟨_, rfl, R, rfl, ⟨_, SqL.of r2.top⟩, fun D hD => ?_⟩
        refine lc_list (K := K) (a := R) (xs := as.map V.ref) (fun i H3 => Same H2 H3 ∧ ∃ bs, RowsAt H2 H3 D bs ((rowsOf m ts).take i)) ⟨Same.put hD, [], RowsAt.start hD⟩ (fun i H3 _ ⟨s3, _⟩ => s3.seq (SqL.of r2.top)) (fun i x H3 hi ⟨s3, bs, r3⟩ => ?_) (fun H3 ⟨s3, bs, r3⟩ => ?_)
        · have him : i < m := by
            have q := (List.getElem?_eq_some_iff.mp hi).1
            rw [List.length_map, r2.len, nbRows_len] at q
            exact q
          obtain ⟨b, eb, ebr, _, hb⟩ := r2.get (nbRows_at (ts := ts) him)
          obtain rfl : x = .ref b := Option.some.inj (hi.symm.trans ebr)
          refine ⟨rfl, ?_⟩
          refine yes_ ?_
          refine iteT ?_
          refine ⟨_, rfl, b, nb ts i, rfl, SqL.of (s3 _ _ hb), fun ns' p hp hs hnew => ?_⟩
          have e := row_sorted g hp hs
          subst e
          have pD : D ≠ p := ne_of_none r3.top hnew
          refine ⟨bs.map V.ref, by rw [upd_ne pD]; exact r3.top, ?_, Same.write (Same.step s3 hnew) hD, bs ++ [p], ?_⟩
          · rw [List.length_map, r3.len, List.length_take, rowsOf_len]
            exact small (by omega)
          · have q := r3.more (r := rowOf m ts i) s3 hnew
            rw [take_next (rowsOf_at him)]
            exact q
        · have e5 : (rowsOf m ts).take (as.map V.ref).length = rowsOf m ts := by
            rw [List.length_map, r2.len, nbRows_len]
            exact List.take_of_length_le (by rw [rowsOf_len]; exact Nat.le_refl _)
          rw [e5] at r3
          exact k _ D bs (s2.trans s3) (r3.older s2)
end
end Fd
namespace Fd
open PySem PySem.Spec PyProof.Rows L2
/-! ### defs that may raise -/
structure CalX (P : Program) (w : World) (K : PySem.W.Frag) (mg : Str → Option Value) (base : Heap) (k : Nat) (x : Str) (sp : Sp) : Prop where
  ex : ∃ (f : Addr) (fd : FuncData) (ps : List Str), FnOk P w K mg base (L2.CX P w) k f fd ps sp ∧ mg x = some (.ref f) ∧ PySem.W.keepIn K (.ref f) = true ∧ Binds K fd ps []
structure MetX (P : Program) (w : World) (K : PySem.W.Frag) (mg : Str → Option Value) (base : Heap) (k : Nat) (C : Addr) (m : Str) (sp : Sp) : Prop where
  ex : ∃ (f : Addr) (fd : FuncData) (ps : List Str), Cls K C ∧ Meth K C m f ∧ FnOk P w K mg base (L2.CX P w) k f fd ps sp ∧ Binds K fd ps []
structure MakX (P : Program) (w : World) (K : PySem.W.Frag) (mg : Str → Option Value) (base : Heap) (k : Nat) (x : Str) (C : Addr) (sp : Sp) : Prop where
  ex : ∃ (f : Addr) (fd : FuncData) (ps : List Str), Mk K C f ∧ FnOk P w K mg base (L2.CX P w) k f fd ps sp ∧ mg x = some (.ref C) ∧ Binds K fd ps []
section
variable {P : Program} {w : World} {K : PySem.W.Frag} {mg : Str → Option Value} {base : Heap}
abbrev BodyX (P : Program) (w : World) (K : PySem.W.Frag) (mg : Str → Option Value) (base : Heap) (k : Nat) (qual : Str) (st : Stmt) (N : List Str) (sp : Sp) : Prop :=
  ∀ (f : Addr) (cdv : Value) (A : Around) (outer : List Env) (s : Shared) (H : Hp) (vs : List V) (Q : VK) (E : XK), Room k (A.deeper (envOfC qual (defScope st) s.heap.objs.size f cdv)) → sp vs H Q E →
    ∃ t, PSs (cxOf (L2.CX P w) P w K mg base N qual (defScope st) f cdv A outer s H E) (defBody st) t ∧ t { nx := fun _ H' => Q .non H', rt := Q } (start N vs) H
theorem calX_of {x : Str} {st : Stmt} {N ps : List Str} {k : Nat} {sp : Sp} (F : Fn K mg x st ps) (S : FnScope N ps (defScope st)) (len : ∀ vs H Q E, sp vs H Q E → vs.length = ps.length) (hb : BodyX P w K mg base k x st N sp) : CalX P w K mg base (k + 1) x sp := by
  obtain ⟨f, fd, F, hm, b⟩ := F.ex
  exact ⟨f, fd, ps, F.okX S len fun cdv A outer s H vs Q E hr h => hb f cdv A outer s H vs Q E hr h, hm, F.kp, b⟩
theorem metX_of {C : Addr} {m qual : Str} {st : Stmt} {N ps : List Str} {k : Nat} {sp : Sp} (c : Cls K C) (F : FnM K C m qual st ps) (S : FnScope N ps (defScope st)) (len : ∀ vs H Q E, sp vs H Q E → vs.length = ps.length) (hb : BodyX P w K mg base k qual st N sp) : MetX P w K mg base (k + 1) C m sp := by
  obtain ⟨f, fd, F, hm, b⟩ := F.ex
  exact ⟨f, fd, ps, c, hm, F.okX S len fun cdv A outer s H vs Q E hr h => hb f cdv A outer s H vs Q E hr h, b⟩
theorem makX_of {C : Addr} {x qual : Str} {st : Stmt} {N ps : List Str} {k : Nat} {sp : Sp} (g : mg x = some (.ref C)) (F : FnI K C qual st ps) (S : FnScope N ps (defScope st)) (len : ∀ vs H Q E, sp vs H Q E → vs.length = ps.length) (hb : BodyX P w K mg base k qual st N sp) : MakX P w K mg base (k + 1) x C sp := by
  obtain ⟨f, fd, F, hm, b⟩ := F.ex
  exact ⟨f, fd, ps, hm, F.okX S len fun cdv A outer s H vs Q E hr h => hb f cdv A outer s H vs Q E hr h, g, b⟩
end
section
variable {X : Cx} {k j : Nat} {C : Addr} {x m : Str} {sp : Sp} {E : XK} {p pos apos : Pos} {e o : Expr} {es : List Expr} {ta : TE} {t : TA}
theorem pe_cX (c : CalX X.prog X.w X.K X.mg X.base k x sp) (hr : Room j X.A) (hk : k ≤ j) (hg : Gl X x) (hx : Passes (L2.CX X.prog X.w) X E) (ha : PA X (e :: es) t)
    (hdb : (x == ("__debug__" : Str)) = false := by decide) (he : starEach (e :: es) X.env = (false, eval e X.env) :: starEach es X.env := by rfl) (hpl : (backTo pos (starEach es X.env)).any (·.1) = false := by rfl) : PE X (.Call (.Name x p) (e :: es) [] pos) (tCall sp [] E t) := by
  obtain ⟨f, fd, ps, F, hm, kp, b⟩ := c.ex
  exact pe_call F (hr.mono hk) hg hm kp b .nil hx ha hdb he hpl
theorem pe_mkX (c : MakX X.prog X.w X.K X.mg X.base k x C sp) (hr : Room j X.A) (hk : k + 1 ≤ j) (hg : Gl X x) (hx : Passes (L2.CX X.prog X.w) X E) (ha : PA X (e :: es) t)
    (hdb : (x == ("__debug__" : Str)) = false := by decide) (he : starEach (e :: es) X.env = (false, eval e X.env) :: starEach es X.env := by rfl) (hpl : (backTo pos (starEach es X.env)).any (·.1) = false := by rfl) : PE X (.Call (.Name x p) (e :: es) [] pos) (tMake C sp [] E t) := by
  obtain ⟨f, fd, ps, M, F, hm, b⟩ := c.ex
  exact pe_make M F (hr.mono hk) hg hm b .nil hx ha hdb he hpl
theorem pe_mtX {pl : Sem Bool} (c : MetX X.prog X.w X.K X.mg X.base k C m sp) (hr : Room j X.A) (hk : k ≤ j) (hx : Passes (L2.CX X.prog X.w) X E) (he : PE X o ta) (ha : PA X (e :: es) t)
    (hst : starEach (e :: es) X.env = (false, eval e X.env) :: starEach es X.env := by rfl) (hpl : (backTo pos (starEach es X.env)).any (·.1) = false := by rfl)
    (ht : eval (.Call (.Attribute o m apos) (e :: es) [] pos) X.env = (do
      let ov ← eval o X.env
      standAt apos.atName
      let (f, first) ← holding [ov] (getMethod ov m pl)
      callWith pos f first (backTo pos (starEach (e :: es) X.env)) (backToKw pos (keywordEach [] X.env))) := by rfl) : PE X (.Call (.Attribute o m apos) (e :: es) [] pos) (tMeth C m sp [] E ta t) := by
  obtain ⟨f, fd, ps, hc, hm, F, b⟩ := c.ex
  exact pe_meth (pl := pl) he hc hm F (hr.mono hk) b .nil hx ha hst hpl ht
end
/-! ### the error classes -/
abbrev bmV : List Value := [.type "ValueError", .type "Exception", .type "BaseException", .type "object"]
structure Err (K : PySem.W.Frag) (mg : Str → Option Value) (x : Str) (D : Addr) : Prop where
  g : mg x = some (.ref D)
  x : PySem.W.excIn K D bmV "ValueError.__new__" = true
  k : PySem.W.keepIn K (.ref D) = true
  b : PySem.W.subIn K (.ref D) (.type "BaseException") = some true
  t : PySem.W.typeIn K (.ref D) = some (.type "type")
theorem SqT.same {K : PySem.W.Frag} {H H' : Hp} {a : Addr} {xs : List V} (s : Same H H') (h : SqT K H a xs) : SqT K H' a xs := by
  rcases h with (h | ⟨o, h⟩) | h
  · exact .inl (.inl (s _ _ h))
  · exact .inl (.inr ⟨o, s _ _ h⟩)
  · exact .inr h
theorem TyB.same {K : PySem.W.Frag} {H H' : Hp} {x : V} {T : String} (s : Same H H') (h : TyB K H x T) : TyB K H' x T := by
  cases h with
  | non => exact .non
  | bl b => exact .bl b
  | int i => exact .int i
  | str x => exact .str x
  | byt b => exact .byt b
  | lst h => exact .lst (s.seq h)
  | tup h => exact .tup (SqT.same s h)
  | dK h => exact .dK (s _ _ h)
end Fd
namespace Fd
open PySem PySem.Spec PyProof.Rows L2
theorem flat_len {m : Nat} {ts : List Tie} {i : Nat} (hi : i ≤ 16) (hm : m ≤ 16) : ((pts i).flatMap (pickT m ts)).length ≤ 16 * 16 := by
  have h : ∀ l : List Int, (l.flatMap (pickT m ts)).length ≤ 16 * l.length := fun l => by
    induction l with
    | nil => simp
    | cons a l ih =>
      have h1 : (pickT m ts a).length ≤ 16 := by
        unfold pickT
        rw [List.length_map]
        have h2 := List.length_filter_le (fun y => decide (a < y)) (rowOf m ts a)
        have h3 := rowOf_len m ts a
        omega
      rw [List.flatMap_cons, List.length_append, List.length_cons]
      omega
  have h2 := h (pts i)
  rw [pts_len] at h2
  omega
/-! ### a web in the heap -/
def wF (m : Nat) (R : Addr) : List (Str × V) := [("many", .int m), ("_rows", .ref R)]
theorem lkHere {k : Str} {v : V} {r : List (Str × V)} : List.lookup k ((k, v) :: r) = some v := by simp [List.lookup]
theorem lkPast {k g : Str} {v : V} {r : List (Str × V)} (h : (k == g) = false) : List.lookup k ((g, v) :: r) = List.lookup k r := by simp [List.lookup, h]
theorem wF_many (m : Nat) (R : Addr) : (wF m R).lookup ("many" : Str) = some (.int m) := lkHere
theorem wF_rows (m : Nat) (R : Addr) : (wF m R).lookup ("_rows" : Str) = some (.ref R) := (lkPast (by decide +kernel)).trans lkHere
theorem wF_no (m : Nat) (R : Addr) {x : Str} (h1 : (x == ("many" : Str)) = false) (h2 : (x == ("_rows" : Str)) = false) : (wF m R).lookup x = none := (lkPast h1).trans ((lkPast h2).trans rfl)
theorem wF_new (m : Nat) (R : Addr) : putF "_rows" (.ref R) (putF "many" (.int m) []) = wF m R := by
  show (if ("many" : Str) = "_rows" then _ else (("many" : Str), V.int m) :: putF "_rows" (.ref R) []) = wF m R
  rw [if_neg (by decide +kernel)]
  rfl
structure WebAt (C : Addr) (H0 H : Hp) (p : Addr) (m : Nat) (ts : List Tie) : Prop where
  new : H0 p = none
  ex : ∃ (dx R : Addr) (as : List Addr), H p = some (.ins C dx (wF m R)) ∧ RowsAt H0 H R as (rowsOf m ts)
theorem WebAt.same {C p : Addr} {H0 H H' : Hp} {m : Nat} {ts : List Tie} (h : WebAt C H0 H p m ts) (s : Same H H') : WebAt C H0 H' p m ts := by
  obtain ⟨n, dx, R, as, h1, h2⟩ := h
  exact ⟨n, dx, R, as, s _ _ h1, h2.same s⟩
theorem WebAt.apart {C p : Addr} {H0 H H' : Hp} {m : Nat} {ts : List Tie} (h : WebAt C H0 H p m ts) (s : ∀ b o, H b = some o → H0 b = none → H' b = some o) : WebAt C H0 H' p m ts := by
  obtain ⟨n, dx, R, as, h1, h2⟩ := h
  exact ⟨n, dx, R, as, s _ _ h1 n, h2.apart s⟩
theorem WebAt.older {C p : Addr} {H0 H1 H : Hp} {m : Nat} {ts : List Tie} (h : WebAt C H1 H p m ts) (s : Same H0 H1) : WebAt C H0 H p m ts := by
  obtain ⟨n, dx, R, as, h1, h2⟩ := h
  exact ⟨s.free n, dx, R, as, h1, h2.older s⟩
def spInit (C : Addr) (K : PySem.W.Frag) : Sp := fun vs H Q _ => ∃ (H0 : Hp) (p dx : Addr) (m : Nat) (a : Addr) (ws : List V) (ts : List Tie), vs = [.ref p, .int m, .ref a] ∧ H p = some (.ins C dx []) ∧ Same H0 H ∧ H0 p = none ∧
  SqL K H0 a ws ∧ PairsAt H0 ws ts ∧ Good m ts ∧ 1 ≤ m ∧ m ≤ 16 ∧ ts.length ≤ 40 ∧
  ∀ H' : Hp, (∀ b o, H b = some o → b ≠ p → H' b = some o) → WebAt C H0 H' p m ts → Q .non H'
def spCheck (C : Addr) : Sp := fun vs H Q _ => ∃ (H0 : Hp) (p : Addr) (m : Nat) (ts : List Tie) (j : Nat), vs = [.ref p, .int j] ∧ WebAt C H0 H p m ts ∧ j < m ∧ Q .non H
def spBeside (C : Addr) : Sp := fun vs H Q _ => ∃ (H0 : Hp) (p : Addr) (m : Nat) (ts : List Tie) (j : Nat), vs = [.ref p, .int j] ∧ WebAt C H0 H p m ts ∧ j < m ∧
  ∀ D, H D = none → Q (.ref D) (upd H D (.lst (iL (rowOf m ts j))))
def spTied (C : Addr) : Sp := fun vs H Q _ => ∃ (H0 : Hp) (p : Addr) (m : Nat) (ts : List Tie) (i j : Nat), vs = [.ref p, .int i, .int j] ∧ WebAt C H0 H p m ts ∧ i < m ∧ j < m ∧
  Q (.bl (decide ((j : Int) ∈ rowOf m ts i))) H
def spTies (C : Addr) : Sp := fun vs H Q _ => ∃ (H0 : Hp) (p : Addr) (m : Nat) (ts : List Tie), vs = [.ref p] ∧ WebAt C H0 H p m ts ∧ Good m ts ∧ m ≤ 16 ∧
  ∀ (H' : Hp) (D : Addr) (ws : List V), Same H H' → H D = none → H' D = some (.lst ws) → PairsAt H' ws (toldT m ts) → Q (.ref D) H'
end Fd
namespace Fd
open PySem PySem.Spec PyProof.Rows L2
section
variable {P : Program} {w : World} {K : PySem.W.Frag} {mg : Str → Option Value} {base : Heap} {C : Addr}
theorem scInit : FnScope ["self", "many", "ties"] ["self", "many", "ties"] (defScope sWebInit) := ⟨rfl, rfl, rfl, by decide +kernel, rfl, by decide +kernel, by decide +kernel⟩
theorem c_init (T : WTxt K mg C) : C8.Mak P w K mg base 5 "Web" C (spInit C K) [] := by
  obtain ⟨tP, gP⟩ := T.mostP
  obtain ⟨tT, gT⟩ := T.mostT
  refine mak_of T.gWeb T.fInit scInit (fun vs H Q E h => ?_) (fun f cdv A outer s H vs Q E hr h => ?_)
  · obtain ⟨H0, p, dx, m, a, ws, ts, rfl, _⟩ := h
    rfl
  · obtain ⟨H0, p, dx, m, a, ws, ts, rfl, hp, s0, p0, hS, hP, g, m1, m16, ht, k⟩ := h
    refine ⟨_, pss_cons (ps_if (PW.pt (pw_or (pt_not (pt_val (C8.pe_c (c_num T) hr (by decide) (by rfl) (pa_cons (pv 1) pa_nil))))
        (pw_or1 (pt_not (pt_chain op_le op_le pe_int (pv 1) (pe_glob (v := .int 16) (by rfl) gP ⟨_, rfl⟩)))))) (pss_one ps_never) pss_nil)
      (pss_cons (ps_if (PW.pt (pw_or (pt_cmpR op_neTy (pe_callTy call_type1 (by rfl) T.type (by decide +kernel) (pa_cons (pv 2) pa_nil)) (pe_bltn (v := .ty "list") (by rfl) T.list (by decide +kernel) rfl) (nomark _))
        (pw_or1 (pt_cmpR op_gt (pe_callB call_len_seq (by rfl) T.len PySem.boot_len (pa_cons (pv 2) pa_nil)) (pe_glob (v := .int 40) (by rfl) gT ⟨_, rfl⟩) (nomark _))))) (pss_one ps_never) pss_nil)
      (pss_cons (ps_fld (pv 0) (pv 1) rfl)
      (pss_one (ps_fld (pv 0) (C8.pe_c (c_joined T) hr (by decide) (by rfl) (pa_cons (pv 1) (pa_cons (pv 2) pa_nil))) rfl)))), ?_⟩
    have hS' : SqL K H a ws := s0.seq hS
    have hl := hP.length
    -- if not _is_number(many) or not 1 <= many <= MOST_POINTS
    refine ⟨_, rfl, .int m, "int", rfl, .int _, true, rfl, ?_⟩
    refine iteF ?_
    refine ⟨_, rfl, 1, (m : Int), rfl, rfl, _, rfl, ?_⟩
    refine yep_ (decide_eq_true (by omega)) ?_
    refine ⟨(m : Int), 16, rfl, rfl, _, rfl, ?_⟩
    refine no_ (by rw [Bool.not_eq_false']; exact decide_eq_true (by omega)) ?_
    -- if type(ties) != list or len(ties) > MOST_TIES
    refine ⟨_, rfl, .ref a, "list", rfl, .lst hS', "list", "list", rfl, rfl, by decide, by decide, _, rfl, ?_⟩
    refine iteF ?_
    refine ⟨_, rfl, a, ws, rfl, .inl hS', _, 40, rfl, rfl, _, rfl, ?_⟩
    refine no_ (decide_eq_false (by omega)) ?_
    -- self.many = many
    refine ⟨_, rfl, _, rfl, p, C, dx, [], rfl, hp, T.cl, T.nMany, by show 0 < 1000; decide, ?_⟩
    -- self._rows = _joined(many, ties)
    have s1 : Same H0 (upd H p (.ins C dx (putF "many" (.int m) []))) := Same.write s0 p0
    refine ⟨_, rfl, _, rfl, m, a, ws, ts, rfl, s1.seq hS, hP.same s1, g, m16, ht, fun H' R as s' r' => ?_⟩
    have hp' : H' p = some (.ins C dx (putF "many" (.int m) [])) := s' _ _ upd_same
    refine ⟨_, rfl, p, C, dx, _, rfl, hp', T.cl, T.nRows, by show 1 < 1000; decide, ?_⟩
    refine k _ (fun b o e hb => ?_) ⟨p0, dx, R, as, by rw [upd_same, wF_new], ?_⟩
    · rw [upd_ne hb]
      exact s' _ _ (by rw [upd_ne hb]; exact e)
    · refine (r'.apart fun b o e hb => ?_).older s1
      rw [upd_ne (ne_of_none upd_same hb).symm]
      exact e
end
end Fd
namespace Fd
open PySem PySem.Spec PyProof.Rows L2
section
variable {P : Program} {w : World} {K : PySem.W.Frag} {mg : Str → Option Value} {base : Heap} {C : Addr}
theorem scCheck : FnScope ["self", "thing"] ["self", "thing"] (defScope sWebCheckPoint) := ⟨rfl, rfl, rfl, by decide +kernel, rfl, by decide +kernel, by decide +kernel⟩
theorem c_check (T : WTxt K mg C) (FC : FnM K C "_check_point" "Web._check_point" sWebCheckPoint ["self", "thing"]) : C8.Met P w K mg base 3 C "_check_point" (spCheck C) [] := by
  refine met_of T.cl FC scCheck (fun vs H Q E h => ?_) (fun f cdv A outer s H vs Q E hr h => ?_)
  · obtain ⟨H0, p, m, ts, j, rfl, _⟩ := h
    rfl
  · obtain ⟨H0, p, m, ts, j, rfl, ⟨p0, dx, R, as, hp, r⟩, hj, k⟩ := h
    refine ⟨_, pss_one (ps_if (pt_not (pt_val (C8.pe_c (c_point T) hr (by decide) (by rfl) (pa_cons (pe_fld (pv 0) rfl) (pa_cons (pv 1) pa_nil))))) (pss_one ps_never) pss_nil), ?_⟩
    refine ⟨_, rfl, p, C, dx, _, _, rfl, hp, T.cl, T.nMany, wF_many _ _, _, rfl, (m : Int), .int j, "int", rfl, .int _, _, rfl, no_ ?_ k⟩
    rw [Bool.not_eq_false']
    show (decide ((0 : Int) ≤ j) && decide ((j : Int) < m)) = true
    rw [decide_eq_true (by omega), decide_eq_true (by omega), Bool.and_self]
theorem scBeside : FnScope ["self", "point"] ["self", "point"] (defScope sWebBeside) := ⟨rfl, rfl, rfl, by decide +kernel, rfl, by decide +kernel, by decide +kernel⟩
theorem c_beside (T : WTxt K mg C) (FC : FnM K C "_check_point" "Web._check_point" sWebCheckPoint ["self", "thing"]) (FB : FnM K C "beside" "Web.beside" sWebBeside ["self", "point"]) : C8.Met P w K mg base 4 C "beside" (spBeside C) [] := by
  refine met_of T.cl FB scBeside (fun vs H Q E h => ?_) (fun f cdv A outer s H vs Q E hr h => ?_)
  · obtain ⟨H0, p, m, ts, j, rfl, _⟩ := h
    rfl
  · obtain ⟨H0, p, m, ts, j, rfl, W, hj, k⟩ := h
    obtain ⟨p0, dx, R, as, hp, r⟩ := id W
    refine ⟨_, pss_cons (ps_expr (C8.pe_mt (c_check T FC) hr (by decide) (pv 0) (pa_cons (pv 1) pa_nil)))
      (pss_one (ps_ret (pe_callTy call_list_of (by rfl) T.list (by decide +kernel) (pa_cons (pe_ix ix_list (pe_fld (pv 0) rfl) (pv 1) (fun _ _ => rfl)) pa_nil)))), ?_⟩
    obtain ⟨b, eb, ebr, _, hb⟩ := r.get (rowsOf_at (ts := ts) hj)
    refine ⟨_, rfl, p, dx, _, rfl, hp, wF_no _ _ (by decide +kernel) (by decide +kernel), _, rfl, H0, p, m, ts, j, rfl, W, hj, ?_⟩
    exact ⟨_, rfl, p, C, dx, _, _, rfl, hp, T.cl, T.nRows, wF_rows _ _, _, rfl, R, _, (j : Int), .ref b, rfl, rfl, SqL.of r.top, atI_nat ebr, b, _, rfl, .inl (SqL.of hb), k⟩
end
end Fd
namespace Fd
open PySem PySem.Spec PyProof.Rows L2
structure LTxt (K : PySem.W.Frag) (mg : Str → Option Value) : Prop where
  isi : mg "isinstance" = none
  bool : mg "bool" = none
  max : mg "max" = none
  min : mg "min" = none
  fCell : Fn K mg "_law_cell_at" sLawCellAt ["_law_script", "_law_k"]
  fWhole : Fn K mg "_law_whole" sLawWhole ["_law_seen"]
  fMany : Fn K mg "_law_many" sLawMany ["_law_script"]
/-! ### the law's small readers -/
def cellAt (ns : List Int) (k : Nat) : Int := ns.getD k 0
def spCell (K : PySem.W.Frag) : Sp := fun vs H Q _ => ∃ (a : Addr) (ns : List Int) (k : Nat), vs = [.ref a, .int k] ∧ SqL K H a (iL ns) ∧ Q (.int (cellAt ns k)) H
def isI : V → Bool
  | .int _ => true
  | _ => false
theorem tyX_of {K : PySem.W.Frag} {H : Hp} {x : V} {T : String} (h : TyB K H x T) : TyX K H x (.type T) := by
  cases h with
  | non => exact .base .non
  | bl b => exact .base (.bl b)
  | int i => exact .base (.int i)
  | str x => exact .base (.str x)
  | byt b => exact .byt b
  | lst h =>
    rcases h with (h | ⟨o, h⟩) | ⟨o, its, n, e, c, _⟩
    · exact .base (.lst h)
    · exact .base (.frz h)
    · exact .kList e c
  | tup h =>
    rcases h with (h | ⟨o, h⟩) | ⟨o, its, n, e, c, _⟩
    · exact .base (.tup h)
    · exact .fTuple h
    · exact .kTuple e c
  | dK h => exact .base (.dK h)
def spWholeX (K : PySem.W.Frag) : Sp := fun vs H Q _ => ∃ (x : V) (T : String), vs = [x] ∧ TyB K H x T ∧ Q (.bl (isI x)) H
def spWhole : Sp := fun vs H Q _ => ∃ i : Int, vs = [.int i] ∧ Q (.bl true) H
def spMany (K : PySem.W.Frag) : Sp := fun vs H Q _ => ∃ (a : Addr) (ns : List Int), vs = [.ref a] ∧ SqL K H a (iL ns) ∧ ∀ m : Nat, 1 ≤ m → m ≤ 16 → Q (.int m) H
def spLTies (K : PySem.W.Frag) : Sp := fun vs H Q _ => ∃ (a : Addr) (ns : List Int) (m : Nat), vs = [.ref a, .int m] ∧ SqL K H a (iL ns) ∧ 1 ≤ m ∧ m ≤ 16 ∧
  ∀ (H' : Hp) (D : Addr) (ws : List V) (ts : List Tie), Same H H' → H D = none → H' D = some (.lst ws) → PairsAt H' ws ts → Good m ts → ts.length ≤ 40 → Q (.ref D) H'
theorem hu65 {k : Nat} {A : Around} (hr : Room k A) : A.units + 65 < cLine := by
  have := hr.un
  omega
/-- a new pair put behind the others -/
theorem PairsAt.more {H : Hp} {D t : Addr} {ws : List V} {ts : List Tie} {o q : Int} (hD : H D = some (.lst ws)) (h : PairsAt H ws ts) (ht : H t = none) :
    PairsAt (upd (upd H t (.tup [.int o, .int q])) D (.lst (ws ++ [.ref t]))) (ws ++ [.ref t]) (ts ++ [(o, q)]) := by
  have tD : D ≠ t := ne_of_none hD ht
  refine Paired.snoc ?_ ⟨t, rfl, by rw [upd_ne tD.symm, upd_same]⟩
  refine Paired.mono (fun v u ⟨a, e, k⟩ => ⟨a, e, ?_⟩) h
  rw [upd_ne (ne_of k hD (by intro z; cases z)), upd_ne (ne_of_none k ht)]
  exact k
theorem cut_iL (ns : List Int) (lo hi : Option Int) : ∃ ms : List Int, cutV (iL ns) lo hi = iL ms ∧ ms.length ≤ ns.length := by
  refine ⟨(ns.drop (HT.sIx (iL ns).length 0 lo)).take (HT.sIx (iL ns).length (iL ns).length hi - HT.sIx (iL ns).length 0 lo), ?_, ?_⟩
  · unfold cutV iL
    rw [List.map_take, List.map_drop]
  · rw [List.length_take, List.length_drop]
    omega
theorem cut_len_ (xs : List V) : (cutV xs (some 2) (some 42)).length ≤ 40 := by
  unfold cutV
  rw [List.length_take]
  have e1 : HT.sIx xs.length 0 (some 2) = min 2 xs.length := HT.sIx_nat _ _ 2
  have e2 : HT.sIx xs.length xs.length (some 42) = min 42 xs.length := HT.sIx_nat _ _ 42
  rw [e1, e2]
  omega
section
variable {P : Program} {w : World} {K : PySem.W.Frag} {mg : Str → Option Value} {base : Heap} {C : Addr}
theorem scCell : FnScope ["_law_script", "_law_k"] ["_law_script", "_law_k"] (defScope sLawCellAt) := ⟨rfl, rfl, rfl, by decide +kernel, rfl, by decide +kernel, by decide +kernel⟩
theorem c_cell (T : WTxt K mg C) (L : LTxt K mg) : C8.Cal P w K mg base 1 "_law_cell_at" (spCell K) [] := by
  refine cal_of L.fCell scCell (fun vs H Q E h => ?_) (fun f cdv A outer s H vs Q E hr h => ?_)
  · obtain ⟨a, ns, k, rfl, _⟩ := h
    rfl
  · obtain ⟨a, ns, i, rfl, hS, k⟩ := h
    refine ⟨_, pss_cons (ps_if (pt_cmpR op_lt (pv 1) (pe_callB call_len_seq (by rfl) T.len PySem.boot_len (pa_cons (pv 0) pa_nil)) (nomark _)) (pss_one (ps_ret (pe_ix ix_list (pv 0) (pv 1) (fun _ _ => rfl)))) pss_nil)
      (pss_one (ps_ret pe_int)), ?_⟩
    refine ⟨_, rfl, _, rfl, a, iL ns, rfl, .inl hS, (i : Int), _, rfl, rfl, _, rfl, ?_⟩
    refine ite2 (fun c => ?_) (fun c => ?_)
    · have c' : i < ns.length := by
        have := of_decide_eq_true c
        rw [List.length_map] at this
        omega
      refine ⟨_, rfl, _, rfl, a, iL ns, (i : Int), .int (cellAt ns i), rfl, rfl, hS, atI_nat ?_, k⟩
      refine iL_get ?_
      unfold cellAt
      rw [List.getD_eq_getElem?_getD, List.getElem?_eq_getElem c']
      rfl
    · have c' : ¬ i < ns.length := fun z => c (decide_eq_true (by rw [List.length_map]; omega))
      have e : cellAt ns i = 0 := by
        unfold cellAt
        rw [List.getD_eq_getElem?_getD, List.getElem?_eq_none (by omega)]
        rfl
      rw [e] at k
      exact k
theorem scWhole : FnScope ["_law_seen"] ["_law_seen"] (defScope sLawWhole) := ⟨rfl, rfl, rfl, by decide +kernel, rfl, by decide +kernel, by decide +kernel⟩
theorem c_whole (T : WTxt K mg C) (L : LTxt K mg) : C8.Cal P w K mg base 1 "_law_whole" (spWholeX K) [] := by
  refine cal_of L.fWhole scWhole (fun vs H Q E h => ?_) (fun f cdv A outer s H vs Q E hr h => ?_)
  · obtain ⟨x, t, rfl, _⟩ := h
    rfl
  · obtain ⟨x, t, rfl, ht, k⟩ := h
    refine ⟨_, pss_one (ps_ret (pe_and (pe_callB call_isi (by rfl) L.isi (by decide +kernel) (pa_cons (pv 0) (pa_cons (pe_bltn (v := .ty "int") (by rfl) T.int (by decide +kernel) rfl) pa_nil)))
      (pe_one (pe_not (pe_callB call_isi (by rfl) L.isi (by decide +kernel) (pa_cons (pv 0) (pa_cons (pe_bltn (v := .ty "bool") (by rfl) L.bool (by decide +kernel) rfl) pa_nil))))))), ?_⟩
    cases ht with
    | int i =>
      refine ⟨_, rfl, .int i, .ty "int", .type "int", .type "int", true, rfl, .ty _, .base (.int i), kit_ty (by decide +kernel), true, rfl, ?_⟩
      refine iteT ?_
      exact ⟨_, rfl, .int i, .ty "bool", .type "int", .type "bool", false, rfl, .ty _, .base (.int i), kit_ty (by decide +kernel), false, rfl, k⟩
    | bl b =>
      refine ⟨_, rfl, .bl b, .ty "int", .type "bool", .type "int", true, rfl, .ty _, .base (.bl b), kit_ty (by decide +kernel), true, rfl, ?_⟩
      refine iteT ?_
      exact ⟨_, rfl, .bl b, .ty "bool", .type "bool", .type "bool", true, rfl, .ty _, .base (.bl b), kit_ty (by decide +kernel), true, rfl, k⟩
    | non => exact ⟨_, rfl, .non, .ty "int", .type "NoneType", .type "int", false, rfl, .ty _, .base .non, kit_ty (by decide +kernel), false, rfl, iteF k⟩
    | str x => exact ⟨_, rfl, .str x, .ty "int", .type "str", .type "int", false, rfl, .ty _, .base (.str x), kit_ty (by decide +kernel), false, rfl, iteF k⟩
    | byt b => exact ⟨_, rfl, .byt b, .ty "int", .type "bytes", .type "int", false, rfl, .ty _, tyX_of (.byt b), kit_ty (by decide +kernel), false, rfl, iteF k⟩
    | lst h => exact ⟨_, rfl, .ref _, .ty "int", .type "list", .type "int", false, rfl, .ty _, tyX_of (.lst h), kit_ty (by decide +kernel), false, rfl, iteF k⟩
    | tup h => exact ⟨_, rfl, .ref _, .ty "int", .type "tuple", .type "int", false, rfl, .ty _, tyX_of (.tup h), kit_ty (by decide +kernel), false, rfl, iteF k⟩
    | dK h => exact ⟨_, rfl, .ref _, .ty "int", .type "dict", .type "int", false, rfl, .ty _, tyX_of (.dK h), kit_ty (by decide +kernel), false, rfl, iteF k⟩
theorem scMany : FnScope ["_law_script"] ["_law_script"] (defScope sLawMany) := ⟨rfl, rfl, rfl, by decide +kernel, rfl, by decide +kernel, by decide +kernel⟩
theorem c_many (T : WTxt K mg C) (L : LTxt K mg) : C8.Cal P w K mg base 2 "_law_many" (spMany K) [] := by
  refine cal_of L.fMany scMany (fun vs H Q E h => ?_) (fun f cdv A outer s H vs Q E hr h => ?_)
  · obtain ⟨a, ns, rfl, _⟩ := h
    rfl
  · obtain ⟨a, ns, rfl, hS, k⟩ := h
    refine ⟨_, pss_cons (ps_if (pt_cmpR op_eq (pe_op op_mod (C8.pe_c (c_cell T L) hr (by decide) (by rfl) (pa_cons (pv 0) (pa_cons pe_int pa_nil))) pe_int) pe_int (nomark _))
        (pss_one (ps_ret (pe_op op_add pe_int (pe_op op_mod (pe_op op_fdiv (C8.pe_c (c_cell T L) hr (by decide) (by rfl) (pa_cons (pv 0) (pa_cons pe_int pa_nil))) pe_int) pe_int)))) pss_nil)
      (pss_one (ps_ret (pe_op op_add pe_int (pe_op op_mod (pe_op op_fdiv (C8.pe_c (c_cell T L) hr (by decide) (by rfl) (pa_cons (pv 0) (pa_cons pe_int pa_nil))) pe_int) pe_int)))), ?_⟩
    refine ⟨_, rfl, a, ns, 0, rfl, hS, _, _, rfl, rfl, by show (0 : Int) < 6; decide, rfl, _, rfl, ?_⟩
    refine ite2 (fun _ => ?_) (fun _ => ?_)
    · refine ⟨_, rfl, a, ns, 0, rfl, hS, _, _, rfl, rfl, ⟨by decide, by decide⟩, _, _, rfl, rfl, by show (0 : Int) < 8; decide, _, _, rfl, rfl, ?_⟩
      have h1 := Int.emod_nonneg (cellAt ns 0 / 6) (show (8 : Int) ≠ 0 by decide)
      have h2 := Int.emod_lt_of_pos (cellAt ns 0 / 6) (show (0 : Int) < 8 by decide)
      have q := k (9 + cellAt ns 0 / 6 % 8).toNat (by omega) (by omega)
      rw [Int.toNat_of_nonneg (by omega)] at q
      exact q
    · refine ⟨_, rfl, a, ns, 0, rfl, hS, _, _, rfl, rfl, ⟨by decide, by decide⟩, _, _, rfl, rfl, by show (0 : Int) < 8; decide, _, _, rfl, rfl, ?_⟩
      have h1 := Int.emod_nonneg (cellAt ns 0 / 6) (show (8 : Int) ≠ 0 by decide)
      have h2 := Int.emod_lt_of_pos (cellAt ns 0 / 6) (show (0 : Int) < 8 by decide)
      have q := k (1 + cellAt ns 0 / 6 % 8).toNat (by omega) (by omega)
      rw [Int.toNat_of_nonneg (by omega)] at q
      exact q
end
end Fd
namespace Fd
open PySem PySem.Spec PyProof.Rows L2
theorem cut_len4 (xs : List V) {e : Int} (h0 : 0 ≤ e) (h1 : e ≤ 44) : (cutV xs (some 4) (some e)).length ≤ 40 := by
  unfold cutV
  rw [List.length_take]
  obtain ⟨k, rfl⟩ : ∃ k : Nat, e = k := ⟨e.toNat, by omega⟩
  have e1 : HT.sIx xs.length 0 (some 4) = min 4 xs.length := HT.sIx_nat _ _ 4
  have e2 : HT.sIx xs.length xs.length (some (k : Int)) = min k xs.length := HT.sIx_nat _ _ k
  rw [e1, e2]
  omega
section
variable {P : Program} {w : World} {K : PySem.W.Frag} {mg : Str → Option Value} {base : Heap} {C : Addr}
theorem scLTies : FnScope ["_law_script", "_law_many_here", "_law_made", "_law_cell", "_law_one", "_law_other"] ["_law_script", "_law_many_here"] (defScope sLawTies) := ⟨rfl, rfl, rfl, by decide +kernel, rfl, by decide +kernel, by decide +kernel⟩
theorem c_lties (T : WTxt K mg C) (L : LTxt K mg) (FT : Fn K mg "_law_ties" sLawTies ["_law_script", "_law_many_here"]) : C8.Cal P w K mg base 2 "_law_ties" (spLTies K) [] := by
  refine cal_of FT scLTies (fun vs H Q E h => ?_) (fun f cdv A outer s H vs Q E hr h => ?_)
  · obtain ⟨a, ns, m, rfl, _⟩ := h
    rfl
  · obtain ⟨a, ns, m, rfl, hS, m1, m16, k⟩ := h
    refine ⟨_, pss_cons (ps_set (i := 2) scLTies.nd rfl (Or.inl rfl) (pe_lst pa_nil))
      (pss_cons (ps_for PassesOwn.never rfl (pi_list (pe_slice sl_list (pv 0) (po_some pe_int) (po_some (pe_op op_add pe_int (pe_op op_mod (C8.pe_c (c_cell T L) hr (by decide) (by rfl) (pa_cons (pv 0) (pa_cons pe_int pa_nil))) pe_int))))) (pg_name (i := 3) scLTies.nd rfl (Or.inl rfl))
        (pss_cons (ps_set (i := 4) scLTies.nd rfl (Or.inl rfl) (pe_op op_mod (pv 3) (pv 1)))
        (pss_cons (ps_set (i := 5) scLTies.nd rfl (Or.inl rfl) (pe_op op_mod (pe_op op_add (pe_op op_add (pv 4) pe_int)
            (pe_op op_mod (pe_op op_fdiv (pv 3) (pv 1)) (pe_callB (call_max2 rfl) (by rfl) L.max (by decide +kernel) (pa_cons pe_int (pa_cons (pe_op op_sub (pv 1) pe_int) pa_nil))))) (pv 1)))
        (pss_one (ps_if (PW.pt (pw_and (pt_cmpR op_ne (pv 4) (pv 5) (nomark _)) (pw_and (pt_cmpR (op_notInD (hu65 hr)) (pe_tup (pa_cons (pv 4) (pa_cons (pv 5) pa_nil))) (pv 2) (by rfl))
            (pw_and1 (pt_cmpR (op_notInD (hu65 hr)) (pe_tup (pa_cons (pv 5) (pa_cons (pv 4) pa_nil))) (pv 2) (by rfl))))))
          (pss_one (ps_expr (pe_bm PySem.F.plainAttrs_list PySem.F.slot_list_append PySem.F.type_list_append mt_append (pv 2) (pa_cons (pe_tup (pa_cons (pv 4) (pa_cons (pv 5) pa_nil))) pa_nil)))) pss_nil)))))
      (pss_one (ps_ret (pv 2)))), ?_⟩
    refine ⟨Nat.zero_le _, fun D hD => ?_⟩
    have s0 : Same H (upd H D (.lst [])) := Same.put hD
    have c0 := Int.emod_nonneg (cellAt ns 1) (show (17 : Int) ≠ 0 by decide)
    have c1 := Int.emod_lt_of_pos (cellAt ns 1) (show (0 : Int) < 17 by decide)
    obtain ⟨ms, em, _⟩ := cut_iL ns (some 4) (some (4 + cellAt ns 1 % 17))
    have m40 : ms.length ≤ 40 := by
      have := cut_len4 (iL ns) (show 0 ≤ 4 + cellAt ns 1 % 17 by omega) (show 4 + cellAt ns 1 % 17 ≤ 44 by omega)
      rw [em, List.length_map] at this
      exact this
    refine ⟨_, rfl, 4, rfl, _, rfl, a, ns, 1, rfl, s0.seq hS, _, _, rfl, rfl, by show (0 : Int) < 17; decide, _, _, rfl, rfl, _, rfl, a, iL ns, rfl, s0.seq hS, fun p hp => ?_⟩
    rw [em]
    have pD : D ≠ p := ne_of_none upd_same hp
    refine ⟨p, rfl, ⟨_, SqL.of upd_same⟩, for_list (K := K) (a := p) (xs := iL ms) (fun i σ H2 => ∃ (v1 v2 v3 : Option V) (ws : List V) (ts : List Tie), σ = [some (.ref a), some (.int m), some (.ref D), v1, v2, v3] ∧
        H2 p = some (.lst (iL ms)) ∧ Same H H2 ∧ H2 D = some (.lst ws) ∧ PairsAt H2 ws ts ∧ Good m ts ∧ ts.length ≤ i)
      ⟨none, none, none, [], [], rfl, upd_same, Same.step s0 hp, by rw [upd_ne pD, upd_same], .nil, Good.nil m, Nat.le_refl _⟩ (fun i σ H2 _ ⟨_, _, _, _, _, _, h, _⟩ => SqL.of h) ?_ ?_⟩
    · rintro i x σ H2 hi ⟨v1, v2, v3, ws, ts, rfl, hp2, s2, hD2, hw, g, hl⟩
      obtain ⟨z, hz, rfl⟩ := iL_at hi
      have hi40 : i < 40 := by
        have := (List.getElem?_eq_some_iff.mp hz).1
        omega
      have m0 : (0 : Int) < (m : Int) := by omega
      have x0 : (0 : Int) < (if ((m : Int) - 1) > 1 then ((m : Int) - 1) else 1) := by
        split <;> omega
      -- one = cell % many; other = ..
      refine ⟨_, rfl, _, rfl, _, _, rfl, rfl, m0, ?_⟩
      refine ⟨_, rfl, _, _, rfl, rfl, _, rfl, _, rfl, _, _, rfl, rfl, ⟨m0, by omega⟩, _, rfl, _, _, rfl, rfl, _, _, rfl, _, _, rfl, rfl, x0, _, _, rfl, rfl, _, rfl, _, _, rfl, rfl, m0, ?_⟩
      dsimp only
      generalize ho : z % (m : Int) = o
      generalize hq : (o + 1 + z / (m : Int) % (if ((m : Int) - 1) > 1 then ((m : Int) - 1) else 1)) % (m : Int) = q
      have o0 : 0 ≤ o := by rw [← ho]; exact Int.emod_nonneg _ (by omega)
      have o1 : o < m := by rw [← ho]; exact Int.emod_lt_of_pos _ m0
      have q0 : 0 ≤ q := by rw [← hq]; exact Int.emod_nonneg _ (by omega)
      have q1 : q < m := by rw [← hq]; exact Int.emod_lt_of_pos _ m0
      -- if one != other and (one, other) not in made and (other, one) not in made
      refine ⟨_, rfl, _, rfl, rfl, _, rfl, ?_⟩
      have stay : ∀ H3, Same H2 H3 → ∃ (v1 v2 v3 : Option V) (ws : List V) (ts : List Tie), [some (V.ref a), some (.int m), some (.ref D), some (.int z), some (.int o), some (.int q)] = [some (V.ref a), some (.int m), some (.ref D), v1, v2, v3] ∧
          H3 p = some (.lst (iL ms)) ∧ Same H H3 ∧ H3 D = some (.lst ws) ∧ PairsAt H3 ws ts ∧ Good m ts ∧ ts.length ≤ i + 1 := fun H3 s3 =>
        ⟨_, _, _, ws, ts, rfl, s3 _ _ hp2, s2.trans s3, s3 _ _ hD2, hw.same s3, g, by omega⟩
      by_cases c1 : o = q
      · refine no_ (by rw [decide_eq_true (by rw [c1])]; rfl) ?_
        refine iteF ?_
        exact stay H2 (Same.refl _)
      · refine yep_ (by rw [decide_eq_false (fun e => c1 (V.int.inj e))]; rfl) ?_
        refine ⟨_, rfl, _, rfl, by show 2 ≤ sizeLine; decide, fun t ht => ?_⟩
        have s3 : Same H2 (upd H2 t (.tup [.int o, .int q])) := Same.put ht
        refine ⟨_, rfl, prd (o, q), ts.map prd, dp_pair ⟨t, rfl, upd_same⟩, dp_pairs (SqL.of (s3 _ _ hD2)) (hw.same s3), prd_shaped _, prds_shaped _, _, rfl, ?_⟩
        rw [prds_any]
        by_cases c2 : (o, q) ∈ ts
        · refine no_ (by rw [decide_eq_true c2]; rfl) ?_
          refine iteF ?_
          exact stay _ s3
        · refine yep_ (by rw [decide_eq_false c2]; rfl) ?_
          refine ⟨_, rfl, _, rfl, by show 2 ≤ sizeLine; decide, fun t' ht' => ?_⟩
          have s4 : Same H2 (upd (upd H2 t (.tup [.int o, .int q])) t' (.tup [.int q, .int o])) := Same.step s3 ht'
          refine ⟨_, rfl, prd (q, o), ts.map prd, dp_pair ⟨t', rfl, upd_same⟩, dp_pairs (SqL.of (s4 _ _ hD2)) (hw.same s4), prd_shaped _, prds_shaped _, _, rfl, ?_⟩
          rw [prds_any]
          by_cases c3 : (q, o) ∈ ts
          · refine no_ (by rw [decide_eq_true c3]; rfl) ?_
            exact stay _ s4
          · refine yep_ (by rw [decide_eq_false c3]; rfl) ?_
            -- made.append((one, other))
            refine ⟨_, rfl, .inl ⟨rfl, _, SqL.of (s4 _ _ hD2)⟩, _, rfl, _, rfl, by show 2 ≤ sizeLine; decide, fun u hu => ?_⟩
            have s5 := Same.put (o := .tup [.int o, .int q]) hu
            have hD5 := s5 _ _ (s4 _ _ hD2)
            refine ⟨D, _, _, rfl, rfl, hD5, by rw [hw.length]; exact small (by omega), ?_⟩
            have q5 := PairsAt.more (o := o) (q := q) (s4 _ _ hD2) (hw.same s4) hu
            refine ⟨_, _, _, _, ts ++ [(o, q)], rfl, ?_, Same.write (s2.trans (s4.trans s5)) hD, upd_same, q5, Good.snoc g ⟨o0, o1, q0, q1, c1⟩ c2 c3, by rw [List.length_append, List.length_singleton]; omega⟩
            rw [upd_ne pD.symm]
            exact s5 _ _ (s4 _ _ hp2)
    · rintro σ H2 ⟨v1, v2, v3, ws, ts, rfl, hp2, s2, hD2, hw, g, hl⟩
      rw [List.length_map] at hl
      exact ⟨_, rfl, k H2 D ws ts s2 hD hD2 hw g (by omega)⟩
end
end Fd
namespace Fd
open PySem PySem.Spec PyProof.Rows L2
noncomputable def dB (p : Prop) : Bool := @decide p (Classical.propDecidable p)
theorem dB_t {p : Prop} (h : p) : dB p = true := @decide_eq_true p (Classical.propDecidable p) h
theorem dB_f {p : Prop} (h : ¬ p) : dB p = false := @decide_eq_false p (Classical.propDecidable p) h
theorem dB_iff {p : Prop} : dB p = true ↔ p := @decide_eq_true_iff p (Classical.propDecidable p)
theorem dB_eq {p q : Prop} (h : p ↔ q) : dB p = dB q := by rw [Bool.eq_iff_iff, dB_iff, dB_iff]; exact h
theorem dB_dec {p : Prop} [Decidable p] : dB p = decide p := by rw [Bool.eq_iff_iff, dB_iff, decide_eq_true_iff]
/-! ### what is handed in as turns -/
inductive It
  | lst (xs : List V)
  | oth
inductive ItAt (K : PySem.W.Frag) (H : Hp) : V → It → Prop
  | lst {a : Addr} {xs : List V} (h : SqL K H a xs) (t : ∀ y ∈ xs, ∃ T, TyB K H y T) (l : xs.length ≤ 100) : ItAt K H (.ref a) (.lst xs)
  | oth {x : V} {T : String} (h : TyB K H x T) (n : T ≠ "list") : ItAt K H x .oth
inductive ThAt (K : PySem.W.Frag) (H : Hp) : V → Option (List It) → Prop
  | lst {a : Addr} {ws : List V} {its : List It} (h : SqL K H a ws) (p : Paired (ItAt K H) ws its) (l : ws.length ≤ 100) : ThAt K H (.ref a) (some its)
  | oth {x : V} {T : String} (h : TyB K H x T) (n : T ≠ "list") : ThAt K H x none
theorem ItAt.same {K : PySem.W.Frag} {H H' : Hp} {x : V} {it : It} (s : Same H H') (h : ItAt K H x it) : ItAt K H' x it := by
  cases h with
  | lst h t l => exact .lst (s.seq h) (fun y hy => (t y hy).imp fun T z => TyB.same s z) l
  | oth h n => exact .oth (TyB.same s h) n
theorem itsSame {K : PySem.W.Frag} {H H' : Hp} {ws : List V} {its : List It} (s : Same H H') (h : Paired (ItAt K H) ws its) : Paired (ItAt K H') ws its := Paired.mono (fun _ _ k => ItAt.same s k) h
theorem ThAt.same {K : PySem.W.Frag} {H H' : Hp} {x : V} {o : Option (List It)} (s : Same H H') (h : ThAt K H x o) : ThAt K H' x o := by
  cases h with
  | lst h p l => exact .lst (s.seq h) (itsSame s p) l
  | oth h n => exact .oth (TyB.same s h) n
theorem itAt_ints {K : PySem.W.Frag} {H : Hp} {a : Addr} {r : List Int} (h : SqL K H a (iL r)) (l : r.length ≤ 100) : ItAt K H (.ref a) (.lst (iL r)) := by
  refine .lst h (fun y hy => ?_) (by rw [List.length_map]; exact l)
  obtain ⟨i, _, rfl⟩ := List.mem_map.mp hy
  exact ⟨_, .int i⟩
def okIt (r : List Int) : It → Prop
  | .lst xs => ∃ is : List Int, xs = iL is ∧ is.Perm r
  | .oth => False
def okTh (rss : List (List Int)) : Option (List It) → Prop
  | some its => its.length = rss.length ∧ ∀ (k : Nat) (it : It) (r : List Int), its[k]? = some it → rss[k]? = some r → okIt r it
  | none => False
theorem isInt_ty {K : PySem.W.Frag} {H : Hp} {x : V} {T : String} (h : TyB K H x T) : decide (T = "int") = isI x := by
  cases h <;> rfl
theorem allInt : ∀ {xs : List V}, (xs.map isI).all id = true → ∃ is : List Int, xs = iL is
  | [], _ => ⟨[], rfl⟩
  | x :: xs, h => by
    rw [List.map_cons, List.all_cons, Bool.and_eq_true] at h
    obtain ⟨is, e⟩ := allInt h.2
    cases x with
    | int i => exact ⟨i :: is, by rw [e]; rfl⟩
    | _ => exact absurd h.1 Bool.false_ne_true
theorem iL_inj {xs ys : List Int} (h : iL xs = iL ys) : xs = ys := List.map_inj_right (fun _ _ e => V.int.inj e) |>.mp h
theorem perm_sorted {is js r : List Int} (hp : js.Perm is) (ho : js.Pairwise (· ≤ ·)) (hr : r.Pairwise (· < ·)) : js = r ↔ is.Perm r := by
  constructor
  · rintro rfl
    exact hp.symm
  · intro h
    have nd : r.Nodup := hr.imp fun h e => by omega
    refine strict_uniq (lt := fun a b : Int => a < b) (fun a b h => by omega) (strict_of_le ho ((hp.trans h).nodup_iff.mpr nd)) hr fun x => (hp.trans h).mem_iff
theorem inl_eqv : ∀ (xs ys : List Int), PyData.eqvAll (xs.map PyData.int) (ys.map PyData.int) = decide (xs = ys)
  | [], [] => by simp [PyData.eqvAll]
  | [], y :: ys => by simp [PyData.eqvAll]
  | x :: xs, [] => by simp [PyData.eqvAll]
  | x :: xs, y :: ys => by
    rw [List.map_cons, List.map_cons, PyData.eqvAll, inl_eqv xs ys, Bool.eq_iff_iff]
    simp [PyData.eqv]
theorem ints_eqv (xs ys : List Int) : PyData.eqv (.list (xs.map PyData.int)) (.list (ys.map PyData.int)) = decide (xs = ys) := by
  rw [← inl_eqv]
  simp [PyData.eqv]
structure TTxt (K : PySem.W.Frag) (mg : Str → Option Value) (C : Addr) : Prop where
  all : mg "all" = none
  enum : mg "enumerate" = none
  fIsTurn : Fn K mg "_is_turn" sIsTurn ["near", "turn"]
  fAre : Fn K mg "are_turns" sAreTurns ["web", "turns"]
  fC : FnM K C "_check_point" "Web._check_point" sWebCheckPoint ["self", "thing"]
  fB : FnM K C "beside" "Web.beside" sWebBeside ["self", "point"]
def spIsTurn (K : PySem.W.Frag) : Sp := fun vs H Q _ => ∃ (n : Addr) (x : V) (r : List Int) (it : It), vs = [.ref n, x] ∧ H n = some (.lst (iL r)) ∧ r.Pairwise (· < ·) ∧ ItAt K H x it ∧ ∀ H', Same H H' → Q (.bl (dB (okIt r it))) H'
def spAre (C : Addr) (K : PySem.W.Frag) : Sp := fun vs H Q _ => ∃ (H0 : Hp) (p : Addr) (m : Nat) (ts : List Tie) (x : V) (o : Option (List It)), vs = [.ref p, x] ∧ WebAt C H0 H p m ts ∧ m ≤ 16 ∧ ThAt K H x o ∧ ∀ H', Same H H' → Q (.bl (dB (okTh (rowsOf m ts) o))) H'
section
variable {P : Program} {w : World} {K : PySem.W.Frag} {mg : Str → Option Value} {base : Heap} {C : Addr}
abbrev nIsTurn : List Str := ["near", "turn", "point"]
theorem scIsTurn : FnScope ["near", "turn", "point"] ["near", "turn"] (defScope sIsTurn) := ⟨rfl, rfl, rfl, by decide +kernel, rfl, by decide +kernel, by decide +kernel⟩
theorem c_isturn (T : WTxt K mg C) (U : TTxt K mg C) : C8.Cal P w K mg base 2 "_is_turn" (spIsTurn K) [] := by
  refine cal_of U.fIsTurn scIsTurn (fun vs H Q E h => ?_) (fun f cdv A outer s H vs Q E hr h => ?_)
  · obtain ⟨n, x, r, it, rfl, _⟩ := h
    rfl
  · obtain ⟨n, x, r, it, rfl, hn, hr0, hx, k⟩ := h
    have hun : (A.deeper (envOfC "_is_turn" (defScope sIsTurn) s.heap.objs.size f cdv)).units + 64 < cLine := by
      have := hr.un
      omega
    refine ⟨_, pss_one (ps_ret (pe_and (pe_cmpR op_eqTy (pe_callTy call_type1 (by rfl) T.type (by decide +kernel) (pa_cons (pv 1) pa_nil)) (pe_bltn (v := .ty "list") (by rfl) T.list (by decide +kernel) rfl) (nomark _))
      (pe_and (pe_callB (cr_all rfl) (by rfl) U.all (by decide +kernel) (pa_cons (pe_lc (own := [("point", 2)]) (g := gName 2) (tt := tYes) (te := tCall (spNum K) [] C8.E0 (tCons (tVar 2) tNil)) (by rfl) scIsTurn.nd (pi_list (pv 1))
          (blkOk_by (own := [("point", 2)]) (N := nIsTurn) (sc := defScope sIsTurn) (by decide +kernel)) (fun _ _ _ _ _ => pg_name (i := 2) scIsTurn.nd rfl (Or.inl rfl)) (fun _ _ _ _ _ => pts_nil)
          (fun _ _ _ _ _ => C8.pe_c (c_num T) hr (by decide) (by rfl) (pa_cons (pv 2) pa_nil))) pa_nil))
      (pe_one (pe_cmpR (op_eqD hun) (pe_callB (id := "sorted") (r := rSortedI K) cr_sortedI (by rfl) T.sorted (by decide +kernel) (pa_cons (pv 1) pa_nil)) (pv 0) (nomark _)))))), ?_⟩
    cases hx with
    | @oth _ T0 h hne =>
      refine ⟨_, rfl, x, T0, rfl, h, T0, "list", rfl, rfl, TyB_kind h, by decide, _, rfl, ?_⟩
      refine no_ (decide_eq_false hne) ?_
      have q := k H (Same.refl H)
      rw [dB_f (p := okIt r .oth) (fun z => z)] at q
      exact q
    | @lst a xs h t l =>
      refine ⟨_, rfl, .ref a, "list", rfl, .lst h, "list", "list", rfl, rfl, by decide, by decide, _, rfl, ?_⟩
      refine iteT ?_
      refine ⟨_, rfl, a, rfl, ⟨_, h⟩, fun D hD => ?_⟩
      refine lc_list (K := K) (a := a) (xs := xs) (fun i H1 => Same H H1 ∧ H1 D = some (.lst (((xs.take i).map isI).map V.bl))) ⟨Same.put hD, upd_same⟩ (fun i H1 _ ⟨s1, _⟩ => s1.seq h) (fun i y H1 hi ⟨s1, d1⟩ => ?_) (fun H1 ⟨s1, d1⟩ => ?_)
      · have hlt := (List.getElem?_eq_some_iff.mp hi).1
        obtain ⟨T1, ht⟩ := t y (List.mem_of_getElem? hi)
        refine ⟨rfl, ?_⟩
        refine yes_ ?_
        refine iteT ?_
        refine ⟨_, rfl, y, T1, rfl, TyB.same s1 ht, ?_⟩
        refine ⟨_, d1, ?_, Same.write s1 hD, ?_⟩
        · rw [List.length_map, List.length_map, List.length_take]
          exact small (by omega)
        · rw [upd_same, isInt_ty ht, take_next hi, List.map_append, List.map_append]
          rfl
      · rw [List.take_length] at d1
        refine ⟨D, xs.map isI, rfl, SqL.of d1, _, rfl, ?_⟩
        by_cases c : (xs.map isI).all id = true
        · refine yep_ c ?_
          obtain ⟨is, rfl⟩ := allInt c
          refine ⟨_, rfl, a, is, rfl, s1.seq h, fun js p hp ho hnew => ?_⟩
          have s2 := Same.step (o := .lst (js.map V.int)) s1 hnew
          refine ⟨_, rfl, .list (js.map PyData.int), .list (r.map PyData.int), dp_ints (SqL.of upd_same), dp_ints (SqL.of (s2 _ _ hn)), inl_shaped _, inl_shaped _, ?_⟩
          have q := k _ s2
          rw [ints_eqv]
          have e : dB (okIt r (.lst (iL is))) = decide (js = r) := by
            rw [← dB_dec]
            refine dB_eq ?_
            rw [perm_sorted hp ho hr0]
            constructor
            · rintro ⟨is', e1, e2⟩
              rw [iL_inj e1]
              exact e2
            · exact fun z => ⟨is, rfl, z⟩
          rw [e] at q
          exact q
        · have c' := Bool.eq_false_iff.mpr c
          refine no_ c' ?_
          have q := k H1 s1
          rw [dB_f] at q
          · exact q
          · rintro ⟨is, rfl, _⟩
            refine c ?_
            rw [List.all_eq_true]
            intro b hb
            obtain ⟨y, hy, rfl⟩ := List.mem_map.mp hb
            obtain ⟨i, _, rfl⟩ := List.mem_map.mp hy
            rfl
end
end Fd
namespace Fd
open PySem PySem.Spec PyProof.Rows L2
section
variable {P : Program} {w : World} {K : PySem.W.Frag} {mg : Str → Option Value} {base : Heap} {C : Addr}
abbrev nAre : List Str := ["web", "turns", "point", "turn"]
theorem scAre : FnScope ["web", "turns", "point", "turn"] ["web", "turns"] (defScope sAreTurns) := ⟨rfl, rfl, rfl, by decide +kernel, rfl, by decide +kernel, by decide +kernel⟩
theorem okTh_len {rss : List (List Int)} {its : List It} (h : its.length ≠ rss.length) : ¬ okTh rss (some its) := fun z => h z.1
theorem okTh_all {rss : List (List Int)} {its : List It} {bs : List Bool} (hl : its.length = rss.length) (hb : bs.length = its.length)
    (h : ∀ (k : Nat) (it : It) (r : List Int), its[k]? = some it → rss[k]? = some r → bs[k]? = some (dB (okIt r it))) : bs.all id = dB (okTh rss (some its)) := by
  rw [Bool.eq_iff_iff, dB_iff, List.all_eq_true]
  constructor
  · refine fun q => ⟨hl, fun k it r e1 e2 => ?_⟩
    have z := q _ (List.mem_of_getElem? (h k it r e1 e2))
    exact dB_iff.mp z
  · rintro ⟨_, q⟩ b hm
    obtain ⟨k, hk⟩ := List.mem_iff_getElem?.mp hm
    have k1 : k < bs.length := (List.getElem?_eq_some_iff.mp hk).1
    have e1 : its[k]? = some its[k] := List.getElem?_eq_getElem (by omega)
    have e2 : rss[k]? = some rss[k] := List.getElem?_eq_getElem (by omega)
    have z := h k _ _ e1 e2
    rw [Option.some.inj (hk.symm.trans z)]
    exact dB_t (q k _ _ e1 e2)
theorem c_are (T : WTxt K mg C) (U : TTxt K mg C) : C8.Cal P w K mg base 5 "are_turns" (spAre C K) [] := by
  refine cal_of U.fAre scAre (fun vs H Q E h => ?_) (fun f cdv A outer s H vs Q E hr h => ?_)
  · obtain ⟨H0, p, m, ts, x, o, rfl, _⟩ := h
    rfl
  · obtain ⟨H0, p, m, ts, x, o, rfl, W, m16, hx, k⟩ := h
    obtain ⟨p0, dx, R, as, hp, r⟩ := id W
    refine ⟨_, pss_cons (ps_if (PW.pt (pw_or (pt_cmpR op_neTy (pe_callTy call_type1 (by rfl) T.type (by decide +kernel) (pa_cons (pv 1) pa_nil)) (pe_bltn (v := .ty "list") (by rfl) T.list (by decide +kernel) rfl) (nomark _))
        (pw_or1 (pt_cmpR op_ne (pe_callB call_len_seq (by rfl) T.len PySem.boot_len (pa_cons (pv 1) pa_nil)) (pe_fld (pv 0) rfl) (nomark _))))) (pss_one (ps_ret pe_bl)) pss_nil)
      (pss_one (ps_ret (pe_callB (cr_all rfl) (by rfl) U.all (by decide +kernel) (pa_cons (pe_lc (own := [("point", 2), ("turn", 3)]) (g := gTup K 2 (gCons (gName 2) (gCons (gName 3) gNil))) (tt := tYes)
          (te := tCall (spIsTurn K) [] C8.E0 (tCons (tMeth C "beside" (spBeside C) [] C8.E0 (tVar 0) (tCons (tVar 2) tNil)) (tCons (tVar 3) tNil))) (by rfl) scAre.nd (pi_enum (by rfl) U.enum (pa_cons (pv 1) pa_nil))
          (blkOk_by (own := [("point", 2), ("turn", 3)]) (N := nAre) (sc := defScope sAreTurns) (by decide +kernel))
          (fun _ _ _ _ _ => pg_tup (by rfl) (pgs_cons (pg_name (i := 2) scAre.nd rfl (Or.inl rfl)) (pgs_cons (pg_name (i := 3) scAre.nd rfl (Or.inl rfl)) pgs_nil))) (fun _ _ _ _ _ => pts_nil)
          (fun _ _ _ _ _ => C8.pe_c (c_isturn T U) hr (by decide) (by rfl) (pa_cons (C8.pe_mt (c_beside T U.fC U.fB) hr (by decide) (pv 0) (pa_cons (pv 2) pa_nil)) (pa_cons (pv 3) pa_nil)))) pa_nil)))), ?_⟩
    cases hx with
    | @oth _ T0 h hne =>
      refine ⟨_, rfl, x, T0, rfl, h, T0, "list", rfl, rfl, TyB_kind h, by decide, _, rfl, ?_⟩
      refine yep_ (by rw [decide_eq_false hne]; rfl) ?_
      refine iteT ?_
      have q := k H (Same.refl H)
      rw [dB_f (p := okTh (rowsOf m ts) none) (fun z => z)] at q
      exact q
    | @lst a ws its h pr l =>
      have wl := pr.length
      refine ⟨_, rfl, .ref a, "list", rfl, .lst h, "list", "list", rfl, rfl, by decide, by decide, _, rfl, ?_⟩
      refine iteF ?_
      refine ⟨_, rfl, a, ws, rfl, .inl h, _, rfl, p, C, dx, _, _, rfl, hp, T.cl, T.nMany, wF_many _ _, rfl, _, rfl, ?_⟩
      by_cases c : ws.length = m
      · refine no_ (by rw [c, decide_eq_true rfl]; rfl) ?_
        refine ⟨_, rfl, a, ws, rfl, h, fun D hD => ?_⟩
        refine ⟨fun i n H2 => n = m - i ∧ i ≤ m ∧ Same H H2 ∧ ∃ bs : List Bool, H2 D = some (.lst (bs.map V.bl)) ∧ bs.length = i ∧ (∀ (k : Nat) (it : It) (r : List Int), k < i → its[k]? = some it → (rowsOf m ts)[k]? = some r → bs[k]? = some (dB (okIt r it))),
          ⟨m, rfl, Nat.zero_le _, Same.put hD, [], upd_same, rfl, fun k it r z => by omega⟩, ?_⟩
        rintro i n H2 ⟨rfl, him, s2, bs, d2, bl, hb⟩
        by_cases hi : i < m
        · have ew : ws[i]? = some ws[i] := List.getElem?_eq_getElem (by omega)
          generalize ws[i] = y0 at ew
          obtain ⟨it, ei, hit⟩ := paired_get pr ew
          have er := rowsOf_at (ts := ts) hi
          refine .inr ⟨⟨_, _, s2.seq h, ew⟩, fun H3 => i + 1 ≤ m ∧ Same H H3 ∧ ∃ bs : List Bool, H3 D = some (.lst (bs.map V.bl)) ∧ bs.length = i + 1 ∧ (∀ (k : Nat) (it : It) (r : List Int), k < i + 1 → its[k]? = some it → (rowsOf m ts)[k]? = some r → bs[k]? = some (dB (okIt r it))), fun H3 q => ⟨m - (i + 1), by omega, rfl, q⟩, ?_⟩
          rintro x H3 ⟨T0, y, rfl, hT, rfl, hy⟩
          obtain rfl : y = y0 := Option.some.inj ((hy _ (s2.seq h)).symm.trans ew)
          have s3 := Same.put (o := .tup [.int ((i : Nat) : Int), y]) hT
          refine ⟨T0, _, rfl, SqT.of upd_same, rfl, _, _, rfl, _, _, rfl, rfl, ?_⟩
          refine ⟨rfl, ?_⟩
          refine yes_ ?_
          refine iteT ?_
          have s4 := s2.trans s3
          refine ⟨_, rfl, p, dx, _, rfl, s4 _ _ hp, wF_no _ _ (by decide +kernel) (by decide +kernel), _, rfl, H0, p, m, ts, i, rfl, W.same s4, hi, fun N hN => ?_⟩
          have s5 := Same.step (o := .lst (iL (rowOf m ts i))) s4 hN
          refine ⟨_, rfl, N, y, rowOf m ts i, it, rfl, upd_same, rowOf_strict m ts i, ItAt.same s5 hit, fun H4 s6 => ?_⟩
          refine ⟨bs.map V.bl, s6 _ _ (Same.put hN _ _ (s3 _ _ d2)), by rw [List.length_map, bl]; exact small (by omega), by omega, Same.write (s5.trans s6) hD, bs ++ [dB (okIt (rowOf m ts i) it)], ?_, by rw [List.length_append, bl]; rfl, ?_⟩
          · rw [upd_same, List.map_append]
            rfl
          · intro j it' r' hj e1 e2
            by_cases hji : j < i
            · rw [List.getElem?_append_left (by omega)]
              exact hb j it' r' hji e1 e2
            · have e : j = i := by omega
              subst e
              cases Option.some.inj (e1.symm.trans ei)
              cases Option.some.inj (e2.symm.trans er)
              rw [List.getElem?_append_right (by omega), bl, Nat.sub_self]
              rfl
        · have e : i = m := by omega
          subst e
          refine .inl ⟨⟨_, s2.seq h, by rw [c]; exact Nat.le_refl _⟩, ?_⟩
          refine ⟨D, bs, rfl, SqL.of d2, ?_⟩
          rw [okTh_all (rss := rowsOf i ts) (its := its) (by rw [rowsOf_len, ← wl, c]) (by rw [bl, ← wl, c]) fun k it r e1 e2 => hb k it r (by
            have := (List.getElem?_eq_some_iff.mp e2).1
            rw [rowsOf_len] at this
            exact this) e1 e2]
          exact k H2 s2
      · refine yep_ ?_ ?_
        · rw [Bool.not_eq_true']
          exact decide_eq_false fun z => c (by have := V.int.inj z; omega)
        · have q := k H (Same.refl H)
          rw [dB_f (okTh_len (by rw [rowsOf_len, ← wl]; exact c))] at q
          exact q
end
end Fd
namespace Fd
open PySem PySem.Spec PyProof.Rows L2
/-! ### turns that are refused -/
def spBadT (C : Addr) (K : PySem.W.Frag) (D : Addr) : Sp := fun vs H Q E => ∃ (H0 : Hp) (p : Addr) (m : Nat) (ts : List Tie) (x : V) (o : Option (List It)), vs = [.ref p, x] ∧ WebAt C H0 H p m ts ∧ m ≤ 16 ∧ ThAt K H x o ∧ ¬ okTh (rowsOf m ts) o ∧ ∀ H', Same H H' → E (.ref D) none H'
theorem pss_never {X : Cx} {b : List Stmt} : PSs X b (fun _ _ _ => False) := ⟨fun _ _ _ _ _ _ h => h.elim⟩
section
variable {P : Program} {w : World} {K : PySem.W.Frag} {mg : Str → Option Value} {base : Heap} {C D : Addr}
theorem scCheckT : FnScope ["web", "turns"] ["web", "turns"] (defScope sCheckTurns) := ⟨rfl, rfl, rfl, by decide +kernel, rfl, by decide +kernel, by decide +kernel⟩
theorem c_checkTX (T : WTxt K mg C) (U : TTxt K mg C) (F : Fn K mg "_check_turns" sCheckTurns ["web", "turns"]) (eD : Err K mg "NoTurns" D) : CalX P w K mg base 6 "_check_turns" (spBadT C K D) := by
  refine calX_of F scCheckT (fun vs H Q E h => ?_) (fun f cdv A outer s H vs Q E hr h => ?_)
  · obtain ⟨H0, p, m, ts, x, o, rfl, _⟩ := h
    rfl
  · obtain ⟨H0, p, m, ts, x, o, rfl, W, m16, hx, bad, kE⟩ := h
    refine ⟨_, pss_one (ps_if (pt_not (pt_val (C8.pe_c (c_are T U) hr (by decide) (by rfl) (pa_cons (pv 0) (pa_cons (pv 1) pa_nil)))))
      (pss_one (ps_raise rfl (takes_of rfl rfl rfl rfl) (pmk_own PySem.F.excBase_ValueError eD.x eD.g eD.k (raises_own eD.b eD.t) (by rfl)))) pss_nil), ?_⟩
    refine ⟨_, rfl, _, rfl, H0, p, m, ts, x, o, rfl, W, m16, hx, fun H1 s1 => ⟨_, rfl, ?_⟩⟩
    rw [dB_f bad]
    exact iteT (kE H1 s1)
theorem scWalksX : FnScope ["web", "turns", "found", "gone", "step", "walk", "each", "one", "other"] ["web", "turns"] (defScope sWalks) := ⟨rfl, rfl, rfl, by decide +kernel, rfl, by decide +kernel, by decide +kernel⟩
theorem c_walksX (T : WTxt K mg C) (U : TTxt K mg C) (F : Fn K mg "_check_turns" sCheckTurns ["web", "turns"]) (FW : Fn K mg "walks" sWalks ["web", "turns"]) (eD : Err K mg "NoTurns" D) : CalX P w K mg base 7 "walks" (spBadT C K D) := by
  refine calX_of FW scWalksX (fun vs H Q E h => ?_) (fun f cdv A outer s H vs Q E hr h => ?_)
  · obtain ⟨H0, p, m, ts, x, o, rfl, _⟩ := h
    rfl
  · obtain ⟨H0, p, m, ts, x, o, rfl, W, m16, hx, bad, kE⟩ := h
    refine ⟨_, pss_cons (ps_expr (pe_cX (c_checkTX T U F eD) hr (by decide) (by rfl) (passes_call (takes_of rfl rfl rfl rfl) (fun _ _ _ _ h => h)) (pa_cons (pv 0) (pa_cons (pv 1) pa_nil)))) pss_never, ?_⟩
    exact ⟨_, rfl, _, rfl, H0, p, m, ts, x, o, rfl, W, m16, hx, bad, kE⟩
theorem scFlatX : FnScope ["web", "turns", "found", "piece"] ["web", "turns"] (defScope sFlat) := ⟨rfl, rfl, rfl, by decide +kernel, rfl, by decide +kernel, by decide +kernel⟩
theorem c_flatX (T : WTxt K mg C) (U : TTxt K mg C) (F : Fn K mg "_check_turns" sCheckTurns ["web", "turns"]) (FW : Fn K mg "walks" sWalks ["web", "turns"]) (FF : Fn K mg "flat" sFlat ["web", "turns"]) (eD : Err K mg "NoTurns" D) : CalX P w K mg base 8 "flat" (spBadT C K D) := by
  refine calX_of FF scFlatX (fun vs H Q E h => ?_) (fun f cdv A outer s H vs Q E hr h => ?_)
  · obtain ⟨H0, p, m, ts, x, o, rfl, _⟩ := h
    rfl
  · obtain ⟨H0, p, m, ts, x, o, rfl, W, m16, hx, bad, kE⟩ := h
    refine ⟨_, pss_cons (ps_set (i := 2) scFlatX.nd rfl (Or.inr rfl) (pe_cX (c_walksX T U F FW eD) hr (by decide) (by rfl) (passes_call (takes_of rfl rfl rfl rfl) (fun _ _ _ _ h => h)) (pa_cons (pv 0) (pa_cons (pv 1) pa_nil)))) pss_never, ?_⟩
    exact ⟨_, rfl, _, rfl, H0, p, m, ts, x, o, rfl, W, m16, hx, bad, kE⟩
end
end Fd
namespace Fd
open PySem PySem.Spec PyProof.Rows L2
/-! ### rows told in another order -/
theorem RowsAt.put {H0 H H' : Hp} {R p : Addr} {as : List Addr} {rss : List (List Int)} {r : List Int} (h : RowsAt H0 H R as rss) (s0 : Same H0 H) (s : Same H H') (hp : H p = none) (hp' : H' p = some (.lst (iL r))) :
    RowsAt H0 (upd H' R (.lst (as.map V.ref ++ [.ref p]))) R (as ++ [p]) (rss ++ [r]) := by
  have pR : R ≠ p := ne_of_none h.top hp
  have pas : p ∉ as := fun hm => by
    obtain ⟨i, hi, e⟩ := List.getElem_of_mem hm
    have e' : as[i]? = some p := by rw [List.getElem?_eq_getElem hi, e]
    have hi2 : i < rss.length := by rw [← h.len]; exact hi
    have q := (h.row i p rss[i] e' (List.getElem?_eq_getElem hi2)).2
    rw [hp] at q
    cases q
  refine ⟨by rw [upd_same, List.map_append]; rfl, h.new, by simp [h.len], List.nodup_append.mpr ⟨h.nd, by simp, fun x hx y hy e => ?_⟩, fun hm => ?_, fun i a r' e1 e2 => ?_⟩
  · rw [List.mem_singleton.mp hy] at e
    exact pas (e ▸ hx)
  · rcases List.mem_append.mp hm with k | k
    · exact h.out k
    · exact pR (List.mem_singleton.mp k)
  · by_cases hi : i < as.length
    · rw [List.getElem?_append_left hi] at e1
      rw [List.getElem?_append_left (by rw [← h.len]; exact hi)] at e2
      obtain ⟨k1, k2⟩ := h.row i a r' e1 e2
      have aR : a ≠ R := fun e => h.out (e ▸ List.mem_of_getElem? e1)
      exact ⟨k1, by rw [upd_ne aR]; exact s _ _ k2⟩
    · have hi' : as.length ≤ i := Nat.le_of_not_lt hi
      rw [List.getElem?_append_right hi'] at e1
      rw [List.getElem?_append_right (by rw [← h.len]; exact hi')] at e2
      obtain ⟨e1a, e1b⟩ := List.getElem?_eq_some_iff.mp e1
      obtain ⟨e2a, e2b⟩ := List.getElem?_eq_some_iff.mp e2
      simp only [List.getElem_singleton] at e1b e2b
      subst e1b
      subst e2b
      exact ⟨s0.free hp, by rw [upd_ne pR.symm]; exact hp'⟩
theorem map_erase : ∀ (l : List Int) (j : Nat), (iL l).eraseIdx j = iL (l.eraseIdx j)
  | [], _ => by simp
  | x :: l, 0 => rfl
  | x :: l, j + 1 => by
    show V.int x :: (iL l).eraseIdx j = iL (x :: l.eraseIdx j)
    rw [map_erase l j]
    rfl
theorem perm_erase {α : Type} : ∀ {l : List α} {i : Nat} {x : α}, l[i]? = some x → (x :: l.eraseIdx i).Perm l
  | [], i, x, h => by simp at h
  | a :: l, 0, x, h => by
    cases Option.some.inj h
    exact List.Perm.refl _
  | a :: l, i + 1, x, h => (List.Perm.swap a x (l.eraseIdx i)).trans ((perm_erase (l := l) (i := i) (x := x) h).cons a)
def muL (i : Nat) (σ : L2.St) (H : Hp) : Nat := match σ[i]? with
  | some (some (V.ref a)) => match H a with
    | some (.lst xs) => xs.length
    | _ => 0
  | _ => 0
def spOrder (K : PySem.W.Frag) : Sp := fun vs H Q _ => ∃ (c : Int) (l : Addr) (r : List Int), vs = [.int c, .ref l] ∧ SqL K H l (iL r) ∧ r.length ≤ 100 ∧
  ∀ (H' : Hp) (D : Addr) (r' : List Int), Same H H' → H D = none → H' D = some (.lst (iL r')) → r'.Perm r → Q (.ref D) H'
section
variable {P : Program} {w : World} {K : PySem.W.Frag} {mg : Str → Option Value} {base : Heap} {C : Addr}
theorem scOrder : FnScope ["_law_cell", "_law_row", "_law_left", "_law_made"] ["_law_cell", "_law_row"] (defScope sLawOrderBy) := ⟨rfl, rfl, rfl, by decide +kernel, rfl, by decide +kernel, by decide +kernel⟩
theorem c_order (T : WTxt K mg C) (FO : Fn K mg "_law_order_by" sLawOrderBy ["_law_cell", "_law_row"]) : C8.Cal P w K mg base 1 "_law_order_by" (spOrder K) [] := by
  refine cal_of FO scOrder (fun vs H Q E h => ?_) (fun f cdv A outer s H vs Q E hr h => ?_)
  · obtain ⟨c, l, r, rfl, _⟩ := h
    rfl
  · obtain ⟨c, l, r, rfl, hS, r100, k⟩ := h
    have hun : (A.deeper (envOfC "_law_order_by" (defScope sLawOrderBy) s.heap.objs.size f cdv)).units + 64 < cLine := by
      have := hr.un
      omega
    refine ⟨_, pss_cons (ps_set (i := 2) scOrder.nd rfl (Or.inl rfl) (pe_callTy call_list_of (by rfl) T.list (by decide +kernel) (pa_cons (pv 1) pa_nil)))
      (pss_cons (ps_set (i := 3) scOrder.nd rfl (Or.inl rfl) (pe_lst pa_nil))
      (pss_cons (ps_while PassesOwn.never (pt_cmpR (op_neD hun) (pv 2) (pe_lst pa_nil) (nomark _))
        (pss_cons (ps_expr (pe_bm PySem.F.plainAttrs_list PySem.F.slot_list_append PySem.F.type_list_append mt_append (pv 3) (pa_cons (pe_bm PySem.F.plainAttrs_list PySem.F.slot_list_pop PySem.F.type_list_pop mt_popAt (pv 2)
            (pa_cons (pe_op op_mod (pv 0) (pe_callB call_len_seq (by rfl) T.len PySem.boot_len (pa_cons (pv 2) pa_nil))) pa_nil)) pa_nil)))
        (pss_one (ps_set (i := 0) scOrder.nd rfl (Or.inl rfl) (pe_op op_fdiv (pv 0) (pe_op op_add (pe_callB call_len_seq (by rfl) T.len PySem.boot_len (pa_cons (pv 2) pa_nil)) pe_int))))))
      (pss_one (ps_ret (pv 3))))), ?_⟩
    refine ⟨_, rfl, l, iL r, rfl, .inl hS, fun L hL => ?_⟩
    refine ⟨Nat.zero_le _, fun D hD => ?_⟩
    have LD : L ≠ D := ne_of_none upd_same hD
    have H0D : H D = none := by
      rw [upd_ne LD.symm] at hD
      exact hD
    refine while_by (fun σ H1 => ∃ (c1 : Int) (lf md : List Int), σ = [some (.int c1), some (.ref l), some (.ref L), some (.ref D)] ∧ Same H H1 ∧ H1 L = some (.lst (iL lf)) ∧ H1 D = some (.lst (iL md)) ∧ (md ++ lf).Perm r) (muL 2)
      ⟨c, r, [], rfl, Same.step (Same.put hL) hD, by rw [upd_ne LD, upd_same], upd_same, List.Perm.refl r⟩ ?_ ?_
    · rintro σ H1 ⟨c1, lf, md, rfl, s1, hl1, hd1, pm⟩
      have len : md.length + lf.length = r.length := by
        have := pm.length_eq
        rw [List.length_append] at this
        exact this
      refine ⟨_, rfl, Nat.zero_le _, fun N hN => ?_⟩
      have s2 := Same.put (o := .lst []) hN
      have LN : L ≠ N := ne_of_none hl1 hN
      have DN : D ≠ N := ne_of_none hd1 hN
      refine ⟨.list (lf.map PyData.int), .list (([] : List Int).map PyData.int), dp_ints (SqL.of (s2 _ _ hl1)), dp_ints (SqL.of upd_same), inl_shaped _, inl_shaped _, _, rfl, ?_⟩
      rw [ints_eqv]
      by_cases c2 : lf = []
      · refine no_ (by rw [decide_eq_true c2]; rfl) ?_
        subst c2
        rw [List.append_nil] at pm
        exact ⟨_, rfl, k _ D md (s1.trans s2) H0D (s2 _ _ hd1) pm⟩
      · refine yep_ (by rw [decide_eq_false c2]; rfl) ?_
        have lpos : 0 < lf.length := List.length_pos_iff.mpr c2
        have m0 := Int.emod_nonneg c1 (show (lf.length : Int) ≠ 0 by omega)
        have m1 := Int.emod_lt_of_pos c1 (show (0 : Int) < lf.length by omega)
        obtain ⟨j, ej⟩ : ∃ j : Nat, c1 % (lf.length : Int) = j := ⟨(c1 % (lf.length : Int)).toNat, by omega⟩
        have hj : j < lf.length := by omega
        have e2 : ((iL lf).length : Int) = (lf.length : Int) := by rw [List.length_map]
        refine ⟨_, rfl, .inl ⟨rfl, _, SqL.of (s2 _ _ hd1)⟩, ?_⟩
        refine ⟨_, rfl, .inl ⟨rfl, _, SqL.of (s2 _ _ hl1)⟩, _, rfl, _, rfl, L, iL lf, rfl, .inl (SqL.of (s2 _ _ hl1)), _, _, rfl, rfl, by rw [e2]; omega, ?_⟩
        have e3 : c1 % ((iL lf).length : Int) = (j : Int) := by rw [e2]; exact ej
        refine ⟨L, iL lf, c1 % ((iL lf).length : Int), j, .int lf[j], rfl, rfl, s2 _ _ hl1, by rw [e3]; omega, by rw [e3]; omega, by rw [e3, seqIndex_of (by omega) (by rw [List.length_map]; omega), Int.toNat_natCast], iL_get (List.getElem?_eq_getElem hj), ?_⟩
        have eE : (iL lf).eraseIdx j = iL (lf.eraseIdx j) := map_erase _ _
        rw [eE]
        refine ⟨D, iL md, _, rfl, rfl, by rw [upd_ne LD.symm, upd_ne DN]; exact hd1, by rw [List.length_map]; exact small (by omega), ?_⟩
        have eM : iL md ++ [V.int lf[j]] = iL (md ++ [lf[j]]) := by
          unfold iL
          rw [List.map_append]
          rfl
        rw [eM]
        have hl3 : (upd (upd (upd H1 N (.lst [])) L (.lst (iL (lf.eraseIdx j)))) D (.lst (iL (md ++ [lf[j]])))) L = some (.lst (iL (lf.eraseIdx j))) := by rw [upd_ne LD, upd_same]
        have le : (lf.eraseIdx j).length = lf.length - 1 := List.length_eraseIdx_of_lt hj
        refine ⟨_, rfl, _, rfl, L, iL (lf.eraseIdx j), rfl, .inl (SqL.of hl3), _, _, rfl, rfl, _, _, rfl, rfl, ⟨by rw [List.length_map]; omega, by rw [List.length_map]; omega⟩, ?_⟩
        refine ⟨⟨_, lf.eraseIdx j, md ++ [lf[j]], rfl, ?_, hl3, upd_same, ?_⟩, ?_⟩
        · exact Same.write (Same.write (s1.trans s2) hL) H0D
        · rw [List.append_assoc]
          exact ((perm_erase (List.getElem?_eq_getElem hj)).append_left md).trans pm
        · show (match (upd (upd (upd H1 N (.lst [])) L (.lst (iL (lf.eraseIdx j)))) D (.lst (iL (md ++ [lf[j]])))) L with | some (.lst xs) => xs.length | _ => 0) < (match H1 L with | some (.lst xs) => xs.length | _ => 0)
          rw [hl3, hl1]
          show (iL (lf.eraseIdx j)).length < (iL lf).length
          rw [List.length_map, List.length_map, le]
          omega
    · rintro σ H1 Q1 Q2 hq ⟨v, e1, l0, h⟩
      refine ⟨v, e1, l0, fun p hp => ?_⟩
      obtain ⟨d, e, h1, h2, h3, h4, c, e6, q⟩ := h p hp
      exact ⟨d, e, h1, h2, h3, h4, c, e6, hq _ _ q⟩
end
/-- for each point the points beside it, in some order -/
structure TurnsOf (m : Nat) (ts : List Tie) (tss : List (List Int)) : Prop where
  len : tss.length = m
  row : ∀ (k : Nat) (t : List Int), tss[k]? = some t → t.Perm (rowOf m ts k)
theorem nb_next {ts : List Tie} {i : Nat} {t : Tie} (p : Int) (h : ts[i]? = some t) (ne : t.1 ≠ t.2) : nb (ts.take (i + 1)) p = nb (ts.take i) p ++ (if p = t.1 ∨ p = t.2 then [t.1 + t.2 - p] else []) := by
  rw [take_next h, nb_snoc]
  congr 1
  unfold here
  by_cases h1 : t.1 = p
  · have h2 : ¬ t.2 = p := fun z => ne (h1.trans z.symm)
    rw [if_pos h1, if_neg h2, if_pos (.inl h1.symm), List.append_nil]
    congr 1
    omega
  · by_cases h2 : t.2 = p
    · rw [if_neg h1, if_pos h2, if_pos (.inr h2.symm), List.nil_append]
      congr 1
      omega
    · rw [if_neg h1, if_neg h2, if_neg (by rintro (z | z) <;> simp_all)]
      rfl
def spTurnsBy (K : PySem.W.Frag) : Sp := fun vs H Q _ => ∃ (a : Addr) (ns : List Int) (m : Nat) (l : Addr) (ws : List V) (ts : List Tie), vs = [.ref a, .int m, .ref l] ∧ SqL K H a (iL ns) ∧ m ≤ 16 ∧ H l = some (.lst ws) ∧ PairsAt H ws ts ∧ Good m ts ∧ ts.length ≤ 63 ∧
  ∀ (H' : Hp) (R : Addr) (as : List Addr) (tss : List (List Int)), Same H H' → RowsAt H H' R as tss → TurnsOf m ts tss → Q (.ref R) H'
section
variable {P : Program} {w : World} {K : PySem.W.Frag} {mg : Str → Option Value} {base : Heap} {C : Addr}
abbrev nTurnsBy : List Str := ["_law_script", "_law_many_here", "_law_ties_here", "_law_turns", "_law_point", "_law_own", "_law_tie"]
theorem scTurnsBy : FnScope ["_law_script", "_law_many_here", "_law_ties_here", "_law_turns", "_law_point", "_law_own", "_law_tie"] ["_law_script", "_law_many_here", "_law_ties_here"] (defScope sLawTurnsBy) := ⟨rfl, rfl, rfl, by decide +kernel, rfl, by decide +kernel, by decide +kernel⟩
theorem c_turnsby (T : WTxt K mg C) (L : LTxt K mg) (FO : Fn K mg "_law_order_by" sLawOrderBy ["_law_cell", "_law_row"]) (FT : Fn K mg "_law_turns_by" sLawTurnsBy ["_law_script", "_law_many_here", "_law_ties_here"]) : C8.Cal P w K mg base 2 "_law_turns_by" (spTurnsBy K) [] := by
  refine cal_of FT scTurnsBy (fun vs H Q E h => ?_) (fun f cdv A outer s H vs Q E hr h => ?_)
  · obtain ⟨a, ns, m, l, ws, ts, rfl, _⟩ := h
    rfl
  · obtain ⟨a, ns, m, l, ws, ts, rfl, hS, m16, hl, hw, g, tl, k⟩ := h
    refine ⟨_, pss_cons (ps_set (i := 3) scTurnsBy.nd rfl (Or.inl rfl) (pe_lst pa_nil))
      (pss_cons (ps_for PassesOwn.never rfl (pi_range1 (by rfl) T.range (pa_cons (pv 1) pa_nil)) (pg_name (i := 4) scTurnsBy.nd rfl (Or.inr rfl))
        (pss_cons (ps_setLc (i := 5) (own := [("_law_tie", 6)]) (g := gName 6) (tt := tTest (tOp (rIn K false) (tVar 4) (tVar 6))) (te := tOp (rI0 fun i j => .int (i - j)) (tOp (rI0 fun i j => .int (i + j)) (tOp (rIxT K) (tVar 6) (tC (.int 0))) (tOp (rIxT K) (tVar 6) (tC (.int 1)))) (tVar 4))
            (by rfl) scTurnsBy.nd rfl rfl (sw_true rfl rfl rfl (by decide +kernel)) (pi_list (pv 2)) (blkOk_by (own := [("_law_tie", 6)]) (N := nTurnsBy) (sc := defScope sLawTurnsBy) (by decide +kernel)) (fun _ _ _ _ _ => pg_name (i := 6) scTurnsBy.nd rfl (Or.inl rfl))
            (fun _ _ _ _ _ => pts_one (pt_cmpR op_in_seq (pv 4) (pv 6) (by rfl)))
            (fun _ _ _ _ _ => pe_op op_sub (pe_op op_add (pe_ix ix_tup (pv 6) pe_int (fun _ _ => rfl)) (pe_ix ix_tup (pv 6) pe_int (fun _ _ => rfl))) (pv 4)))
        (pss_one (ps_expr (pe_bm PySem.F.plainAttrs_list PySem.F.slot_list_append PySem.F.type_list_append mt_append (pv 3) (pa_cons (C8.pe_c (c_order T FO) hr (by decide) (by rfl)
            (pa_cons (pe_op op_add (pe_op op_fdiv (C8.pe_c (c_cell T L) hr (by decide) (by rfl) (pa_cons (pv 0) (pa_cons pe_int pa_nil))) (pe_op op_add pe_int (pe_op op_mul pe_int (pv 4)))) (pe_op op_mul pe_int (pv 4)))
              (pa_cons (pe_callB (id := "sorted") (r := rSortedI K) cr_sortedI (by rfl) T.sorted (by decide +kernel) (pa_cons (pv 5) pa_nil)) pa_nil))) pa_nil))))))
      (pss_one (ps_ret (pv 3)))), ?_⟩
    refine ⟨Nat.zero_le _, fun R hR => ?_⟩
    refine ⟨_, rfl, (m : Int), rfl, by omega, by omega, for_range (lo := 0) (n := (m : Int).toNat) (fun i σ H1 => ∃ (v1 v2 : Option V) (as : List Addr) (tss : List (List Int)), σ = [some (.ref a), some (.int m), some (.ref l), some (.ref R), v1, v2, none] ∧ Same H H1 ∧ RowsAt H H1 R as tss ∧ tss.length = i ∧ (∀ (k : Nat) (t : List Int), tss[k]? = some t → t.Perm (rowOf m ts k)))
      ⟨none, none, [], [], rfl, Same.put hR, RowsAt.start hR, rfl, fun k t e => by simp at e⟩ ?_ ?_⟩
    · rintro i σ H1 hi ⟨v1, v2, as, tss, rfl, s1, r1, tlen, tperm⟩
      rw [Int.toNat_natCast] at hi
      rw [Int.zero_add]
      dsimp only [tNext, gName, tSeq, tAsg]
      refine ⟨_, rfl, l, rfl, ⟨_, SqL.of (s1 _ _ hl)⟩, fun D hD => ?_⟩
      refine lc_list (K := K) (a := l) (xs := ws) (fun j H2 => Same H1 H2 ∧ H2 D = some (.lst (iL (nb (ts.take j) (i : Int))))) ⟨Same.put hD, by rw [upd_same, List.take_zero]; rfl⟩ (fun j H2 _ ⟨s2, _⟩ => SqL.of (s2 _ _ (s1 _ _ hl))) (fun j x H2 hj ⟨s2, d2⟩ => ?_) (fun H2 ⟨s2, d2⟩ => ?_)
      · obtain ⟨t, ht, b, rfl, hb⟩ := paired_get (hw.same (s1.trans s2)) hj
        have ne := (g.rng t (List.mem_of_getElem? ht)).2.2.2.2
        refine ⟨rfl, ?_⟩
        refine ⟨_, rfl, _, rfl, b, iL [t.1, t.2], rfl, .inr (SqT.of hb), rfl, flat_ints _, _, rfl, ?_⟩
        have ein := inV_ints [t.1, t.2] (i : Int)
        rw [ein, nb_next _ ht ne]
        have nl := nb_len (ts.take j) (i : Int)
        rw [List.length_take] at nl
        by_cases c : (i : Int) = t.1 ∨ (i : Int) = t.2
        · refine yep_ (decide_eq_true (by simpa using c)) ?_
          rw [if_pos c]
          refine ⟨_, rfl, b, _, 0, .int t.1, rfl, rfl, SqT.of hb, rfl, _, rfl, b, _, 1, .int t.2, rfl, rfl, SqT.of hb, rfl, _, _, rfl, rfl, _, rfl, _, _, rfl, rfl, ?_⟩
          refine ⟨_, d2, by rw [List.length_map]; exact small (by omega), Same.write s2 hD, ?_⟩
          rw [upd_same]
          unfold iL
          rw [List.map_append]
          rfl
        · refine no_ (decide_eq_false (by simpa using c)) ?_
          rw [if_neg c, List.append_nil]
          exact ⟨s2, d2⟩
      · have et : ts.take ws.length = ts := by rw [hw.length]; exact List.take_length
        rw [et] at d2
        have s3 := s1.trans s2
        have c3 : CMul 3 (i : Int) := .inl ⟨by decide, by decide⟩
        have c31 : CMul 31 (i : Int) := .inl ⟨by decide, by decide⟩
        refine ⟨_, rfl, .inl ⟨rfl, _, SqL.of (s2 _ _ r1.top)⟩, ?_⟩
        refine ⟨_, rfl, a, ns, 2, rfl, s3.seq hS, _, rfl, _, _, rfl, rfl, c3, _, _, rfl, rfl, _, _, rfl, rfl, ⟨by omega, by omega⟩, _, rfl, _, _, rfl, rfl, c31, _, _, rfl, rfl, ?_⟩
        refine ⟨_, rfl, D, nb ts (i : Int), rfl, SqL.of d2, fun js q hp ho hq => ?_⟩
        obtain rfl := row_sorted g hp ho
        have s4 := Same.put (o := .lst ((rowOf m ts i).map V.int)) hq
        have rl := rowOf_len m ts (i : Int)
        refine ⟨_, q, rowOf m ts i, rfl, SqL.of upd_same, by omega, fun H4 Dn r' s5 hDn hDn' pm => ?_⟩
        have s6 : Same H1 H4 := (s2.trans s4).trans s5
        have nR : H1 Dn = none := (s2.trans s4).free hDn
        refine ⟨R, _, _, rfl, rfl, s6 _ _ r1.top, by rw [List.length_map, r1.len, tlen]; exact small (by omega), ?_⟩
        refine ⟨_, _, as ++ [Dn], tss ++ [r'], rfl, Same.write (s1.trans s6) hR, r1.put s1 s6 nR hDn', by rw [List.length_append, tlen]; rfl, fun k' t e => ?_⟩
        by_cases hk : k' < tss.length
        · rw [List.getElem?_append_left hk] at e
          exact tperm k' t e
        · have hk' : tss.length ≤ k' := Nat.le_of_not_lt hk
          rw [List.getElem?_append_right hk'] at e
          obtain ⟨h1, h2⟩ := List.getElem?_eq_some_iff.mp e
          simp only [List.length_singleton] at h1
          have ek : k' = i := by omega
          subst ek
          simp only [List.getElem_singleton] at h2
          rw [← h2]
          exact pm
    · rintro σ H1 ⟨v1, v2, as, tss, rfl, s1, r1, tlen, tperm⟩
      rw [Int.toNat_natCast] at tlen
      exact ⟨_, rfl, k H1 R as tss s1 r1 ⟨tlen, tperm⟩⟩
end
end Fd
namespace Fd
open PySem PySem.Spec PyProof.Rows L2
/-! ### displays of things -/
abbrev Gv (H0 : Hp) (σ : L2.St) (P : Hp → V → Prop) (t : TE) : Prop := ∀ (H : Hp) (Q : VK), Same H0 H → (∀ H' x, Same H H' → P H' x → Q x H') → t σ H Q
abbrev GvA (H0 : Hp) (σ : L2.St) (P : Hp → V → Prop) (n : Nat) (t : TA) : Prop := ∀ (H : Hp) (Q : List V → Hp → Prop), Same H0 H → (∀ H' xs, Same H H' → xs.length = n → (∀ x ∈ xs, P H' x) → Q xs H') → t σ H Q
abbrev Pu (H0 : Hp) (σ : L2.St) (t : TE) (u : V) : Prop := ∀ (H : Hp) (Q : VK), Same H0 H → Q u H → t σ H Q
abbrev PuO (H0 : Hp) (σ : L2.St) (t : TO) : Prop := ∀ (H : Hp) (Q : Option Int → Hp → Prop), Same H0 H → (∀ o, Q o H) → t σ H Q
def El (K : PySem.W.Frag) (H : Hp) (y : V) : Prop := ∃ T, TyB K H y T
theorem El.same {K : PySem.W.Frag} {H H' : Hp} {y : V} (s : Same H H') (h : El K H y) : El K H' y := h.imp fun _ z => TyB.same s z
/-- a new list of things, or one that stays -/
abbrev GL (K : PySem.W.Frag) (H0 : Hp) (σ : L2.St) (n : Nat) (t : TE) : Prop := ∀ (H : Hp) (Q : VK), Same H0 H → (∀ H' p xs, Same H H' → H' p = some (.lst xs) → xs.length ≤ n → (∀ y ∈ xs, El K H' y) → Q (.ref p) H') → t σ H Q
def IsIt (K : PySem.W.Frag) (H : Hp) (x : V) : Prop := ∃ it, ItAt K H x it
theorem IsIt.same' {K : PySem.W.Frag} (H H' : Hp) (x : V) (s : Same H H') (h : IsIt K H x) : IsIt K H' x := h.imp fun _ z => ItAt.same s z
theorem its_of {K : PySem.W.Frag} {H : Hp} : ∀ {ws : List V}, (∀ x ∈ ws, IsIt K H x) → ∃ its, Paired (ItAt K H) ws its
  | [], _ => ⟨[], .nil⟩
  | x :: ws, h => by
    obtain ⟨it, e⟩ := h x List.mem_cons_self
    obtain ⟨its, p⟩ := its_of (ws := ws) fun y hy => h y (List.mem_cons_of_mem _ hy)
    exact ⟨it :: its, .cons e p⟩
theorem pickV (ys : List V) (c : Int) (h : 0 < ys.length) : ∃ x, atI ys (c % (ys.length : Int)) = some x ∧ x ∈ ys := by
  have h0 := Int.emod_nonneg c (show (ys.length : Int) ≠ 0 by omega)
  have h1 := Int.emod_lt_of_pos c (show (0 : Int) < ys.length by omega)
  obtain ⟨j, e⟩ : ∃ j : Nat, c % (ys.length : Int) = j := ⟨(c % (ys.length : Int)).toNat, by omega⟩
  have hj : j < ys.length := by omega
  exact ⟨ys[j], by rw [e]; exact atI_nat (List.getElem?_eq_getElem hj), List.getElem_mem hj⟩
theorem cut_mem {xs : List V} {lo hi : Option Int} {y : V} (h : y ∈ cutV xs lo hi) : y ∈ xs := by
  unfold cutV at h
  exact List.mem_of_mem_drop (List.mem_of_mem_take h)
theorem cut_le (xs : List V) (lo hi : Option Int) : (cutV xs lo hi).length ≤ xs.length := by
  unfold cutV
  rw [List.length_take, List.length_drop]
  omega
section
variable {K : PySem.W.Frag} {H0 : Hp} {σ : L2.St} {P : Hp → V → Prop} {t : TE} {ta : TA} {n k : Nat} {u : V}
theorem gv_nil : GvA H0 σ P 0 tNil := fun H Q _ h => h H [] (Same.refl H) rfl (fun x hx => by cases hx)
theorem gv_cons (st : ∀ H H' x, Same H H' → P H x → P H' x) (h1 : Gv H0 σ P t) (h2 : GvA H0 σ P n ta) : GvA H0 σ P (n + 1) (tCons t ta) := fun H Q s h =>
  h1 H _ s fun H1 x s1 p1 => h2 H1 _ (s.trans s1) fun H2 xs s2 l2 p2 => h H2 (x :: xs) (s1.trans s2) (by rw [List.length_cons, l2]) fun y hy => by
    rcases List.mem_cons.mp hy with rfl | q
    · exact st _ _ _ s2 p1
    · exact p2 y q
theorem gv_list (st : ∀ H H' x, Same H H' → P H x → P H' x) (h : GvA H0 σ P n ta) (hn : n ≤ 1000) {H : Hp} {Q : VK} (s : Same H0 H) (k : ∀ (H' : Hp) (p : Addr) (xs : List V), Same H H' → H' p = some (.lst xs) → xs.length = n → (∀ x ∈ xs, P H' x) → Q (.ref p) H') : tLst ta σ H Q :=
  h H _ s fun H1 xs s1 l1 p1 => ⟨smalle (by omega), fun p hp => k _ p xs (Same.step s1 hp) upd_same l1 fun x hx => st _ _ _ (Same.put hp) (p1 x hx)⟩
theorem pu_c (v : V) : Pu H0 σ (tC v) v := fun _ _ _ h => h
theorem pu_v {i : Nat} {v : V} (e : σ[i]? = some (some v)) : Pu H0 σ (tVar i) v := fun _ _ _ h => ⟨v, e, h⟩
theorem puo_no : PuO H0 σ tNoPart := fun _ _ _ h => h none
theorem puo_v {i : Nat} {v : Int} (e : σ[i]? = some (some (.int v))) : PuO H0 σ (tPart (tVar i)) := fun _ _ _ h => ⟨_, e, v, rfl, h _⟩
theorem puo_c (v : Int) : PuO H0 σ (tPart (tC (.int v))) := fun _ _ _ h => ⟨v, rfl, h _⟩
theorem puo_n (v : Int) : PuO H0 σ (tPart (tUn (rU fun i => .int (-i)) (tC (.int v)))) := fun _ _ _ h => ⟨v, rfl, _, rfl, h _⟩
theorem gv_pu (h : Pu H0 σ t u) (hp : ∀ H, Same H0 H → P H u) : Gv H0 σ P t := fun H _ s k => h H _ s (k H u (Same.refl H) (hp H s))
theorem gl_v {i : Nat} {a : Addr} {xs : List V} (e : σ[i]? = some (some (.ref a))) (h : H0 a = some (.lst xs)) (l : xs.length ≤ n) (el : ∀ y ∈ xs, El K H0 y) : GL K H0 σ n (tVar i) := fun H Q s k =>
  ⟨_, e, k H a xs (Same.refl H) (s _ _ h) l fun y hy => El.same s (el y hy)⟩
theorem gl_sl {i : Nat} {a : Addr} {xs : List V} {tl th : TO} (e : σ[i]? = some (some (.ref a))) (h : H0 a = some (.lst xs)) (l : xs.length ≤ n) (el : ∀ y ∈ xs, El K H0 y) (h1 : PuO H0 σ tl) (h2 : PuO H0 σ th) : GL K H0 σ n (tSl (rSlL K) (tVar i) tl th) := fun H Q s k =>
  ⟨_, e, h1 H _ s fun lo => h2 H _ s fun hi => ⟨a, xs, rfl, SqL.of (s _ _ h), fun p hp => k _ p _ (Same.put hp) upd_same (Nat.le_trans (cut_le _ _ _) l) fun y hy => El.same (s.trans (Same.put hp)) (el y (cut_mem hy))⟩⟩
theorem gl_one (h : Pu H0 σ t u) (hu : ∀ H, Same H0 H → El K H u) : GL K H0 σ 1 (tLst (tCons t tNil)) := fun H Q s k =>
  h H _ s ⟨smalle (by show 1 ≤ 1000; omega), fun p hp => k _ p [u] (Same.put hp) upd_same (Nat.le_refl 1) fun y hy => by
    rw [List.mem_singleton.mp hy]
    exact hu _ (s.trans (Same.put hp))⟩
theorem gl_cat {t1 t2 : TE} (h1 : GL K H0 σ n t1) (h2 : GL K H0 σ k t2) (l : n + k ≤ 1000) : GL K H0 σ (n + k) (tOp rCat t1 t2) := fun H Q s q =>
  h1 H _ s fun H1 p1 xs s1 d1 l1 e1 => h2 H1 _ (s.trans s1) fun H2 p2 ys s2 d2 l2 e2 =>
    ⟨p1, p2, xs, ys, rfl, rfl, s2 _ _ d1, d2, smalle (by omega), fun p hp => q _ p _ (Same.step (s1.trans s2) hp) upd_same (by rw [List.length_append]; omega) fun y hy => by
      rcases List.mem_append.mp hy with z | z
      · exact El.same (s2.trans (Same.put hp)) (e1 y z)
      · exact El.same (Same.put hp) (e2 y z)⟩
theorem gl_it (h : GL K H0 σ n t) (l : n ≤ 100) : Gv H0 σ (IsIt K) t := fun H _ s k => h H _ s fun H' p xs s' d l' e => k H' (.ref p) s' ⟨_, .lst (SqL.of d) e (by omega)⟩
theorem gv_dictI : Gv H0 σ (IsIt K) tDNewK := fun H _ s k p hp => k _ _ (Same.put hp) ⟨_, .oth (.dK upd_same) (by decide)⟩
theorem gv_tupI {i : Nat} {a : Addr} {xs : List V} {r : List V → Hp → VK → Prop} (hr : r = fun xs H Q => ∃ p ys, xs = [.ref p] ∧ ((SqL K H p ys ∧ ∀ l, H l = none → Q (.ref l) (upd H l (.tup ys))) ∨ (SqT K H p ys ∧ Q (.ref p) H))) (e : σ[i]? = some (some (.ref a))) (h : H0 a = some (.lst xs)) :
    Gv H0 σ (IsIt K) (tCB r (tCons (tVar i) tNil)) := fun H _ s k => by
  subst hr
  exact ⟨_, e, a, xs, rfl, .inl ⟨SqL.of (s _ _ h), fun l hl => k _ _ (Same.put hl) ⟨_, .oth (.tup (SqT.of upd_same)) (by decide)⟩⟩⟩
theorem gl_lc {i j : Nat} {a : Addr} {r : List Int} {v : Int} {b : Bool} (e : σ[i]? = some (some (.ref a))) (hj : j < σ.length) (h : H0 a = some (.lst (iL r))) (l : r.length ≤ n) (hn : n ≤ 900) :
    GL K H0 σ n (tLc (iList K (tVar i)) (gName j) tYes (tIf (tTest (tOp rEq (tVar j) (tC (.int v)))) (tC (.bl b)) (tVar j)) [j]) := fun H Q s k => by
  refine ⟨_, e, a, rfl, ⟨_, SqL.of (s _ _ h)⟩, fun D hD => ?_⟩
  refine lc_list (K := K) (a := a) (xs := iL r) (fun q H1 => Same H H1 ∧ ∃ ys : List V, H1 D = some (.lst ys) ∧ ys.length = q ∧ ∀ y ∈ ys, (∃ i, y = .int i) ∨ ∃ b, y = .bl b) ⟨Same.put hD, [], upd_same, rfl, fun y hy => by cases hy⟩ (fun q H1 _ ⟨s1, _⟩ => SqL.of (s1 _ _ (s _ _ h))) (fun q x H1 hq ⟨s1, ys, d1, yl, ye⟩ => ?_) (fun H1 ⟨s1, ys, d1, yl, ye⟩ => ?_)
  · obtain ⟨z, ez, rfl⟩ := iL_at hq
    have hql := (List.getElem?_eq_some_iff.mp ez).1
    have wl : (wipe σ [j]).length = σ.length := by simp [wipe]
    have eq : ((wipe σ [j]).set j (some (.int z)))[j]? = some (some (.int z)) := List.getElem?_set_self (by rw [wl]; exact hj)
    have fin : ∀ y : V, ((∃ i, y = .int i) ∨ ∃ b, y = .bl b) → ∃ acc, H1 D = some (.lst acc) ∧ acc.length < sizeLine ∧ Same H (upd H1 D (.lst (acc ++ [y]))) ∧ ∃ ys : List V, (upd H1 D (.lst (acc ++ [y]))) D = some (.lst ys) ∧ ys.length = q + 1 ∧ ∀ w ∈ ys, (∃ i, w = .int i) ∨ ∃ b, w = .bl b := fun y hy => by
      refine ⟨ys, d1, small (by omega), Same.write s1 hD, _, upd_same, by rw [List.length_append, yl]; rfl, fun w hw => ?_⟩
      rcases List.mem_append.mp hw with c | c
      · exact ye w c
      · rw [List.mem_singleton.mp c]
        exact hy
    refine ⟨by simp [wipe], ?_⟩
    refine yes_ ?_
    refine iteT ?_
    refine ⟨_, eq, rfl, _, rfl, ?_⟩
    refine ite2 (fun _ => ?_) (fun _ => ?_)
    · exact fin _ (.inr ⟨b, rfl⟩)
    · exact ⟨_, eq, fin _ (.inl ⟨z, rfl⟩)⟩
  · rw [List.length_map] at yl
    exact k H1 D ys s1 d1 (by omega) fun y hy => by
      rcases ye y hy with ⟨i, rfl⟩ | ⟨b, rfl⟩
      · exact ⟨_, .int i⟩
      · exact ⟨_, .bl b⟩
end
def spSpoilt (K : PySem.W.Frag) : Sp := fun vs H Q _ => ∃ (R : Addr) (c : Int) (pt : Nat) (ws : List V), vs = [.ref R, .int c, .int pt] ∧ H R = some (.lst ws) ∧ ws.length ≤ 16 ∧ pt < ws.length ∧ (∀ x ∈ ws, ∃ (a : Addr) (r : List Int), x = .ref a ∧ H a = some (.lst (iL r)) ∧ r.length ≤ 16) ∧
  ∀ (H' : Hp) (D : Addr) (its : List It), Same H H' → ThAt K H' (.ref D) (some its) → Q (.ref D) H'
section
variable {P : Program} {w : World} {K : PySem.W.Frag} {mg : Str → Option Value} {base : Heap} {C : Addr}
abbrev nSpoilt : List Str := ["_law_turns", "_law_cell", "_law_point", "_law_own", "_law_at", "_law_odd", "_law_made", "_law_one"]
theorem scSpoilt : FnScope ["_law_turns", "_law_cell", "_law_point", "_law_own", "_law_at", "_law_odd", "_law_made", "_law_one"] ["_law_turns", "_law_cell", "_law_point"] (defScope sLawSpoilt) := ⟨rfl, rfl, rfl, by decide +kernel, rfl, by decide +kernel, by decide +kernel⟩
theorem c_spoilt (T : WTxt K mg C) (FS : Fn K mg "_law_spoilt" sLawSpoilt ["_law_turns", "_law_cell", "_law_point"]) : C8.Cal P w K mg base 1 "_law_spoilt" (spSpoilt K) [] := by
  refine cal_of FS scSpoilt (fun vs H Q E h => ?_) (fun f cdv A outer s H vs Q E hr h => ?_)
  · obtain ⟨R, c, pt, ws, rfl, _⟩ := h
    rfl
  · obtain ⟨R, c, pt, ws, rfl, hR, wl, hpt, hws, k⟩ := h
    have hun : (A.deeper (envOfC "_law_spoilt" (defScope sLawSpoilt) s.heap.objs.size f cdv)).units + 64 < cLine := by
      have := hr.un
      omega
    refine ⟨_, pss_cons (ps_set (i := 3) scSpoilt.nd rfl (Or.inl rfl) (pe_ix ix_list (pv 0) (pv 2) (fun _ _ => rfl)))
      (pss_cons (ps_set (i := 4) scSpoilt.nd rfl (Or.inl rfl) (pe_op op_mod (pe_op op_fdiv (pv 1) pe_int) (pe_op op_add (pe_callB call_len_seq (by rfl) T.len PySem.boot_len (pa_cons (pv 3) pa_nil)) pe_int)))
      (pss_cons (ps_set (i := 5) scSpoilt.nd rfl (Or.inl rfl) (pe_lst (pa_cons (pe_op op_cat (pe_op op_cat (pe_slice sl_list (pv 3) po_none (po_some (pv 4))) (pe_lst (pa_cons (pv 2) pa_nil))) (pe_slice sl_list (pv 3) (po_some (pv 4)) po_none))
          (pa_cons (pe_op op_cat (pe_op op_cat (pe_op op_cat (pe_slice sl_list (pv 3) po_none (po_some (pv 4))) (pe_slice sl_list (pv 3) po_none (po_some pe_int))) (pe_slice sl_list (pv 3) (po_some (pv 4)) po_none)) (pe_slice sl_list (pv 3) (po_some pe_int) (po_some pe_int)))
          (pa_cons (pe_op op_cat (pe_slice sl_list (pv 3) po_none (po_some (pe_un un_neg pe_int))) (pe_lst (pa_cons pe_bl pa_nil))) pa_nil)))))
      (pss_cons (ps_set (i := 5) scSpoilt.nd rfl (Or.inl rfl) (pe_op op_cat (pv 5) (pe_lst (pa_cons (pe_op op_cat (pv 3) (pe_lst (pa_cons (pe_callB call_len_seq (by rfl) T.len PySem.boot_len (pa_cons (pv 0) pa_nil)) pa_nil)))
          (pa_cons (pe_op op_cat (pv 3) (pe_lst (pa_cons (pe_un un_neg pe_int) pa_nil))) (pa_cons (pe_op op_cat (pe_slice sl_list (pv 3) (po_some pe_int) po_none) (pe_lst (pa_cons pe_str pa_nil)))
          (pa_cons (pe_op op_cat (pv 3) (pe_lst (pa_cons pe_non pa_nil))) (pa_cons (pe_callTy call_tuple_of (by rfl) T.tuple (by decide +kernel) (pa_cons (pv 3) pa_nil)) (pa_cons pe_non
          (pa_cons (pe_op op_cat (pv 3) (pe_lst (pa_cons (pv 3) pa_nil))) (pa_cons pe_dnewK pa_nil)))))))))))
      (pss_cons (ps_if (pt_cmpR (op_neD hun) (pv 3) (pe_lst pa_nil) (nomark _))
        (pss_cons (ps_set (i := 5) scSpoilt.nd rfl (Or.inl rfl) (pe_op op_cat (pv 5) (pe_lst (pa_cons (pe_slice sl_list (pv 3) (po_some pe_int) po_none) (pa_cons (pe_slice sl_list (pv 3) po_none (po_some (pe_un un_neg pe_int)))
            (pa_cons (pe_op op_cat (pe_slice sl_list (pv 3) po_none (po_some (pe_un un_neg pe_int))) (pe_slice sl_list (pv 3) po_none (po_some pe_int)))
            (pa_cons (pe_lc (own := [("_law_one", 7)]) (g := gName 7) (tt := tYes) (te := tIf (tTest (tOp rEq (tVar 7) (tC (.int 1)))) (tC (.bl true)) (tVar 7)) (by rfl) scSpoilt.nd (pi_list (pv 3)) (blkOk_by (own := [("_law_one", 7)]) (N := nSpoilt) (sc := defScope sLawSpoilt) (by decide +kernel)) (fun _ _ _ _ _ => pg_name (i := 7) scSpoilt.nd rfl (Or.inl rfl)) (fun _ _ _ _ _ => pts_nil)
              (fun _ _ _ _ _ => pe_ifExp (pt_cmpR op_eq (pv 7) pe_int (nomark _)) pe_bl (pv 7))) pa_nil)))))))
        (pss_one (ps_set (i := 5) scSpoilt.nd rfl (Or.inl rfl) (pe_op op_cat (pv 5) (pe_lst (pa_cons (pe_lc (own := [("_law_one", 7)]) (g := gName 7) (tt := tYes) (te := tIf (tTest (tOp rEq (tVar 7) (tC (.int 0)))) (tC (.bl false)) (tVar 7)) (by rfl) scSpoilt.nd (pi_list (pv 3)) (blkOk_by (own := [("_law_one", 7)]) (N := nSpoilt) (sc := defScope sLawSpoilt) (by decide +kernel)) (fun _ _ _ _ _ => pg_name (i := 7) scSpoilt.nd rfl (Or.inl rfl)) (fun _ _ _ _ _ => pts_nil)
              (fun _ _ _ _ _ => pe_ifExp (pt_cmpR op_eq (pv 7) pe_int (nomark _)) pe_bl (pv 7)))
            (pa_cons (pe_op op_cat (pe_slice sl_list (pv 3) (po_some (pe_un un_neg pe_int)) po_none) (pe_slice sl_list (pv 3) (po_some pe_int) po_none)) pa_nil))))))) pss_nil)
      (pss_cons (ps_set (i := 6) scSpoilt.nd rfl (Or.inl rfl) (pe_op op_cat (pe_op op_cat (pe_slice sl_list (pv 0) po_none (po_some (pv 2))) (pe_lst (pa_cons (pe_ix ix_list (pv 5) (pe_op op_mod (pv 1) (pe_callB call_len_seq (by rfl) T.len PySem.boot_len (pa_cons (pv 5) pa_nil))) (fun _ _ => rfl)) pa_nil)))
          (pe_slice sl_list (pv 0) (po_some (pe_op op_add (pv 2) pe_int)) po_none)))
      (pss_one (ps_ret (pv 6)))))))), ?_⟩
    obtain ⟨a, r, ea, ha, rl⟩ := hws ws[pt] (List.getElem_mem hpt)
    have ew : ws[pt]? = some (.ref a) := by rw [List.getElem?_eq_getElem hpt, ea]
    have el : ∀ y ∈ iL r, El K H y := fun y hy => by
      obtain ⟨i, _, rfl⟩ := List.mem_map.mp hy
      exact ⟨_, .int i⟩
    have r16 : (iL r).length ≤ 16 := by rw [List.length_map]; exact rl
    refine ⟨_, rfl, _, rfl, R, ws, (pt : Int), .ref a, rfl, rfl, SqL.of hR, atI_nat ew, ?_⟩
    refine ⟨_, rfl, _, _, rfl, rfl, ⟨by decide, by decide⟩, _, rfl, a, iL r, rfl, .inl (SqL.of ha), _, _, rfl, rfl, _, _, rfl, rfl, by omega, ?_⟩
    try dsimp only [gName, tSeq, tAsg, tNext]
    generalize c / 16 % (((iL r).length : Int) + 1) = at'
    -- the last rows
    have fin : ∀ (H1 : Hp) (O : Addr) (os : List V), Same H H1 → H1 O = some (.lst os) → os.length ≤ 20 → 0 < os.length → (∀ x ∈ os, IsIt K H1 x) →
        tSeq (tAsg (tOp rCat (tOp rCat (tSl (rSlL K) (tVar 0) tNoPart (tPart (tVar 2))) (tLst (tCons (tOp (rIxL K) (tVar 5) (tOp (rI (fun _ j => 0 < j) fun i j => .int (i % j)) (tVar 1) (tCB (fun xs H Q => ∃ p ys, xs = [V.ref p] ∧ (SqL K H p ys ∨ SqT K H p ys) ∧ Q (V.int ys.length) H) (tCons (tVar 5) tNil)))) tNil)))
          (tSl (rSlL K) (tVar 0) (tPart (tOp (rI0 fun i j => .int (i + j)) (tVar 2) (tC (.int 1)))) tNoPart)) (gName 6)) (tRet (tVar 6)) { nx := fun _ H' => Q .non H', rt := Q } [some (.ref R), some (.int c), some (.int pt), some (.ref a), some (.int at'), some (.ref O), none, none] H1 := fun H1 O os s1 d1 l1 l0 i1 => by
      refine ⟨_, rfl, _, rfl, _, rfl, R, ws, rfl, SqL.of (s1 _ _ hR), fun p1 hp1 => ?_⟩
      have s2 := Same.put (o := .lst (cutV ws none (some (pt : Int)))) hp1
      obtain ⟨x, hx, mx⟩ := pickV os c l0
      refine ⟨_, rfl, _, rfl, _, rfl, O, os, rfl, .inl (SqL.of (s2 _ _ d1)), _, _, rfl, rfl, by omega, ?_⟩
      refine ⟨O, os, _, x, rfl, rfl, SqL.of (s2 _ _ d1), hx, ?_⟩
      refine ⟨smalle (by show 1 ≤ 1000; omega), fun p2 hp2 => ?_⟩
      have s3 := Same.put (o := .lst [x]) hp2
      have lc := cut_le ws none (some (pt : Int))
      refine ⟨p1, p2, _, [x], rfl, rfl, s3 _ _ upd_same, upd_same, smalle (by show _ + 1 ≤ 1000; omega), fun p3 hp3 => ?_⟩
      have s4 := Same.put (o := .lst (cutV ws none (some (pt : Int)) ++ [x])) hp3
      have s14 := ((s1.trans s2).trans s3).trans s4
      refine ⟨_, rfl, _, rfl, _, _, rfl, rfl, _, rfl, R, ws, rfl, SqL.of (s14 _ _ hR), fun p4 hp4 => ?_⟩
      have s5 := Same.put (o := .lst (cutV ws (some ((pt : Int) + 1)) none)) hp4
      have lc2 := cut_le ws (some ((pt : Int) + 1)) none
      refine ⟨p3, p4, _, _, rfl, rfl, s5 _ _ upd_same, upd_same, smalle (by rw [List.length_append]; show _ + 1 + _ ≤ 1000; omega), fun p5 hp5 => ?_⟩
      have s6 := Same.put (o := .lst (cutV ws none (some (pt : Int)) ++ [x] ++ cutV ws (some ((pt : Int) + 1)) none)) hp5
      have sz := ((((s1.trans s2).trans s3).trans s4).trans s5).trans s6
      have all : ∀ y ∈ cutV ws none (some (pt : Int)) ++ [x] ++ cutV ws (some ((pt : Int) + 1)) none, IsIt K (upd _ p5 (.lst (cutV ws none (some (pt : Int)) ++ [x] ++ cutV ws (some ((pt : Int) + 1)) none))) y := fun y hy => by
        have old : y ∈ ws → IsIt K (upd _ p5 (.lst (cutV ws none (some (pt : Int)) ++ [x] ++ cutV ws (some ((pt : Int) + 1)) none))) y := fun hy => by
          obtain ⟨b, q, rfl, hb, ql⟩ := hws y hy
          exact ⟨_, itAt_ints (SqL.of (sz _ _ hb)) (by omega)⟩
        rcases List.mem_append.mp hy with hy | hy
        · rcases List.mem_append.mp hy with hy | hy
          · exact old (cut_mem hy)
          · rw [List.mem_singleton.mp hy]
            exact IsIt.same' _ _ _ ((((s2.trans s3).trans s4).trans s5).trans s6) (i1 x mx)
        · exact old (cut_mem hy)
      obtain ⟨its, pr⟩ := its_of all
      exact ⟨_, rfl, k _ p5 its sz (.lst (SqL.of upd_same) pr (by rw [List.length_append, List.length_append]; show _ + 1 + _ ≤ 100; omega))⟩
    have sl := fun (H1 : Hp) (s1 : Same H H1) => s1 _ _ ha
    -- the first display
    refine gv_list (P := IsIt K) (n := 3) IsIt.same' ?_ (by decide) (Same.refl H) (fun H1 O os s1 d1 l1 i1 => ?_)
    · refine gv_cons IsIt.same' (gl_it (gl_cat (gl_cat (gl_sl rfl ha r16 el puo_no (puo_v rfl)) (gl_one (pu_v rfl) fun _ _ => ⟨_, .int _⟩) (by decide)) (gl_sl rfl ha r16 el (puo_v rfl) puo_no) (by decide)) (by decide)) ?_
      refine gv_cons IsIt.same' (gl_it (gl_cat (gl_cat (gl_cat (gl_sl rfl ha r16 el puo_no (puo_v rfl)) (gl_sl rfl ha r16 el puo_no (puo_c _)) (by decide)) (gl_sl rfl ha r16 el (puo_v rfl) puo_no) (by decide)) (gl_sl rfl ha r16 el (puo_c _) (puo_c _)) (by decide)) (by decide)) ?_
      exact gv_cons IsIt.same' (gl_it (gl_cat (gl_sl rfl ha r16 el puo_no (puo_n _)) (gl_one (pu_c _) fun _ _ => ⟨_, .bl _⟩) (by decide)) (by decide)) gv_nil
    try dsimp only [gName, tSeq, tAsg, tNext]
    have ha1 := s1 _ _ ha
    have el1 : ∀ y ∈ iL r, El K H1 y := fun y hy => El.same s1 (el y hy)
    -- the second
    refine ⟨_, rfl, ?_⟩
    refine gv_list (P := IsIt K) (n := 8) IsIt.same' ?_ (by decide) (Same.refl H1) (fun H2 O2 os2 s2 d2 l2 i2 => ?_)
    · refine gv_cons IsIt.same' (gl_it (gl_cat (gl_v rfl ha1 r16 el1) (gl_one (u := .int ws.length) (fun H' Q' s' h => ⟨_, rfl, R, ws, rfl, .inl (SqL.of (s' _ _ (s1 _ _ hR))), h⟩) fun _ _ => ⟨_, .int _⟩) (by decide)) (by decide)) ?_
      refine gv_cons IsIt.same' (gl_it (gl_cat (gl_v rfl ha1 r16 el1) (gl_one (u := .int (-1)) (fun H' Q' s' h => ⟨_, rfl, h⟩) fun _ _ => ⟨_, .int _⟩) (by decide)) (by decide)) ?_
      refine gv_cons IsIt.same' (gl_it (gl_cat (gl_sl rfl ha1 r16 el1 (puo_c _) puo_no) (gl_one (pu_c _) fun _ _ => ⟨_, .str _⟩) (by decide)) (by decide)) ?_
      refine gv_cons IsIt.same' (gl_it (gl_cat (gl_v rfl ha1 r16 el1) (gl_one (pu_c _) fun _ _ => ⟨_, .non⟩) (by decide)) (by decide)) ?_
      refine gv_cons IsIt.same' (gv_tupI rfl rfl ha1) ?_
      refine gv_cons IsIt.same' (gv_pu (pu_c _) fun _ _ => ⟨_, .oth .non (by decide)⟩) ?_
      refine gv_cons IsIt.same' (gl_it (gl_cat (gl_v rfl ha1 r16 el1) (gl_one (pu_v rfl) fun H' s' => ⟨_, .lst (SqL.of (s' _ _ ha1))⟩) (by decide)) (by decide)) ?_
      exact gv_cons IsIt.same' gv_dictI gv_nil
    refine ⟨O, O2, os, os2, rfl, rfl, s2 _ _ d1, d2, smalle (by omega), fun p3 hp3 => ?_⟩
    have s3 := Same.put (o := .lst (os ++ os2)) hp3
    have i3 : ∀ x ∈ os ++ os2, IsIt K (upd H2 p3 (.lst (os ++ os2))) x := fun x hx => by
      rcases List.mem_append.mp hx with z | z
      · exact IsIt.same' _ _ _ (s2.trans s3) (i1 x z)
      · exact IsIt.same' _ _ _ s3 (i2 x z)
    have d3 : (upd H2 p3 (.lst (os ++ os2))) p3 = some (.lst (os ++ os2)) := upd_same
    have l3 : (os ++ os2).length = 11 := by rw [List.length_append, l1, l2]
    have s13 := (s1.trans s2).trans s3
    generalize upd H2 p3 (.lst (os ++ os2)) = H3 at s3 i3 d3 s13 ⊢
    generalize os ++ os2 = os3 at i3 d3 l3
    -- if own != []
    refine ⟨_, rfl, Nat.zero_le _, fun N hN => ?_⟩
    have s4 := Same.put (o := .lst []) hN
    have s14 := s13.trans s4
    have d4 := s4 _ _ d3
    have i4 : ∀ x ∈ os3, IsIt K (upd H3 N (.lst [])) x := fun x hx => IsIt.same' _ _ _ s4 (i3 x hx)
    refine ⟨.list (r.map PyData.int), .list (([] : List Int).map PyData.int), dp_ints (SqL.of (s14 _ _ ha)), dp_ints (SqL.of upd_same), inl_shaped _, inl_shaped _, _, rfl, ?_⟩
    refine ite2 (fun _ => ?_) (fun _ => ?_)
    · generalize upd H3 N (.lst []) = H4 at s4 s14 d4 i4 ⊢
      have ha4 := s14 _ _ ha
      have el4 : ∀ y ∈ iL r, El K H4 y := fun y hy => El.same s14 (el y hy)
      have rl16 : r.length ≤ 16 := rl
      refine ⟨_, rfl, ?_⟩
      refine gv_list (P := IsIt K) (n := 4) IsIt.same' ?_ (by decide) (Same.refl H4) (fun H5 O5 os5 s5 d5 l5 i5 => ?_)
      · refine gv_cons IsIt.same' (gl_it (gl_sl rfl ha4 r16 el4 (puo_c _) puo_no) (by decide)) ?_
        refine gv_cons IsIt.same' (gl_it (gl_sl rfl ha4 r16 el4 puo_no (puo_n _)) (by decide)) ?_
        refine gv_cons IsIt.same' (gl_it (gl_cat (gl_sl rfl ha4 r16 el4 puo_no (puo_n _)) (gl_sl rfl ha4 r16 el4 puo_no (puo_c _)) (by decide)) (by decide)) ?_
        exact gv_cons IsIt.same' (gl_it (gl_lc (n := 16) rfl (Nat.lt_of_lt_of_eq (by decide : 7 < 8) rfl) ha4 rl16 (by decide)) (by decide)) gv_nil
      refine ⟨p3, O5, os3, os5, rfl, rfl, s5 _ _ d4, d5, smalle (by omega), fun p6 hp6 => ?_⟩
      have s6 := Same.put (o := .lst (os3 ++ os5)) hp6
      have i6 : ∀ x ∈ os3 ++ os5, IsIt K (upd H5 p6 (.lst (os3 ++ os5))) x := fun x hx => by
        rcases List.mem_append.mp hx with z | z
        · exact IsIt.same' _ _ _ (s5.trans s6) (i4 x z)
        · exact IsIt.same' _ _ _ s6 (i5 x z)
      have d6 : (upd H5 p6 (.lst (os3 ++ os5))) p6 = some (.lst (os3 ++ os5)) := upd_same
      have l6 : (os3 ++ os5).length = 15 := by rw [List.length_append, l3, l5]
      have s16 := (s14.trans s5).trans s6
      generalize upd H5 p6 (.lst (os3 ++ os5)) = H6 at s6 i6 d6 s16 ⊢
      generalize os3 ++ os5 = os6 at i6 d6 l6
      have ha6 := s16 _ _ ha
      have el6 : ∀ y ∈ iL r, El K H6 y := fun y hy => El.same s16 (el y hy)
      refine ⟨_, rfl, ?_⟩
      refine gv_list (P := IsIt K) (n := 2) IsIt.same' ?_ (by decide) (Same.refl H6) (fun H7 O7 os7 s7 d7 l7 i7 => ?_)
      · refine gv_cons IsIt.same' (gl_it (gl_lc (n := 16) rfl (Nat.lt_of_lt_of_eq (by decide : 7 < 8) rfl) ha6 rl16 (by decide)) (by decide)) ?_
        exact gv_cons IsIt.same' (gl_it (gl_cat (gl_sl rfl ha6 r16 el6 (puo_n _) puo_no) (gl_sl rfl ha6 r16 el6 (puo_c _) puo_no) (by decide)) (by decide)) gv_nil
      refine ⟨p6, O7, os6, os7, rfl, rfl, s7 _ _ d6, d7, smalle (by omega), fun p8 hp8 => ?_⟩
      have s8 := Same.put (o := .lst (os6 ++ os7)) hp8
      refine fin _ p8 (os6 ++ os7) ((s16.trans s7).trans s8) upd_same (by rw [List.length_append]; omega) (by rw [List.length_append]; omega) fun x hx => ?_
      rcases List.mem_append.mp hx with z | z
      · exact IsIt.same' _ _ _ (s7.trans s8) (i6 x z)
      · exact IsIt.same' _ _ _ s8 (i7 x z)
    · exact fin _ p3 os3 s14 d4 (by omega) (by omega) i4
end
end Fd
namespace Fd
open PySem PySem.Spec PyProof.Rows L2
section
variable {α : Type} [DecidableEq α]
theorem one_of_nodup {p : α} : ∀ {r : List α}, r.Nodup → p ∈ r → (r.filter fun y => decide (y = p)).length = 1
  | [], _, h => by cases h
  | x :: r, nd, h => by
    obtain ⟨n1, n2⟩ := List.nodup_cons.mp nd
    by_cases e : x = p
    · subst e
      have z : r.filter (fun y => decide (y = x)) = [] := List.filter_eq_nil_iff.mpr fun y hy c => n1 (of_decide_eq_true c ▸ hy)
      rw [List.filter_cons_of_pos (by simp), z]
      rfl
    · rw [List.filter_cons_of_neg (by simpa using e)]
      refine one_of_nodup n2 ?_
      rcases List.mem_cons.mp h with z | z
      · exact absurd z.symm e
      · exact z
theorem filt_perm {xs ys : List α} (h : xs.Perm ys) (p : α) : (xs.filter fun y => decide (y = p)).length = (ys.filter fun y => decide (y = p)).length := (h.filter _).length_eq
theorem perm_of_ones : ∀ {r xs : List α}, xs.length = r.length → (∀ p ∈ r, (xs.filter fun y => decide (y = p)).length = 1) → r.Nodup → xs.Perm r
  | [], xs, hl, _, _ => by
    rw [List.length_eq_zero_iff.mp hl]
  | p :: r, xs, hl, h, nd => by
    obtain ⟨n1, n2⟩ := List.nodup_cons.mp nd
    have h1 := h p List.mem_cons_self
    have hm : p ∈ xs := by
      cases e : xs.filter (fun y => decide (y = p)) with
      | nil =>
        rw [e] at h1
        cases h1
      | cons a l =>
        have ha : a ∈ xs.filter (fun y => decide (y = p)) := by rw [e]; exact List.mem_cons_self
        rw [List.mem_filter, decide_eq_true_iff] at ha
        exact ha.2 ▸ ha.1
    have pe := List.perm_cons_erase hm
    have el : (xs.erase p).length = r.length := by
      have := pe.length_eq
      rw [List.length_cons] at this hl
      omega
    refine pe.trans ((perm_of_ones el (fun q hq => ?_) n2).cons p)
    have hq1 := h q (List.mem_cons_of_mem _ hq)
    have ne : p ≠ q := fun z => n1 (z ▸ hq)
    rw [filt_perm pe q, List.filter_cons_of_neg (by simpa using ne)] at hq1
    exact hq1
end
theorem iL_nodup {r : List Int} (nd : r.Nodup) : (iL r).Nodup := List.Pairwise.map _ (fun a b h z => h (V.int.inj z)) nd
def toI : V → Option Int
  | .int i => some i
  | _ => none
theorem iL_back (is : List Int) : (iL is).filterMap toI = is := by
  unfold iL
  rw [List.filterMap_map]
  exact List.filterMap_some
theorem perm_iL {xs : List V} {r : List Int} (h : xs.Perm (iL r)) : ∃ is, xs = iL is ∧ is.Perm r := by
  obtain ⟨is, rfl⟩ : ∃ is, xs = iL is := by
    refine allInt (List.all_eq_true.mpr fun b hb => ?_)
    obtain ⟨y, hy, rfl⟩ := List.mem_map.mp hb
    obtain ⟨i, _, rfl⟩ := List.mem_map.mp (h.mem_iff.mp hy)
    rfl
  refine ⟨is, rfl, ?_⟩
  have q := h.filterMap toI
  rw [iL_back, iL_back] at q
  exact q
/-- what the law looks at -/
def okC (r : List Int) : It → Prop
  | .lst xs => xs.length = r.length ∧ ∀ p ∈ r, (xs.filter fun y => decide (y = V.int p)).length = 1
  | .oth => False
theorem okC_iff {r : List Int} (nd : r.Nodup) (it : It) : okC r it ↔ okIt r it := by
  cases it with
  | oth => exact Iff.rfl
  | lst xs =>
    constructor
    · rintro ⟨hl, h⟩
      refine perm_iL (perm_of_ones (by rw [List.length_map]; exact hl) (fun p hp => ?_) (iL_nodup nd))
      obtain ⟨i, hi, rfl⟩ := List.mem_map.mp hp
      exact h i hi
    · rintro ⟨is, rfl, pm⟩
      refine ⟨by rw [List.length_map]; exact pm.length_eq, fun p hp => ?_⟩
      rw [filt_perm (pm.map V.int) (V.int p)]
      exact one_of_nodup (iL_nodup nd) (List.mem_map.mpr ⟨p, hp, rfl⟩)
theorem okIt_perm {r r' : List Int} (h : r.Perm r') (it : It) : okIt r it ↔ okIt r' it := by
  cases it with
  | oth => exact Iff.rfl
  | lst xs => exact ⟨fun ⟨is, e, p⟩ => ⟨is, e, p.trans h⟩, fun ⟨is, e, p⟩ => ⟨is, e, p.trans h.symm⟩⟩
theorem TurnsOf.get {m : Nat} {ts : List Tie} {tss : List (List Int)} (h : TurnsOf m ts tss) {k : Nat} (hk : k < m) : ∃ t, tss[k]? = some t ∧ t.Perm (rowOf m ts k) := by
  have hk2 : k < tss.length := by rw [h.len]; exact hk
  have e : tss[k]? = some tss[k] := List.getElem?_eq_getElem hk2
  exact ⟨_, e, h.row k _ e⟩
theorem rowOf_nodup (m : Nat) (ts : List Tie) (p : Int) : (rowOf m ts p).Nodup := (rowOf_strict m ts p).imp fun h e => by omega
theorem okTh_turns {m : Nat} {ts : List Tie} {tss : List (List Int)} (h : TurnsOf m ts tss) (o : Option (List It)) : okTh tss o ↔ okTh (rowsOf m ts) o := by
  cases o with
  | none => exact Iff.rfl
  | some its =>
    constructor
    · rintro ⟨h1, h2⟩
      refine ⟨by rw [h1, h.len, rowsOf_len], fun k it r e1 e2 => ?_⟩
      have hk : k < m := by
        have := (List.getElem?_eq_some_iff.mp e2).1
        rw [rowsOf_len] at this
        exact this
      obtain ⟨t, e3, pm⟩ := h.get hk
      cases Option.some.inj (e2.symm.trans (rowsOf_at hk))
      exact (okIt_perm pm it).mp (h2 k it t e1 e3)
    · rintro ⟨h1, h2⟩
      refine ⟨by rw [h1, h.len, rowsOf_len], fun k it t e1 e2 => ?_⟩
      have hk : k < m := by
        have := (List.getElem?_eq_some_iff.mp e2).1
        rw [h.len] at this
        exact this
      exact (okIt_perm (h.row k t e2) it).mpr (h2 k it _ e1 (rowsOf_at hk))
theorem kit_list {K : PySem.W.Frag} {T : String} (h : T ∈ kinds) : PySem.W.kitOne K (.type T) (.type "list") = some (decide (T = "list")) := by
  simp only [kinds, List.mem_cons, List.not_mem_nil, or_false] at h
  rcases h with rfl | rfl | rfl | rfl | rfl | rfl | rfl | rfl <;> exact kit_ty (by decide +kernel)
theorem kit_bool {K : PySem.W.Frag} {T : String} (h : T ∈ kinds) : PySem.W.kitOne K (.type T) (.type "bool") = some (decide (T = "bool")) := by
  simp only [kinds, List.mem_cons, List.not_mem_nil, or_false] at h
  rcases h with rfl | rfl | rfl | rfl | rfl | rfl | rfl | rfl <;> exact kit_ty (by decide +kernel)
/-- a term for isinstance(e, T) -/
def spIsRight (K : PySem.W.Frag) : Sp := fun vs H Q _ => ∃ (H0 : Hp) (R : Addr) (as : List Addr) (m : Nat) (ts : List Tie) (tss : List (List Int)) (x : V) (o : Option (List It)), vs = [.ref R, x] ∧ RowsAt H0 H R as tss ∧ TurnsOf m ts tss ∧ m ≤ 16 ∧ ThAt K H x o ∧ ∀ H', Same H H' → Q (.bl (dB (okTh (rowsOf m ts) o))) H'
section
variable {P : Program} {w : World} {K : PySem.W.Frag} {mg : Str → Option Value} {base : Heap} {C : Addr}
abbrev nIsRight : List Str := ["_law_turns", "_law_thing", "_law_k", "_law_point", "_law_one"]
theorem scIsRight : FnScope ["_law_turns", "_law_thing", "_law_k", "_law_point", "_law_one"] ["_law_turns", "_law_thing"] (defScope sLawIsRight) := ⟨rfl, rfl, rfl, by decide +kernel, rfl, by decide +kernel, by decide +kernel⟩
theorem c_isright (T : WTxt K mg C) (L : LTxt K mg) (FR : Fn K mg "_law_is_right" sLawIsRight ["_law_turns", "_law_thing"]) : C8.Cal P w K mg base 2 "_law_is_right" (spIsRight K) [] := by
  refine cal_of FR scIsRight (fun vs H Q E h => ?_) (fun f cdv A outer s H vs Q E hr h => ?_)
  · obtain ⟨H0, R, as, m, ts, tss, x, o, rfl, _⟩ := h
    rfl
  · obtain ⟨H0, R, as, m, ts, tss, x, o, rfl, hR, tu, m16, hx, k⟩ := h
    refine ⟨_, pss_cons (ps_if (PW.pt (pw_or (pt_not (pt_val (pe_callB call_isi (by rfl) L.isi (by decide +kernel) (pa_cons (pv 1) (pa_cons (pe_bltn (v := .ty "list") (by rfl) T.list (by decide +kernel) rfl) pa_nil)))))
        (pw_or1 (pt_cmpR op_ne (pe_callB call_len_seq (by rfl) T.len PySem.boot_len (pa_cons (pv 1) pa_nil)) (pe_callB call_len_seq (by rfl) T.len PySem.boot_len (pa_cons (pv 0) pa_nil)) (nomark _))))) (pss_one (ps_ret pe_bl)) pss_nil)
      (pss_cons (ps_for PassesOwn.never rfl (pi_range1 (by rfl) T.range (pa_cons (pe_callB call_len_seq (by rfl) T.len PySem.boot_len (pa_cons (pv 0) pa_nil)) pa_nil)) (pg_name (i := 2) scIsRight.nd rfl (Or.inl rfl))
        (pss_cons (ps_if (PW.pt (pw_or (pt_not (pt_val (pe_callB call_isi (by rfl) L.isi (by decide +kernel) (pa_cons (pe_ix ix_list (pv 1) (pv 2) (fun _ _ => rfl)) (pa_cons (pe_bltn (v := .ty "list") (by rfl) T.list (by decide +kernel) rfl) pa_nil)))))
          (pw_or1 (pt_cmpR op_ne (pe_callB call_len_seq (by rfl) T.len PySem.boot_len (pa_cons (pe_ix ix_list (pv 1) (pv 2) (fun _ _ => rfl)) pa_nil)) (pe_callB call_len_seq (by rfl) T.len PySem.boot_len (pa_cons (pe_ix ix_list (pv 0) (pv 2) (fun _ _ => rfl)) pa_nil)) (nomark _))))) (pss_one (ps_ret pe_bl)) pss_nil)
        (pss_one (ps_for PassesOwn.never rfl (pi_list (pe_ix ix_list (pv 0) (pv 2) (fun _ _ => rfl))) (pg_name (i := 3) scIsRight.nd rfl (Or.inr rfl))
          (pss_one (ps_if (pt_cmpR op_ne (pe_callB call_len_seq (by rfl) T.len PySem.boot_len (pa_cons (pe_lc (own := [("_law_one", 4)]) (g := gName 4) (tt := tAnd (tB (tCall (spWholeX K) [] C8.E0 (tCons (tVar 4) tNil))) (tTest (tOp rEq (tVar 4) (tVar 3)))) (te := tVar 4) (by rfl) scIsRight.nd (pi_list (pe_ix ix_list (pv 1) (pv 2) (fun _ _ => rfl)))
              (blkOk_by (own := [("_law_one", 4)]) (N := nIsRight) (sc := defScope sLawIsRight) (by decide +kernel)) (fun _ _ _ _ _ => pg_name (i := 4) scIsRight.nd rfl (Or.inl rfl))
              (fun _ _ _ _ _ => pts_one (PW.pt (pw_and (pt_val (C8.pe_c (c_whole T L) hr (by decide) (by rfl) (pa_cons (pv 4) pa_nil))) (pw_and1 (pt_cmpR op_eq (pv 4) (pv 3) (nomark _))))))
              (fun _ _ _ _ _ => pv 4)) pa_nil)) pe_int (nomark _)) (pss_one (ps_ret pe_bl)) pss_nil))))))
      (pss_one (ps_ret pe_bl))), ?_⟩
    have okE : okTh (rowsOf m ts) o ↔ okTh tss o := (okTh_turns tu o).symm
    have kF : ¬ okTh tss o → ∀ H', Same H H' → Q (.bl false) H' := fun n H' s' => by
      have q := k H' s'
      rw [dB_f (fun z => n (okE.mp z))] at q
      exact q
    have al : (as.map V.ref).length = m := by rw [List.length_map, hR.len, tu.len]
    cases hx with
    | @oth _ T0 h hne =>
      refine ⟨_, rfl, x, .ty "list", .type T0, .type "list", false, rfl, .ty _, tyX_of h, (kit_list (TyB_kind h)).trans (by rw [decide_eq_false hne]), _, rfl, ?_⟩
      refine iteT ?_
      exact kF (fun z => z) H (Same.refl H)
    | @lst a ws its h pr l =>
      have wl := pr.length
      refine ⟨_, rfl, .ref a, .ty "list", .type "list", .type "list", true, rfl, .ty _, tyX_of (.lst h), kit_list (by decide), _, rfl, ?_⟩
      refine iteF ?_
      refine ⟨_, rfl, a, ws, rfl, .inl h, _, rfl, R, as.map V.ref, rfl, .inl (SqL.of hR.top), rfl, _, rfl, ?_⟩
      by_cases c : ws.length = m
      · refine no_ (by rw [c, al, decide_eq_true rfl]; rfl) ?_
        refine ⟨_, rfl, R, as.map V.ref, rfl, .inl (SqL.of hR.top), _, rfl, by omega, by omega, ?_⟩
        rw [al]
        refine for_range (lo := 0) (n := (m : Int).toNat) (fun i σ H1 => ∃ (v1 v2 : Option V), σ = [some (.ref R), some (.ref a), v1, v2, none] ∧ Same H H1 ∧ ∀ (k : Nat) (it : It) (t : List Int), k < i → its[k]? = some it → tss[k]? = some t → okIt t it)
          ⟨none, none, rfl, Same.refl H, fun k it t z => by omega⟩ ?_ ?_
        · rintro i σ H1 hi ⟨v1, v2, rfl, s1, hok⟩
          rw [Int.toNat_natCast] at hi
          rw [Int.zero_add]
          have ew : ws[i]? = some ws[i] := List.getElem?_eq_getElem (by omega)
          generalize ws[i] = y at ew
          obtain ⟨it, ei, hit0⟩ := paired_get pr ew
          have hit := ItAt.same s1 hit0
          have hR1 := hR.same s1
          obtain ⟨t, et, tp⟩ := tu.get hi
          obtain ⟨b, eb, ebr, _, hb⟩ := hR1.get et
          have tnd : t.Nodup := tp.nodup_iff.mpr (rowOf_nodup m ts i)
          have tl : t.length ≤ 16 := by
            rw [tp.length_eq]
            have := rowOf_len m ts (i : Int)
            omega
          have bad : ¬ okIt t it → ∀ H2, Same H1 H2 → Q (.bl false) H2 := fun n H2 s2 => kF (fun z => n (z.2 i it t ei et)) H2 (s1.trans s2)
          refine ⟨_, rfl, _, rfl, a, ws, (i : Int), y, rfl, rfl, s1.seq h, atI_nat ew, ?_⟩
          cases hit with
          | @oth _ T0 hy hne =>
            refine ⟨y, .ty "list", .type T0, .type "list", false, rfl, .ty _, tyX_of hy, (kit_list (TyB_kind hy)).trans (by rw [decide_eq_false hne]), _, rfl, ?_⟩
            refine iteT ?_
            exact bad (fun z => z) H1 (Same.refl H1)
          | @lst d xs hd hel hl100 =>
            refine ⟨.ref d, .ty "list", .type "list", .type "list", true, rfl, .ty _, tyX_of (.lst hd), kit_list (by decide), _, rfl, ?_⟩
            refine iteF ?_
            refine ⟨_, rfl, _, rfl, a, ws, (i : Int), .ref d, rfl, rfl, s1.seq h, atI_nat ew, d, xs, rfl, .inl hd, ?_⟩
            refine ⟨_, rfl, _, rfl, R, as.map V.ref, (i : Int), .ref b, rfl, rfl, SqL.of hR1.top, atI_nat ebr, b, iL t, rfl, .inl (SqL.of hb), rfl, _, rfl, ?_⟩
            by_cases c2 : xs.length = t.length
            · refine no_ (by rw [List.length_map, c2, decide_eq_true rfl]; rfl) ?_
              refine ⟨_, rfl, _, rfl, R, as.map V.ref, (i : Int), .ref b, rfl, rfl, SqL.of hR1.top, atI_nat ebr, b, rfl, ⟨_, SqL.of hb⟩, ?_⟩
              refine for_list (K := K) (a := b) (xs := iL t) (fun q σ H2 => ∃ v2 : Option V, σ = [some (.ref R), some (.ref a), some (.int i), v2, none] ∧ Same H1 H2 ∧ ∀ (j : Nat) (p : Int), j < q → t[j]? = some p → (xs.filter fun y => decide (y = V.int p)).length = 1)
                ⟨_, rfl, Same.refl H1, fun j p z => by omega⟩ (fun q σ H2 _ ⟨_, _, s2, _⟩ => SqL.of (s2 _ _ hb)) ?_ ?_
              · rintro q z σ H2 hq ⟨v3, rfl, s2, hone⟩
                obtain ⟨p, ep, rfl⟩ := iL_at hq
                have s12 := s1.trans s2
                refine ⟨_, rfl, _, rfl, a, ws, (i : Int), .ref d, rfl, rfl, s12.seq h, atI_nat ew, d, rfl, ⟨_, s2.seq hd⟩, fun D hD => ?_⟩
                refine lc_list (K := K) (a := d) (xs := xs) (fun j H3 => Same H2 H3 ∧ H3 D = some (.lst ((xs.take j).filter fun y => decide (y = V.int p)))) ⟨Same.put hD, upd_same⟩ (fun j H3 _ ⟨s3, _⟩ => s3.seq (s2.seq hd)) (fun j y H3 hj ⟨s3, d3⟩ => ?_) (fun H3 ⟨s3, d3⟩ => ?_)
                · obtain ⟨T1, ty⟩ := hel y (List.mem_of_getElem? hj)
                  have lt := List.length_filter_le (fun y => decide (y = V.int p)) (xs.take j)
                  rw [List.length_take] at lt
                  refine ⟨rfl, ?_⟩
                  refine ⟨_, rfl, y, T1, rfl, TyB.same (s2.trans s3) ty, _, rfl, ?_⟩
                  have step : (xs.take (j + 1)).filter (fun y => decide (y = V.int p)) = (xs.take j).filter (fun y => decide (y = V.int p)) ++ (if y = V.int p then [y] else []) := by
                    rw [take_next hj, List.filter_append]
                    by_cases e : y = V.int p
                    · rw [if_pos e]
                      simp [e]
                    · rw [if_neg e]
                      simp [e]
                  rw [step]
                  cases y with
                  | int v =>
                    refine iteT ?_
                    refine ⟨_, rfl, _, rfl, rfl, _, rfl, ?_⟩
                    by_cases e : V.int v = V.int p
                    · refine yep_ (decide_eq_true e) ?_
                      rw [if_pos e]
                      exact ⟨_, rfl, _, d3, small (by omega), Same.write s3 hD, upd_same⟩
                    · refine no_ (decide_eq_false e) ?_
                      rw [if_neg e, List.append_nil]
                      exact ⟨s3, d3⟩
                  | _ =>
                    rw [if_neg (fun z => nomatch z), List.append_nil]
                    exact iteF (iteF ⟨s3, d3⟩)
                · rw [List.take_length] at d3
                  refine ⟨D, _, rfl, .inl (SqL.of d3), rfl, _, rfl, ?_⟩
                  by_cases e : (xs.filter fun y => decide (y = V.int p)).length = 1
                  · refine no_ (by rw [e]; rfl) ?_
                    refine ⟨_, rfl, s2.trans s3, fun j p' hj ep' => ?_⟩
                    by_cases hjq : j < q
                    · exact hone j p' hjq ep'
                    · have ej : j = q := by omega
                      subst ej
                      cases Option.some.inj (ep'.symm.trans ep)
                      exact e
                  · refine yep_ ?_ ?_
                    · rw [Bool.not_eq_true']
                      exact decide_eq_false fun z => e (by have := V.int.inj z; omega)
                    · exact bad (fun z => e (((okC_iff tnd (.lst xs)).mpr z).2 p (List.mem_of_getElem? ep))) H3 (s2.trans s3)
              · rintro σ H2 ⟨v3, rfl, s2, hone⟩
                rw [List.length_map] at hone
                refine ⟨_, _, rfl, s1.trans s2, fun j it' t' hj e1 e2 => ?_⟩
                by_cases hji : j < i
                · exact hok j it' t' hji e1 e2
                · have ej : j = i := by omega
                  subst ej
                  cases Option.some.inj (e1.symm.trans ei)
                  cases Option.some.inj (e2.symm.trans et)
                  refine (okC_iff tnd (.lst xs)).mp ⟨c2, fun p hp => ?_⟩
                  obtain ⟨q, hq⟩ := List.mem_iff_getElem?.mp hp
                  exact hone q p (List.getElem?_eq_some_iff.mp hq).1 hq
            · refine yep_ ?_ ?_
              · rw [Bool.not_eq_true']
                exact decide_eq_false fun z => c2 (by have := V.int.inj z; rw [List.length_map] at this; omega)
              · exact bad (fun z => c2 ((okC_iff tnd (.lst xs)).mpr z).1) H1 (Same.refl H1)
        · rintro σ H1 ⟨v1, v2, rfl, s1, hok⟩
          rw [Int.toNat_natCast] at hok
          have q := k H1 s1
          rw [dB_t (okE.mpr ⟨by rw [← wl, c, tu.len], fun j it t e1 e2 => hok j it t (by
            have := (List.getElem?_eq_some_iff.mp e2).1
            rw [tu.len] at this
            exact this) e1 e2⟩)] at q
          exact q
      · refine yep_ ?_ ?_
        · rw [Bool.not_eq_true', al]
          exact decide_eq_false fun z => c (by have := V.int.inj z; omega)
        · exact kF (fun z => c (by rw [wl, z.1, tu.len])) H (Same.refl H)
end
end Fd
namespace Fd
open PySem PySem.Spec PyProof.Rows L2
/-! ### != of a thing and its copy -/
def rNeS (K : PySem.W.Frag) : R2 := fun x y H Q => (∃ (a b : Addr) (xs : List V), x = .ref a ∧ y = .ref b ∧ SqL K H a xs ∧ SqL K H b xs ∧ ∀ z ∈ xs, flatB z = true ∨ ∃ c, z = .ref c) ∧ Q (.bl false) H
def rNeU (K : PySem.W.Frag) : R2 := fun x y H Q => (∃ (a : Addr) (xs : List V), x = .ref a ∧ y = .ref a ∧ SqT K H a xs) ∧ Q (.bl false) H
section
variable {X : Cx}
theorem op_neS (hu : X.A.units < cLine) : OpR X (compareOp .NotEq) (rNeS X.K) := by
  intro pins s σ H x y v u Q I rx ry h
  obtain ⟨⟨a, b, xs, rfl, rfl, ha, hb, hz⟩, q⟩ := h
  cases (show v = Value.ref a from rx)
  cases (show u = Value.ref b from ry)
  obtain ⟨us, r1, p1, _⟩ := I.list ha
  obtain ⟨ws, r2, p2, _⟩ := I.list hb
  have hsz : us.toArray.size = ws.toArray.size := by
    rw [List.size_toArray, List.size_toArray, ← r1.length, ← r2.length]
  have R := SeqAt.RcNeAt.lists (A := X.A) (s := s) (e := fun _ => true) p1.isList p2.isList hsz hu (fun j h1 h2 => by
    have h1' : j < us.length := by simpa using h1
    have h2' : j < ws.length := by simpa using h2
    have hx : j < xs.length := by rw [r1.length]; exact h1'
    obtain ⟨u1, e1, q1⟩ := r1.get (List.getElem?_eq_getElem hx)
    obtain ⟨u2, e2, q2⟩ := r2.get (List.getElem?_eq_getElem hx)
    have f1 : us[j] = u1 := by
      rw [List.getElem?_eq_getElem h1'] at e1
      exact Option.some.inj e1
    have f2 : ws[j] = u2 := by
      rw [List.getElem?_eq_getElem h2'] at e2
      exact Option.some.inj e2
    have g : SeqAt.EqAt X.A.in1 s u1 u2 true := by
      rcases hz xs[j] (List.getElem_mem hx) with f | ⟨c, f⟩
      · exact eqAt_same q1 q2 f
      · rw [f] at q1 q2
        cases (show u1 = Value.ref c from q1)
        cases (show u2 = Value.ref c from q2)
        exact SeqAt.EqAt.same _
    simpa [f1, f2] using g)
  have z := R X.prog X.w X.xe (EP X pins σ Q)
  refine z ?_
  have e : (!(List.range us.toArray.size).all fun _ => true) = false := by
    rw [show ((List.range us.toArray.size).all fun _ => true) = true from List.all_eq_true.mpr fun _ _ => rfl]
    rfl
  rw [e]
  exact ⟨.bl false, H, I, rfl, q⟩
theorem op_neU (hu : X.A.units < cLine) : OpR X (compareOp .NotEq) (rNeU X.K) := by
  intro pins s σ H x y v u Q I rx ry h
  obtain ⟨⟨a, xs, rfl, rfl, ha⟩, q⟩ := h
  cases (show v = Value.ref a from rx)
  cases (show u = Value.ref a from ry)
  obtain ⟨us, r1, p1, _⟩ := I.tuple ha
  have R := SeqAt.RcNeAt.tuples (A := X.A) (s := s) (e := fun _ => true) p1 p1 hu (fun j h1 h2 => SeqAt.EqAt.same _)
  have z := R X.prog X.w X.xe (EP X pins σ Q)
  refine z ?_
  have e : (!((List.range (min us.toArray.size us.toArray.size)).all (fun _ => true) && us.toArray.size == us.toArray.size)) = false := by
    rw [show ((List.range (min us.toArray.size us.toArray.size)).all fun _ => true) = true from List.all_eq_true.mpr fun _ _ => rfl]
    simp
  rw [e]
  exact ⟨.bl false, H, I, rfl, q⟩
def rNeAll (K : PySem.W.Frag) : R2 := fun x y H Q => rNe x y H Q ∨ rNeS K x y H Q ∨ rNeU K x y H Q ∨ rNeDA x y H Q
theorem op_neT5 (hu : X.A.units < cLine) : OpR X (compareOp .NotEq) (rNeAll X.K) := op_ne.or ((op_neS hu).or ((op_neU hu).or (op_ne_dictA hu)))
end
/-! ### the caught refusal -/
structure K5Txt (K : PySem.W.Frag) (mg : Str → Option Value) (CN CP CF CT : Addr) : Prop where
  eT : Err K mg "NoTurns" CT
  gN : mg "NoWeb" = some (.ref CN)
  gP : mg "NoPoint" = some (.ref CP)
  gF : mg "FlatError" = some (.ref CF)
  xT : PySem.W.exmOne K (.ref CT) (.ref CF) = some true
  cT : ExcC K CT
  tn : PySem.W.kitOne K (.ref CT) (.ref CN) = some false
  tp : PySem.W.kitOne K (.ref CT) (.ref CP) = some false
  tt : PySem.W.kitOne K (.ref CT) (.ref CT) = some true
  tv : PySem.W.kitOne K (.ref CT) (.type "ValueError") = some true
  isi : mg "isinstance" = none
  vE : mg "ValueError" = none
  fWord : Fn K mg "_law_word" sLawWord ["_law_e"]
def repB (b : Bool) (z : Str) : Str := if b then z else Str.empty
def wordOf (b1 b2 b3 b4 : Bool) : Str := ((repB b1 "web " ++ repB b2 "point ") ++ repB b3 "turns ") ++ repB b4 "value"
def spWord (z : Str) : Addr → Sp := fun a vs H Q _ => vs = [.ref a] ∧ Q (.str z) H
section
variable {P : Program} {w : World} {K : PySem.W.Frag} {mg : Str → Option Value} {base : Heap} {C CN CP CF CT : Addr}
theorem scWord : FnScope ["_law_e", "_law_word_here"] ["_law_e"] (defScope sLawWord) := ⟨rfl, rfl, rfl, by decide +kernel, rfl, by decide +kernel, by decide +kernel⟩
theorem word_ok {D f : Addr} {fd : FuncData} {b1 b2 b3 b4 : Bool} (F : L2.Fun K "_law_word" "_law_word" sLawWord f fd) (T : WTxt K mg C) (L : K5Txt K mg CN CP CF CT) (c : ExcC K D)
    (k1 : PySem.W.kitOne K (.ref D) (.ref CN) = some b1) (k2 : PySem.W.kitOne K (.ref D) (.ref CP) = some b2) (k3 : PySem.W.kitOne K (.ref D) (.ref CT) = some b3) (k4 : PySem.W.kitOne K (.ref D) (.type "ValueError") = some b4) :
    FnX P w K mg base 1 f fd ["_law_e"] D (spWord (wordOf b1 b2 b3 b4)) := by
  refine fnX_of F scWord (fun cdv B out st G vs R p hz hf h => ?_)
  obtain ⟨rfl, k⟩ := h
  refine ⟨_, pss_cons (ps_set (i := 1) scWord.nd rfl (Or.inl rfl) (pe_op op_add_str
      (pe_op op_repS pe_str (pe_callTy call_int1 (by rfl) T.int (by decide +kernel) (pa_cons (pe_callB (id := "isinstance") (r := rIsX K D p.1) (call_isX (by exact List.mem_cons_self) c hz hf) (by rfl) L.isi (by decide +kernel) (pa_cons (pv 0) (pa_cons (pe_glob (v := .ref CN) (by rfl) L.gN rfl) pa_nil))) pa_nil)))
      (pe_op op_repS pe_str (pe_callTy call_int1 (by rfl) T.int (by decide +kernel) (pa_cons (pe_callB (id := "isinstance") (r := rIsX K D p.1) (call_isX (by exact List.mem_cons_self) c hz hf) (by rfl) L.isi (by decide +kernel) (pa_cons (pv 0) (pa_cons (pe_glob (v := .ref CP) (by rfl) L.gP rfl) pa_nil))) pa_nil)))))
    (pss_one (ps_ret (pe_op op_add_str (pe_op op_add_str (pv 1)
      (pe_op op_repS pe_str (pe_callTy call_int1 (by rfl) T.int (by decide +kernel) (pa_cons (pe_callB (id := "isinstance") (r := rIsX K D p.1) (call_isX (by exact List.mem_cons_self) c hz hf) (by rfl) L.isi (by decide +kernel) (pa_cons (pv 0) (pa_cons (pe_glob (v := .ref CT) (by rfl) L.eT.g rfl) pa_nil))) pa_nil))))
      (pe_op op_repS pe_str (pe_callTy call_int1 (by rfl) T.int (by decide +kernel) (pa_cons (pe_callB (id := "isinstance") (r := rIsX K D p.1) (call_isX (by exact List.mem_cons_self) c hz hf) (by rfl) L.isi (by decide +kernel) (pa_cons (pv 0) (pa_cons (pe_bltn (v := .ty "ValueError") (by rfl) L.vE (by decide +kernel) rfl) pa_nil))) pa_nil)))))), ?_⟩
  refine ⟨_, rfl, .ref CN, .ref CN, b1, rfl, fun _ z => z, k1, .inr ⟨b1, rfl, _, b1, rfl, rfl, _, rfl, .ref CP, .ref CP, b2, rfl, fun _ z => z, k2, .inr ⟨b2, rfl, _, b2, rfl, rfl, _, _, rfl, rfl, ?_, ?_⟩⟩⟩
  · cases b1 <;> cases b2 <;> decide +kernel
  refine ⟨_, rfl, _, rfl, .ref CT, .ref CT, b3, rfl, fun _ z => z, k3, .inr ⟨b3, rfl, _, b3, rfl, rfl, _, _, rfl, rfl, ?_, ?_⟩⟩
  · cases b1 <;> cases b2 <;> cases b3 <;> decide +kernel
  refine ⟨_, rfl, .ty "ValueError", .type "ValueError", b4, rfl, fun _ z => z, k4, .inr ⟨b4, rfl, _, b4, rfl, rfl, _, _, rfl, rfl, ?_, k⟩⟩
  cases b1 <;> cases b2 <;> cases b3 <;> cases b4 <;> decide +kernel
end
def turnsVal : Str := "turns value"
theorem word_turns : wordOf false false true true = turnsVal := by decide +kernel
theorem e_turns : decide (V.str turnsVal = V.str "turns value") = true := by decide +kernel
def spRefused (C : Addr) (K : PySem.W.Frag) : Sp := fun vs H Q _ => ∃ (H0 : Hp) (p : Addr) (m : Nat) (ts : List Tie) (x : V) (o : Option (List It)) (wy : Int), vs = [.ref p, x, .int wy] ∧ WebAt C H0 H p m ts ∧ m ≤ 16 ∧ ThAt K H x o ∧ ¬ okTh (rowsOf m ts) o ∧ ∀ H', Same H H' → Q (.bl true) H'
structure F5Txt (K : PySem.W.Frag) (mg : Str → Option Value) : Prop where
  fCheckT : Fn K mg "_check_turns" sCheckTurns ["web", "turns"]
  fWalks : Fn K mg "walks" sWalks ["web", "turns"]
  fFlat : Fn K mg "flat" sFlat ["web", "turns"]
section
variable {P : Program} {w : World} {K : PySem.W.Frag} {mg : Str → Option Value} {base : Heap} {C CN CP CF CT : Addr}
abbrev nRefused : List Str := ["_law_web", "_law_thing", "_law_way", "_law_e"]
theorem scRefused : FnScope ["_law_web", "_law_thing", "_law_way", "_law_e"] ["_law_web", "_law_thing", "_law_way"] (defScope sLawRefused) := ⟨rfl, rfl, rfl, by decide +kernel, rfl, by decide +kernel, by decide +kernel⟩
theorem c_refused (T : WTxt K mg C) (U : TTxt K mg C) (L : K5Txt K mg CN CP CF CT) (F5 : F5Txt K mg) (FR : Fn K mg "_law_refused" sLawRefused ["_law_web", "_law_thing", "_law_way"]) : C8.Cal P w K mg base 9 "_law_refused" (spRefused C K) [] := by
  obtain ⟨fw, fdw, FW, gW, bW⟩ := L.fWord.ex
  have G : FnX P w K mg base 1 fw fdw ["_law_e"] CT (spWord (wordOf false false true true)) := word_ok FW T L L.cT L.tn L.tp L.tt L.tv
  refine cal_of FR scRefused (fun vs H Q E h => ?_) (fun f cdv A outer s H vs Q E hr h => ?_)
  · obtain ⟨H0, p, m, ts, x, o, wy, rfl, _⟩ := h
    rfl
  · obtain ⟨H0, p, m, ts, x, o, wy, rfl, W, m16, hx, bad, k⟩ := h
    refine ⟨_, pss_cons (ps_try_as (i := 3) (c := .ref CF) (tb := fun W => tIfS (tTest (tOp rEq (tVar 2) (tC (.int 0)))) (tDrop (tCall (spBadT C K CT) [] (EW nRefused W) (tCons (tVar 0) (tCons (tVar 1) tNil))))
          (tDrop (tCall (spBadT C K CT) [] (EW nRefused W) (tCons (tVar 0) (tCons (tVar 1) tNil)))))
        (ts := fun a cls d => tRet (tOp rEq (tCallX cls d a CT (spWord (wordOf false false true true)) (tCons (tVar 3) tNil)) (tC (.str "turns value")))) (Wout := fun _ _ _ _ => False) rfl rfl scRefused.nd rfl rfl ⟨rfl, by decide, .inl L.gF⟩ takes0
        (fun W pn xe tk _ => pss_one (ps_if (pt_cmpR op_eq (pv 2) pe_int (nomark _)) (pss_one (ps_expr (pe_cX (c_walksX T U F5.fCheckT F5.fWalks L.eT) hr (by decide) (by rfl) (passW tk) (pa_cons (pv 0) (pa_cons (pv 1) pa_nil)))))
          (pss_one (ps_expr (pe_cX (c_flatX T U F5.fCheckT F5.fWalks F5.fFlat L.eT) hr (by decide) (by rfl) (passW tk) (pa_cons (pv 0) (pa_cons (pv 1) pa_nil)))))))
        (fun a oe cls d pn hz hf => pss_one (ps_ret (pe_cmpR op_eq (pe_callX G rfl (hr.mono (by decide)) hz hf (by rfl) gW FW.kp bW (pa_cons (pv 3) pa_nil)) pe_str (nomark _)))))
      (pss_one (ps_ret pe_bl)), ?_⟩
    have fin : ∀ (D : Ends), D.rt = Q → ∀ H1, Same H H1 → EW nRefused (wAs K (.ref CF) 3 (fun a cls d => tRet (tOp rEq (tCallX cls d a CT (spWord (wordOf false false true true)) (tCons (tVar 3) tNil)) (tC (.str "turns value")))) (fun _ _ _ _ => False) D) (.ref CT) none H1 := fun D hD H1 s1 σ' hlen => by
      refine ⟨true, L.xT, fun _ a ha => ?_, fun q => Bool.noConfusion q⟩
      refine ⟨⟨rfl, rfl⟩, _, List.getElem?_set_self (by rw [hlen]; decide), rfl, rfl, rfl, ?_⟩
      rw [word_turns, e_turns]
      show D.rt _ _
      rw [hD]
      exact k H1 s1
    refine ⟨_, rfl, rfl, _, rfl, ?_⟩
    refine ite2 (fun _ => ?_) (fun _ => ?_)
    · exact ⟨_, rfl, _, rfl, H0, p, m, ts, x, o, rfl, W, m16, hx, bad, fin _ rfl⟩
    · exact ⟨_, rfl, _, rfl, H0, p, m, ts, x, o, rfl, W, m16, hx, bad, fin _ rfl⟩
end
end Fd
namespace Fd
open PySem PySem.Spec PyProof.Rows L2
def rListOf (K : PySem.W.Frag) : List V → Hp → VK → Prop := fun xs H Q => ∃ p ys, xs = [V.ref p] ∧ (SqL K H p ys ∨ SqT K H p ys) ∧ ∀ l, H l = none → Q (.ref l) (upd H l (.lst ys))
theorem lc_copy {K : PySem.W.Frag} {H0 H : Hp} {σ : L2.St} {i j : Nat} {R : Addr} {as : List Addr} {tss : List (List Int)} {Q : VK} (hi : σ[i]? = some (some (.ref R))) (hj : j < σ.length) (hR : RowsAt H0 H R as tss) (len : tss.length ≤ 16)
    (k : ∀ (H' : Hp) (D : Addr) (bs : List Addr), Same H H' → RowsAt H H' D bs tss → Q (.ref D) H') : tLc (iList K (tVar i)) (gName j) tYes (tCB (rListOf K) (tCons (tVar j) tNil)) [j] σ H Q := by
  refine ⟨_, hi, R, rfl, ⟨_, SqL.of hR.top⟩, fun D hD => ?_⟩
  refine lc_list (K := K) (a := R) (xs := as.map V.ref) (fun q H1 => Same H H1 ∧ ∃ bs, RowsAt H H1 D bs (tss.take q)) ⟨Same.put hD, [], RowsAt.start hD⟩ (fun q H1 _ ⟨s1, _⟩ => SqL.of (s1 _ _ hR.top)) (fun q x H1 hq ⟨s1, bs, r1⟩ => ?_) (fun H1 ⟨s1, bs, r1⟩ => ?_)
  · have hql : q < tss.length := by
      have := (List.getElem?_eq_some_iff.mp hq).1
      rw [List.length_map, hR.len] at this
      exact this
    have et : tss[q]? = some tss[q] := List.getElem?_eq_getElem hql
    generalize tss[q] = t at et
    obtain ⟨b, eb, ebr, _, hb⟩ := hR.get et
    obtain rfl : x = .ref b := Option.some.inj (hq.symm.trans ebr)
    have wl : (wipe σ [j]).length = σ.length := by simp [wipe]
    have eq : ((wipe σ [j]).set j (some (.ref b)))[j]? = some (some (.ref b)) := List.getElem?_set_self (by rw [wl]; exact hj)
    refine ⟨by simp [wipe], ?_⟩
    refine yes_ ?_
    refine iteT ?_
    refine ⟨_, eq, b, iL t, rfl, .inl (SqL.of (s1 _ _ hb)), fun l hl => ?_⟩
    have pD : D ≠ l := ne_of_none r1.top hl
    refine ⟨bs.map V.ref, by rw [upd_ne pD]; exact r1.top, ?_, Same.write (Same.step s1 hl) hD, bs ++ [l], ?_⟩
    · rw [List.length_map, r1.len, List.length_take]
      exact small (by omega)
    · rw [take_next et]
      exact r1.more s1 hl
  · rw [List.length_map, hR.len, List.take_length] at r1
    exact k H1 D bs s1 r1
/-- the thing that is handed in -/
inductive ThS (K : PySem.W.Frag) (H : Hp) : V → Prop
  | lst {a : Addr} {ws : List V} {its : List It} (h : SqL K H a ws) (p : Paired (ItAt K H) ws its) (l : ws.length ≤ 100) : ThS K H (.ref a)
  | sc {x : V} {T : String} (h : TyB K H x T) (n : T ≠ "list") (s : scal x x = true) : ThS K H x
  | tup {a : Addr} {xs : List V} (h : SqT K H a xs) : ThS K H (.ref a)
  | dic {a : Addr} (h : H a = some (.dK [])) : ThS K H (.ref a)
theorem ThS.same' {K : PySem.W.Frag} (H H' : Hp) (x : V) (s : Same H H') (h : ThS K H x) : ThS K H' x := by
  cases h with
  | lst h p l => exact .lst (s.seq h) (itsSame s p) l
  | sc h n k => exact .sc (TyB.same s h) n k
  | tup h => exact .tup (SqT.same s h)
  | dic h => exact .dic (s _ _ h)
theorem items_ok {K : PySem.W.Frag} {H : Hp} {ws : List V} {its : List It} (h : Paired (ItAt K H) ws its) : ∀ z ∈ ws, flatB z = true ∨ ∃ c, z = .ref c := fun z hz => by
  obtain ⟨i, hi⟩ := List.mem_iff_getElem?.mp hz
  obtain ⟨it, _, k⟩ := paired_get h hi
  cases k with
  | lst h t l => exact .inr ⟨_, rfl⟩
  | oth h n =>
    cases h with
    | lst h => exact .inr ⟨_, rfl⟩
    | tup h => exact .inr ⟨_, rfl⟩
    | dK h => exact .inr ⟨_, rfl⟩
    | _ => exact .inl rfl
theorem kit_list' {K : PySem.W.Frag} {H : Hp} {x : V} {T : String} (h : TyB K H x T) : PySem.W.kitOne K (.type T) (.type "list") = some (decide (T = "list")) := kit_list (TyB_kind h)
theorem rows_its {K : PySem.W.Frag} {H0 H : Hp} {D : Addr} {bs : List Addr} {tss : List (List Int)} (h : RowsAt H0 H D bs tss) (l : ∀ t ∈ tss, t.length ≤ 100) : Paired (ItAt K H) (bs.map V.ref) (tss.map fun t => It.lst (iL t)) := by
  have go : ∀ (bs : List Addr) (tss : List (List Int)), bs.length = tss.length → (∀ (i : Nat) (a : Addr) (r : List Int), bs[i]? = some a → tss[i]? = some r → H a = some (.lst (iL r))) → (∀ t ∈ tss, t.length ≤ 100) → Paired (ItAt K H) (bs.map V.ref) (tss.map fun t => It.lst (iL t)) := fun bs => by
    induction bs with
    | nil =>
      intro tss hl _ _
      rw [List.length_eq_zero_iff.mp hl.symm]
      exact .nil
    | cons b bs ih =>
      intro tss hl h l
      cases tss with
      | nil => cases hl
      | cons t tss =>
        exact .cons (itAt_ints (SqL.of (h 0 b t rfl rfl)) (l t List.mem_cons_self)) (ih tss (by simpa using hl) (fun i a r e1 e2 => h (i + 1) a r (by simpa using e1) (by simpa using e2)) fun t ht => l t (List.mem_cons_of_mem _ ht))
  exact go bs tss h.len (fun i a r e1 e2 => (h.row i a r e1 e2).2) l
theorem TurnsOf.short {m : Nat} {ts : List Tie} {tss : List (List Int)} (h : TurnsOf m ts tss) (m16 : m ≤ 16) : ∀ t ∈ tss, t.length ≤ 16 := fun t ht => by
  obtain ⟨k, hk⟩ := List.mem_iff_getElem?.mp ht
  rw [(h.row k t hk).length_eq]
  have := rowOf_len m ts (k : Int)
  omega
theorem TurnsOf.ok {m : Nat} {ts : List Tie} {tss : List (List Int)} (h : TurnsOf m ts tss) : okTh (rowsOf m ts) (some (tss.map fun t => It.lst (iL t))) := by
  refine ⟨by rw [List.length_map, h.len, rowsOf_len], fun k it r e1 e2 => ?_⟩
  rw [List.getElem?_map] at e1
  cases e : tss[k]? with
  | none =>
    rw [e] at e1
    cases e1
  | some t =>
    rw [e] at e1
    cases Option.some.inj e1
    have hk : k < m := by
      have := (List.getElem?_eq_some_iff.mp e2).1
      rw [rowsOf_len] at this
      exact this
    cases Option.some.inj (e2.symm.trans (rowsOf_at hk))
    exact ⟨t, rfl, h.row k t e⟩
theorem gv_pick {K : PySem.W.Frag} {σ : L2.St} {P : Hp → V → Prop} {n : Nat} {t : TA} {H : Hp} {Q : VK} (st : ∀ H H' x, Same H H' → P H x → P H' x) (h : GvA H σ P n t) (hn : n ≤ 1000) (k : ∀ (H' : Hp) (p : Addr) (xs : List V), Same H H' → H' p = some (.lst xs) → xs.length = n → (∀ x ∈ xs, P H' x) → Q (.ref p) H') :
    tLst t σ H Q := gv_list (P := P) (n := n) st h hn (Same.refl H) k
section
variable {K : PySem.W.Frag} {H0 : Hp} {σ : L2.St} {i : Nat} {R : Addr} {ws : List V}
theorem gv_slT {tl th : TO} (e : σ[i]? = some (some (.ref R))) (h : H0 R = some (.lst ws)) (l : ws.length ≤ 100) (it : ∀ x ∈ ws, IsIt K H0 x) (h1 : PuO H0 σ tl) (h2 : PuO H0 σ th) : Gv H0 σ (ThS K) (tSl (rSlL K) (tVar i) tl th) := fun H Q s k =>
  ⟨_, e, h1 H _ s fun lo => h2 H _ s fun hi => ⟨R, ws, rfl, SqL.of (s _ _ h), fun p hp => by
    obtain ⟨its, pr⟩ := its_of (K := K) (H := upd H p (.lst (cutV ws lo hi))) (ws := cutV ws lo hi) fun x hx => IsIt.same' _ _ _ (s.trans (Same.put hp)) (it x (cut_mem hx))
    exact k _ _ (Same.put hp) (.lst (SqL.of upd_same) pr (Nat.le_trans (cut_le _ _ _) l))⟩⟩
theorem gv_catT (e : σ[i]? = some (some (.ref R))) (h : H0 R = some (.lst ws)) (l : ws.length ≤ 16) (it : ∀ x ∈ ws, IsIt K H0 x) : Gv H0 σ (ThS K) (tOp rCat (tVar i) (tLst (tCons (tLst tNil) tNil))) := fun H Q s k =>
  ⟨_, e, Nat.zero_le _, fun q hq => ⟨smalle (by show 1 ≤ 1000; omega), fun q2 hq2 => ⟨R, q2, ws, [.ref q], rfl, rfl, (s.trans ((Same.put hq).trans (Same.put hq2))) _ _ h, upd_same, smalle (by show _ + 1 ≤ 1000; omega), fun p hp => by
    have s2 := (Same.put (o := .lst []) hq).trans (Same.put (o := .lst [.ref q]) hq2)
    have s3 := s2.trans (Same.put (o := .lst (ws ++ [.ref q])) hp)
    obtain ⟨its, pr⟩ := its_of (K := K) (H := upd (upd (upd H q (.lst [])) q2 (.lst [.ref q])) p (.lst (ws ++ [.ref q]))) (ws := ws ++ [.ref q]) fun x hx => by
      rcases List.mem_append.mp hx with z | z
      · exact IsIt.same' _ _ _ (s.trans s3) (it x z)
      · rw [List.mem_singleton.mp z]
        exact ⟨_, .lst (xs := []) (SqL.of (((Same.put hq2).trans (Same.put hp)) _ _ upd_same)) (fun y hy => by cases hy) (by decide)⟩
    exact k _ _ s3 (.lst (SqL.of upd_same) pr (by rw [List.length_append]; show _ + 1 ≤ 100; omega))⟩⟩⟩
theorem gv_tupT {r : List V → Hp → VK → Prop} (hr : r = fun xs H Q => ∃ p ys, xs = [.ref p] ∧ ((SqL K H p ys ∧ ∀ l, H l = none → Q (.ref l) (upd H l (.tup ys))) ∨ (SqT K H p ys ∧ Q (.ref p) H))) (e : σ[i]? = some (some (.ref R))) (h : H0 R = some (.lst ws)) :
    Gv H0 σ (ThS K) (tCB r (tCons (tVar i) tNil)) := fun H _ s k => by
  subst hr
  exact ⟨_, e, R, ws, rfl, .inl ⟨SqL.of (s _ _ h), fun l hl => k _ _ (Same.put hl) (.tup (SqT.of upd_same))⟩⟩
theorem gv_dicT : Gv H0 σ (ThS K) tDNewK := fun H _ s k p hp => k _ _ (Same.put hp) (.dic upd_same)
theorem gv_nilT : Gv H0 σ (ThS K) (tLst tNil) := fun H _ s k => ⟨Nat.zero_le _, fun p hp => k _ _ (Same.put hp) (.lst (its := []) (SqL.of upd_same) .nil (by decide))⟩
end
def spLaw (K : PySem.W.Frag) : Sp := fun vs H Q _ => ∃ (a : Addr) (ns : List Int), vs = [.ref a] ∧ SqL K H a (ns.map V.int) ∧ ∀ H', Q (.bl true) H'
structure N5Txt (K : PySem.W.Frag) (mg : Str → Option Value) : Prop where
  fTies : Fn K mg "_law_ties" sLawTies ["_law_script", "_law_many_here"]
  fOrder : Fn K mg "_law_order_by" sLawOrderBy ["_law_cell", "_law_row"]
  fTurnsBy : Fn K mg "_law_turns_by" sLawTurnsBy ["_law_script", "_law_many_here", "_law_ties_here"]
  fSpoilt : Fn K mg "_law_spoilt" sLawSpoilt ["_law_turns", "_law_cell", "_law_point"]
  fRight : Fn K mg "_law_is_right" sLawIsRight ["_law_turns", "_law_thing"]
  fRefused : Fn K mg "_law_refused" sLawRefused ["_law_web", "_law_thing", "_law_way"]
section
variable {P : Program} {w : World} {K : PySem.W.Frag} {mg : Str → Option Value} {base : Heap} {C CN CP CF CT : Addr}
abbrev nLaw : List Str := ["_law_script", "_law_many_here", "_law_ties_here", "_law_turns", "_law_web", "_law_cell", "_law_thing", "_law_odd", "_law_kept", "_law_due", "_law_seen", "_law_turn"]
theorem scLaw : FnScope nLaw ["_law_script"] (defScope sLaw) := ⟨rfl, rfl, rfl, by decide +kernel, rfl, by decide +kernel, by decide +kernel⟩
theorem ok_law {f : Addr} {fd : FuncData} (F : L2.Fun K "law" "law" sLaw f fd) (T : WTxt K mg C) (U : TTxt K mg C) (L : LTxt K mg) (K5 : K5Txt K mg CN CP CF CT) (F5 : F5Txt K mg) (N : N5Txt K mg) : FnOk P w K mg base L2.CX0 10 f fd ["_law_script"] (spLaw K) := by
  refine F.ok scLaw (fun vs H Q E h => ?_) (fun cdv A outer s H vs Q E hr h => ?_)
  · obtain ⟨a, ns, rfl, _⟩ := h
    rfl
  · obtain ⟨a, ns, rfl, hS, k⟩ := h
    have hun : (A.deeper (envOfC "law" (defScope sLaw) s.heap.objs.size f cdv)).units + 64 < cLine := by
      have := hr.un
      omega
    have hu : (A.deeper (envOfC "law" (defScope sLaw) s.heap.objs.size f cdv)).units < cLine := by omega
    -- what comes behind kept
    obtain ⟨tr2, hrest2, sem2⟩ : ∃ t, PSs (cxOf L2.CX0 P w K mg base nLaw "law" (defScope sLaw) f cdv A outer s H E).nox ((defBody sLaw).drop 10) t ∧
        ∀ (H0 H1 : Hp) (D R p : Addr) (as : List Addr) (m : Nat) (ts : List Tie) (tss : List (List Int)) (c : Int) (x y : V) (o : Option (List It)) (v7 : Option V), RowsAt H0 H1 R as tss → TurnsOf m ts tss → m ≤ 16 → WebAt C H0 H1 p m ts → ThAt K H1 x o →
          (∀ (H3 : Hp) (Q3 : VK), Same H1 H3 → Q3 (.bl false) H3 → rNeAll K x y H3 Q3) →
          t { nx := fun _ H' => Q .non H', rt := Q } [some (.ref a), some (.int m), some (.ref D), some (.ref R), some (.ref p), some (.int c), some x, v7, some y, none, none, none] H1 := by
      refine ⟨_, (pss_cons (ps_set (i := 9) scLaw.nd rfl (Or.inl rfl) (C8.pe_c (c_isright T L N.fRight) hr (by decide) (by rfl) (pa_cons (pv 3) (pa_cons (pv 6) pa_nil))))
        (pss_cons (ps_if (pt_cmpR op_isnot_bl (C8.pe_c (c_are T U) hr (by decide) (by rfl) (pa_cons (pv 4) (pa_cons (pe_lc (own := [("_law_turn", 11)]) (g := gName 11) (tt := tYes) (te := tCB (rListOf K) (tCons (tVar 11) tNil)) (by rfl) scLaw.nd (pi_list (pv 3))
              (blkOk_by (own := [("_law_turn", 11)]) (N := nLaw) (sc := defScope sLaw) (by decide +kernel)) (fun _ _ _ _ _ => pg_name (i := 11) scLaw.nd rfl (Or.inl rfl)) (fun _ _ _ _ _ => pts_nil) (fun _ _ _ _ _ => pe_callTy (r := rListOf K) call_list_of (by rfl) T.list (by decide +kernel) (pa_cons (pv 11) pa_nil))) pa_nil))) pe_bl (nomark _)) (pss_one (ps_ret pe_bl)) pss_nil)
        (pss_cons (ps_set (i := 10) scLaw.nd rfl (Or.inl rfl) (C8.pe_c (c_are T U) hr (by decide) (by rfl) (pa_cons (pv 4) (pa_cons (pv 6) pa_nil))))
        (pss_cons (ps_if (PW.pt (pw_or (pt_not (pt_val (pe_callB call_isi (by rfl) L.isi (by decide +kernel) (pa_cons (pv 10) (pa_cons (pe_bltn (v := .ty "bool") (by rfl) L.bool (by decide +kernel) rfl) pa_nil)))))
            (pw_or (pt_cmpR op_ne (pv 10) (pv 9) (nomark _)) (pw_or1 (pt_cmpR (op_neT5 hu) (pv 6) (pv 8) (nomark _)))))) (pss_one (ps_ret pe_bl)) pss_nil)
        (pss_one (ps_ret (pe_or (pv 9) (pe_one (pe_and (C8.pe_c (c_refused T U K5 F5 N.fRefused) hr (by decide) (by rfl) (pa_cons (pv 4) (pa_cons (pv 6) (pa_cons pe_int pa_nil))))
          (pe_one (C8.pe_c (c_refused T U K5 F5 N.fRefused) hr (by decide) (by rfl) (pa_cons (pv 4) (pa_cons (pv 6) (pa_cons pe_int pa_nil)))))))))))))), fun H0 H1 D R p as m ts tss c x y o v7 hR tu m16 W hx hy => ?_⟩
      have tl := tu.short m16
      -- due
      refine ⟨_, rfl, _, rfl, H0, R, as, m, ts, tss, x, o, rfl, hR, tu, m16, hx, fun H2 s2 => ?_⟩
      -- the good turns
      refine ⟨_, rfl, ?_⟩
      refine lc_copy (K := K) (H0 := H0) rfl (Nat.lt_of_lt_of_eq (by decide : 11 < 12) rfl) (hR.same s2) (by rw [tu.len]; exact m16) (fun H3 D3 bs s3 r3 => ?_)
      have s13 := s2.trans s3
      refine ⟨H0, p, m, ts, .ref D3, _, rfl, W.same s13, m16, .lst (SqL.of r3.top) (rows_its r3 fun t ht => by have := tl t ht; omega) (by rw [List.length_map, r3.len, tu.len]; omega), fun H4 s4 => ?_⟩
      have s14 := s13.trans s4
      rw [dB_t tu.ok]
      refine ⟨true, true, rfl, rfl, _, rfl, ?_⟩
      refine iteF ?_
      -- what is told of the thing
      refine ⟨_, rfl, _, rfl, H0, p, m, ts, x, o, rfl, W.same s14, m16, ThAt.same s14 hx, fun H5 s5 => ?_⟩
      have s15 := s14.trans s5
      refine ⟨_, rfl, .bl (dB (okTh (rowsOf m ts) o)), .ty "bool", .type "bool", .type "bool", true, rfl, .ty _, tyX_of (.bl _), kit_bool (by decide), _, rfl, ?_⟩
      refine iteF ?_
      refine ⟨_, rfl, _, rfl, rfl, _, rfl, ?_⟩
      refine no_ (by rw [decide_eq_true rfl]; rfl) ?_
      refine ⟨_, rfl, _, rfl, hy H5 _ s15 ⟨_, rfl, ?_⟩⟩
      refine iteF ?_
      refine ⟨_, rfl, _, rfl, ?_⟩
      by_cases ok : okTh (rowsOf m ts) o
      · refine yep_ (dB_t ok) ?_
        exact k H5
      · refine no_ (dB_f ok) ?_
        refine ⟨_, rfl, _, rfl, H0, p, m, ts, x, o, 0, rfl, W.same s15, m16, ThAt.same s15 hx, ok, fun H6 s6 => ⟨_, rfl, ?_⟩⟩
        refine iteT ?_
        exact ⟨_, rfl, _, rfl, H0, p, m, ts, x, o, 1, rfl, W.same (s15.trans s6), m16, ThAt.same (s15.trans s6) hx, ok, fun H7 s7 => k H7⟩
    -- what comes behind the thing
    obtain ⟨tr, hrest, sem⟩ : ∃ t, PSs (cxOf L2.CX0 P w K mg base nLaw "law" (defScope sLaw) f cdv A outer s H E).nox ((defBody sLaw).drop 8) t ∧
        ∀ (H0 H1 : Hp) (D R p : Addr) (as : List Addr) (m : Nat) (ts : List Tie) (tss : List (List Int)) (c : Int) (x : V) (v7 : Option V), RowsAt H0 H1 R as tss → TurnsOf m ts tss → m ≤ 16 → WebAt C H0 H1 p m ts → ThS K H1 x →
          t { nx := fun _ H' => Q .non H', rt := Q } [some (.ref a), some (.int m), some (.ref D), some (.ref R), some (.ref p), some (.int c), some x, v7, none, none, none, none] H1 := by
      refine ⟨_, pss_cons (ps_set (i := 8) scLaw.nd rfl (Or.inl rfl) (pv 6))
        (pss_cons (ps_if (pt_val (pe_callB call_isi (by rfl) L.isi (by decide +kernel) (pa_cons (pv 6) (pa_cons (pe_bltn (v := .ty "list") (by rfl) T.list (by decide +kernel) rfl) pa_nil)))) (pss_one (ps_set (i := 8) scLaw.nd rfl (Or.inl rfl) (pe_callTy call_list_of (by rfl) T.list (by decide +kernel) (pa_cons (pv 6) pa_nil)))) pss_nil)
        hrest2), fun H0 H1 D R p as m ts tss c x v7 hR tu m16 W hx => ?_⟩
      cases hx with
      | @lst b ws its h pr l =>
        refine ⟨_, rfl, _, rfl, .ref b, .ty "list", .type "list", .type "list", true, rfl, .ty _, tyX_of (.lst h), kit_list (by decide), _, rfl, ?_⟩
        refine iteT ?_
        refine ⟨_, rfl, b, ws, rfl, .inl h, fun q hq => ?_⟩
        have s2 := Same.put (o := .lst ws) hq
        exact sem2 H0 _ D R p as m ts tss c (.ref b) (.ref q) (some its) v7 (hR.same s2) tu m16 (W.same s2) (.lst (s2.seq h) (itsSame s2 pr) l) fun H3 Q3 s3 q3 => .inr (.inl ⟨⟨b, q, ws, rfl, rfl, s3.seq (s2.seq h), SqL.of (s3 _ _ upd_same), items_ok pr⟩, q3⟩)
      | @sc x T0 h n hs =>
        refine ⟨_, rfl, _, rfl, x, .ty "list", .type T0, .type "list", false, rfl, .ty _, tyX_of h, (kit_list (TyB_kind h)).trans (by rw [decide_eq_false n]), _, rfl, ?_⟩
        refine iteF ?_
        exact sem2 H0 _ D R p as m ts tss c x x none v7 hR tu m16 W (.oth h n) fun H3 Q3 s3 q3 => .inl ⟨hs, by rw [decide_eq_true rfl]; exact q3⟩
      | @tup b xs h =>
        refine ⟨_, rfl, _, rfl, .ref b, .ty "list", .type "tuple", .type "list", false, rfl, .ty _, tyX_of (.tup h), kit_list (by decide), _, rfl, ?_⟩
        refine iteF ?_
        exact sem2 H0 _ D R p as m ts tss c (.ref b) (.ref b) none v7 hR tu m16 W (.oth (.tup h) (by decide)) fun H3 Q3 s3 q3 => .inr (.inr (.inl ⟨⟨b, xs, rfl, rfl, SqT.same s3 h⟩, q3⟩))
      | @dic b h =>
        refine ⟨_, rfl, _, rfl, .ref b, .ty "list", .type "dict", .type "list", false, rfl, .ty _, tyX_of (.dK h), kit_list (by decide), _, rfl, ?_⟩
        refine iteF ?_
        exact sem2 H0 _ D R p as m ts tss c (.ref b) (.ref b) none v7 hR tu m16 W (.oth (.dK h) (by decide)) fun H3 Q3 s3 q3 => .inr (.inr (.inr ⟨b, b, [], [], rfl, rfl, s3 _ _ h, s3 _ _ h, rfl, (fun p hp => by cases hp), q3⟩))
    -- what comes behind the first if
    obtain ⟨tr3, hrest3, sem3⟩ : ∃ t, PSs (cxOf L2.CX0 P w K mg base nLaw "law" (defScope sLaw) f cdv A outer s H E).nox ((defBody sLaw).drop 7) t ∧
        ∀ (H0 H1 : Hp) (D R p : Addr) (as : List Addr) (m : Nat) (ts : List Tie) (tss : List (List Int)) (c : Int) (x : V), RowsAt H0 H1 R as tss → TurnsOf m ts tss → m ≤ 16 → WebAt C H0 H1 p m ts → ThS K H1 x →
          t { nx := fun _ H' => Q .non H', rt := Q } [some (.ref a), some (.int m), some (.ref D), some (.ref R), some (.ref p), some (.int c), some x, none, none, none, none, none] H1 := by
      refine ⟨_, (pss_cons (ps_if (pt_cmpR op_eq (pe_op op_mod (pv 5) pe_int) pe_int (nomark _))
        (pss_cons (ps_set (i := 7) scLaw.nd rfl (Or.inl rfl) (pe_lst (pa_cons (pe_slice sl_list (pv 3) po_none (po_some (pe_un un_neg pe_int))) (pa_cons (pe_op op_cat (pv 3) (pe_lst (pa_cons (pe_lst pa_nil) pa_nil)))
          (pa_cons (pe_callTy call_tuple_of (by rfl) T.tuple (by decide +kernel) (pa_cons (pv 3) pa_nil)) (pa_cons pe_non (pa_cons pe_str (pa_cons pe_int (pa_cons pe_dnewK (pa_cons (pe_lst pa_nil) (pa_cons pe_bl pa_nil)))))))))))
        (pss_one (ps_set (i := 6) scLaw.nd rfl (Or.inl rfl) (pe_ix ix_list (pv 7) (pe_op op_mod (pe_op op_fdiv (pv 5) pe_int) pe_int) (fun _ _ => rfl))))) pss_nil)
        hrest), fun H0 H1 D R p as m ts tss c x hR tu m16 W hx => ?_⟩
      have short := tu.short m16
      have rowsI : ∀ x ∈ as.map V.ref, IsIt K H1 x := fun x hx => by
        obtain ⟨i, hi⟩ := List.mem_iff_getElem?.mp hx
        obtain ⟨it, _, k⟩ := paired_get (rows_its (K := K) hR fun t ht => by have := short t ht; omega) hi
        exact ⟨it, k⟩
      have al : (as.map V.ref).length = m := by rw [List.length_map, hR.len, tu.len]
      refine ⟨_, rfl, _, _, rfl, rfl, by show (0 : Int) < 3; decide, rfl, _, rfl, ?_⟩
      refine ite2 (fun _ => ?_) (fun _ => ?_)
      · dsimp only [tSeq, tAsg]
        refine gv_list (P := ThS K) (n := 9) ThS.same' ?_ (by decide) (Same.refl H1) (fun H2 O os s2 d2 l2 i2 => ?_)
        · refine gv_cons ThS.same' (gv_slT rfl hR.top (by omega) rowsI puo_no (puo_n _)) ?_
          refine gv_cons ThS.same' (gv_catT rfl hR.top (by omega) rowsI) ?_
          refine gv_cons ThS.same' (gv_tupT rfl rfl hR.top) ?_
          refine gv_cons ThS.same' (gv_pu (pu_c _) fun _ _ => .sc .non (by decide) rfl) ?_
          refine gv_cons ThS.same' (gv_pu (pu_c _) fun _ _ => .sc (.str _) (by decide) rfl) ?_
          refine gv_cons ThS.same' (gv_pu (pu_c _) fun _ _ => .sc (.int _) (by decide) rfl) ?_
          refine gv_cons ThS.same' gv_dicT ?_
          refine gv_cons ThS.same' gv_nilT ?_
          exact gv_cons ThS.same' (gv_pu (pu_c _) fun _ _ => .sc (.bl _) (by decide) rfl) gv_nil
        · obtain ⟨y, hy, my⟩ := pickV os (c / 3) (by omega)
          rw [l2] at hy
          refine ⟨_, rfl, _, rfl, _, _, rfl, rfl, ⟨by decide, by decide⟩, _, _, rfl, rfl, by show (0 : Int) < 9; decide, O, os, _, y, rfl, rfl, SqL.of d2, hy, ?_⟩
          exact sem H0 H2 D R p as m ts tss c y _ (hR.same s2) tu m16 (W.same s2) (i2 y my)
      · exact sem H0 H1 D R p as m ts tss c x _ hR tu m16 W hx
    refine ⟨_, pss_cons (ps_set (i := 1) scLaw.nd rfl (Or.inl rfl) (C8.pe_c (c_many T L) hr (by decide) (by rfl) (pa_cons (pv 0) pa_nil)))
      (pss_cons (ps_set (i := 2) scLaw.nd rfl (Or.inl rfl) (C8.pe_c (c_lties T L N.fTies) hr (by decide) (by rfl) (pa_cons (pv 0) (pa_cons (pv 1) pa_nil))))
      (pss_cons (ps_set (i := 3) scLaw.nd rfl (Or.inl rfl) (C8.pe_c (c_turnsby T L N.fOrder N.fTurnsBy) hr (by decide) (by rfl) (pa_cons (pv 0) (pa_cons (pv 1) (pa_cons (pv 2) pa_nil)))))
      (pss_cons (ps_set (i := 4) scLaw.nd rfl (Or.inl rfl) (C8.pe_mk (c_init T) hr (by decide) (by rfl) (pa_cons (pv 1) (pa_cons (pe_callTy call_list_of (by rfl) T.list (by decide +kernel) (pa_cons (pv 2) pa_nil)) pa_nil))))
      (pss_cons (ps_set (i := 5) scLaw.nd rfl (Or.inl rfl) (C8.pe_c (c_cell T L) hr (by decide) (by rfl) (pa_cons (pv 0) (pa_cons pe_int pa_nil))))
      (pss_cons (ps_setLc (i := 6) (own := [("_law_turn", 11)]) (g := gName 11) (tt := tYes) (te := tCB (rListOf K) (tCons (tVar 11) tNil)) (by rfl) scLaw.nd rfl rfl (sw_true rfl rfl rfl (by decide +kernel)) (pi_list (pv 3))
          (blkOk_by (own := [("_law_turn", 11)]) (N := nLaw) (sc := defScope sLaw) (by decide +kernel)) (fun _ _ _ _ _ => pg_name (i := 11) scLaw.nd rfl (Or.inl rfl)) (fun _ _ _ _ _ => pts_nil) (fun _ _ _ _ _ => pe_callTy (r := rListOf K) call_list_of (by rfl) T.list (by decide +kernel) (pa_cons (pv 11) pa_nil)))
      (pss_cons (ps_if (pt_cmpR op_eq (pe_op op_mod (pv 5) pe_int) pe_int (nomark _)) (pss_one (ps_set (i := 6) scLaw.nd rfl (Or.inl rfl) (C8.pe_c (c_spoilt T N.fSpoilt) hr (by decide) (by rfl) (pa_cons (pv 6) (pa_cons (pe_op op_fdiv (pv 5) pe_int) (pa_cons (pe_op op_mod (pe_op op_fdiv (pv 5) pe_int) (pv 1)) pa_nil)))))) pss_nil)
      hrest3)))))), ?_⟩
    refine ⟨_, rfl, a, ns, rfl, hS, fun m m1 m16 => ?_⟩
    refine ⟨_, rfl, _, rfl, a, ns, m, rfl, hS, m1, m16, fun H1 D ws ts s1 hD d1 p1 g tl => ?_⟩
    refine ⟨_, rfl, _, rfl, _, rfl, a, ns, m, D, ws, ts, rfl, s1.seq hS, m16, d1, p1, g, by omega, fun H2 R as tss s2 hR tu => ?_⟩
    have s12 := s1.trans s2
    -- web = Web(many, list(ties))
    refine ⟨_, rfl, _, rfl, D, ws, rfl, .inl (SqL.of (s2 _ _ d1)), fun l hl x dx nx ndx ndxx => ?_⟩
    have s23 := Same.put (o := .lst ws) hl
    refine ⟨_, x, dx, m, l, ws, ts, rfl, upd_same, fun b o e => by rw [upd_ne (ne_of_none e nx), upd_ne (ne_of_none e ndx)]; exact e, nx, SqL.of upd_same, p1.same (s2.trans s23), g, m1, m16, tl, fun H4 keep W0 => ⟨rfl, ?_⟩⟩
    have s34 := Same.made nx ndx keep
    have s24 := s23.trans s34
    have W : WebAt C H1 H4 x m ts := W0.older (s2.trans s23)
    clear keep W0
    have hR4 := hR.same s24
    have s04 := s12.trans s24
    refine ⟨_, rfl, a, ns, 3, rfl, s04.seq hS, ?_⟩
    try dsimp only [gName, tSeq, tAsg, tNext]
    generalize cellAt ns 3 = c
    refine lc_copy (K := K) (H0 := H1) rfl (Nat.lt_of_lt_of_eq (by decide : 11 < 12) rfl) hR4 (by rw [tu.len]; exact m16) (fun H5 Th bs s5 r5 => ?_)
    have hR5 := hR4.same s5
    have W5 := W.same s5
    have short := tu.short m16
    have bl : (bs.map V.ref).length = m := by rw [List.length_map, r5.len, tu.len]
    refine ⟨_, rfl, _, _, rfl, rfl, by show (0 : Int) < 3; decide, rfl, _, rfl, ?_⟩
    refine ite2 (fun _ => ?_) (fun _ => ?_)
    · have p0 := Int.emod_nonneg (c / 48) (show (m : Int) ≠ 0 by omega)
      have p1 := Int.emod_lt_of_pos (c / 48) (show (0 : Int) < (m : Int) by omega)
      obtain ⟨pt, ept⟩ : ∃ pt : Nat, c / 48 % (m : Int) = pt := ⟨(c / 48 % (m : Int)).toNat, by omega⟩
      refine ⟨_, rfl, _, rfl, _, _, rfl, rfl, ⟨by decide, by decide⟩, _, rfl, _, _, rfl, rfl, ⟨by decide, by decide⟩, _, rfl, _, _, rfl, rfl, by show (0 : Int) < (m : Int); omega, ?_⟩
      refine ⟨Th, c / 3, pt, bs.map V.ref, by rw [← ept]; rfl, r5.top, by omega, by omega, fun y hy => ?_, fun H6 D6 its s6 th6 => ?_⟩
      · obtain ⟨i, hi⟩ := List.mem_iff_getElem?.mp hy
        have hi2 : i < tss.length := by
          have := (List.getElem?_eq_some_iff.mp hi).1
          rw [bl] at this
          rw [tu.len]
          exact this
        have et : tss[i]? = some tss[i] := List.getElem?_eq_getElem hi2
        obtain ⟨b, eb, ebr, _, hb⟩ := r5.get et
        exact ⟨b, tss[i], Option.some.inj (hi.symm.trans ebr), hb, short _ (List.getElem_mem hi2)⟩
      · cases th6 with
        | lst h pr l => exact sem3 H1 H6 D R x as m ts tss c _ (hR5.same s6) tu m16 (W5.same s6) (.lst h pr l)
    · exact sem3 H1 H5 D R x as m ts tss c _ hR5 tu m16 W5 (.lst (SqL.of r5.top) (rows_its r5 fun t ht => by have := short t ht; omega) (by omega))
end
end Fd
namespace Fd
open PySem PySem.Spec PyProof.Rows L2
theorem fn_mk {K : PySem.W.Frag} {h : Heap} {mg : Str → Option Value} (X : K.In h) (G : h.Ns mainGlobals mg) {x : Str} {st : Stmt} {ps : List Str} {f : Addr} {od an : Option Addr} {sl : Array (Option Value)} {oc kV dc pm cd ct : Value}
    (a : PySem.W.nsIn K mainGlobals x = some (some (.ref f))) (l : K.lookup f = some ⟨oc, od, .func (PySem.W.fnOf x x (defArgs st) (defBody st) (defScope st) .none kV dc pm an cd ct), sl⟩) (c : PySem.W.codeIn K cd x = true) (k : PySem.W.keepIn K (.ref f) = true)
    (hb : ∀ (kV doc pm : Value) (an : Option Addr) (cdv ct : Value) (us : List Value), us.length = ps.length → bindArgs (PySem.W.fnOf x x (defArgs st) (defBody st) (defScope st) .none kV doc pm an cdv ct) ⟨us, []⟩ = pure (ps.zip us)) : Fn K mg x st ps :=
  ⟨f, _, fun_mk l c k, PySem.W.mg_of X G a, (fun_mk l c k).binds hb⟩
theorem fnM_mk {K : PySem.W.Frag} {C : Addr} {m qual : Str} {st : Stmt} {ps : List Str} {f : Addr} {od an : Option Addr} {sl : Array (Option Value)} {oc kV dc pm cd ct : Value}
    (a : PySem.W.findIn K (.ref C) m = some (some (.ref f))) (i : PySem.W.isFn K (.ref f) = true) (l : K.lookup f = some ⟨oc, od, .func (PySem.W.fnOf m qual (defArgs st) (defBody st) (defScope st) .none kV dc pm an cd ct), sl⟩) (c : PySem.W.codeIn K cd qual = true) (k : PySem.W.keepIn K (.ref f) = true)
    (hb : ∀ (kV doc pm : Value) (an : Option Addr) (cdv ct : Value) (us : List Value), us.length = ps.length → bindArgs (PySem.W.fnOf m qual (defArgs st) (defBody st) (defScope st) .none kV doc pm an cdv ct) ⟨us, []⟩ = pure (ps.zip us)) : FnM K C m qual st ps :=
  ⟨f, _, fun_mk l c k, ⟨a, i, k⟩, (fun_mk l c k).binds hb⟩
theorem fnI_mk {K : PySem.W.Frag} {C : Addr} {qual : Str} {st : Stmt} {ps : List Str} {f : Addr} {od an : Option Addr} {sl : Array (Option Value)} {oc kV dc pm cd ct : Value} (mk : PySem.W.makesIn K C = true)
    (a : PySem.W.findIn K (.ref C) "__init__" = some (some (.ref f))) (i : PySem.W.isFn K (.ref f) = true) (kc : PySem.W.keepIn K (.ref C) = true) (l : K.lookup f = some ⟨oc, od, .func (PySem.W.fnOf "__init__" qual (defArgs st) (defBody st) (defScope st) .none kV dc pm an cd ct), sl⟩) (c : PySem.W.codeIn K cd qual = true) (k : PySem.W.keepIn K (.ref f) = true)
    (hb : ∀ (kV doc pm : Value) (an : Option Addr) (cdv ct : Value) (us : List Value), us.length = ps.length → bindArgs (PySem.W.fnOf "__init__" qual (defArgs st) (defBody st) (defScope st) .none kV doc pm an cdv ct) ⟨us, []⟩ = pure (ps.zip us)) : FnI K C qual st ps :=
  ⟨f, _, fun_mk l c k, ⟨mk, a, i, kc⟩, (fun_mk l c k).binds hb⟩
end Fd
namespace Fd
open PySem PySem.Spec PyProof.Rows L2
/-! ### What the top has left, and the end -/
theorem all_mk {l : PySem.W.OpenLaw} {w : World} {K : PySem.W.Frag} {h : Heap} {mg : Str → Option Value} {fa C : Addr} {tmP : Tok} {tmT : Tok} {CN CP CF CT : Addr} {f1 : Addr} {od1 an1 : Option Addr} {sl1 : Array (Option Value)} {oc1 kV1 dc1 pm1 cd1 ct1 : Value} {f2 : Addr} {od2 an2 : Option Addr} {sl2 : Array (Option Value)} {oc2 kV2 dc2 pm2 cd2 ct2 : Value} {f3 : Addr} {od3 an3 : Option Addr} {sl3 : Array (Option Value)} {oc3 kV3 dc3 pm3 cd3 ct3 : Value} {f4 : Addr} {od4 an4 : Option Addr} {sl4 : Array (Option Value)} {oc4 kV4 dc4 pm4 cd4 ct4 : Value} {f5 : Addr} {od5 an5 : Option Addr} {sl5 : Array (Option Value)} {oc5 kV5 dc5 pm5 cd5 ct5 : Value} {f6 : Addr} {od6 an6 : Option Addr} {sl6 : Array (Option Value)} {oc6 kV6 dc6 pm6 cd6 ct6 : Value} {f7 : Addr} {od7 an7 : Option Addr} {sl7 : Array (Option Value)} {oc7 kV7 dc7 pm7 cd7 ct7 : Value} {f8 : Addr} {od8 an8 : Option Addr} {sl8 : Array (Option Value)} {oc8 kV8 dc8 pm8 cd8 ct8 : Value} {f9 : Addr} {od9 an9 : Option Addr} {sl9 : Array (Option Value)} {oc9 kV9 dc9 pm9 cd9 ct9 : Value} {f10 : Addr} {od10 an10 : Option Addr} {sl10 : Array (Option Value)} {oc10 kV10 dc10 pm10 cd10 ct10 : Value} {f11 : Addr} {od11 an11 : Option Addr} {sl11 : Array (Option Value)} {oc11 kV11 dc11 pm11 cd11 ct11 : Value} {f12 : Addr} {od12 an12 : Option Addr} {sl12 : Array (Option Value)} {oc12 kV12 dc12 pm12 cd12 ct12 : Value} {f13 : Addr} {od13 an13 : Option Addr} {sl13 : Array (Option Value)} {oc13 kV13 dc13 pm13 cd13 ct13 : Value} {f14 : Addr} {od14 an14 : Option Addr} {sl14 : Array (Option Value)} {oc14 kV14 dc14 pm14 cd14 ct14 : Value} {f15 : Addr} {od15 an15 : Option Addr} {sl15 : Array (Option Value)} {oc15 kV15 dc15 pm15 cd15 ct15 : Value} {f16 : Addr} {od16 an16 : Option Addr} {sl16 : Array (Option Value)} {oc16 kV16 dc16 pm16 cd16 ct16 : Value} {f17 : Addr} {od17 an17 : Option Addr} {sl17 : Array (Option Value)} {oc17 kV17 dc17 pm17 cd17 ct17 : Value} {f18 : Addr} {od18 an18 : Option Addr} {sl18 : Array (Option Value)} {oc18 kV18 dc18 pm18 cd18 ct18 : Value} {f19 : Addr} {od19 an19 : Option Addr} {sl19 : Array (Option Value)} {oc19 kV19 dc19 pm19 cd19 ct19 : Value} {f20 : Addr} {od20 an20 : Option Addr} {sl20 : Array (Option Value)} {oc20 kV20 dc20 pm20 cd20 ct20 : Value} {f21 : Addr} {od21 an21 : Option Addr} {sl21 : Array (Option Value)} {oc21 kV21 dc21 pm21 cd21 ct21 : Value} {f22 : Addr} {od22 an22 : Option Addr} {sl22 : Array (Option Value)} {oc22 kV22 dc22 pm22 cd22 ct22 : Value} {fL : Addr} {odL anL : Option Addr} {slL : Array (Option Value)} {ocL kVL dcL pmL cdL ctL : Value}
    (X : K.In h) (G : h.Ns mainGlobals mg) (hfa : mg "law" = some (.ref fa))
    (aC : PySem.W.nsIn K mainGlobals "Web" = some (some (.ref C)))
    (pg : PySem.W.plainGet K C Str.empty = true)
    (hd : PySem.W.hasDictIn K C = true)
    (po : PySem.W.plainOver K C = true)
    (sa : PySem.W.findIn K (.ref C) "__setattr__" = some (some (.builtin "object.__setattr__")))
    (mk : PySem.W.makesIn K C = true)
    (kc : PySem.W.keepIn K (.ref C) = true)
    (nM : PySem.W.findIn K (.ref C) "many" = some none)
    (nR : PySem.W.findIn K (.ref C) "_rows" = some none)
    (mP : PySem.W.nsIn K mainGlobals "MOST_POINTS" = some (some (.int 16 tmP)))
    (mT : PySem.W.nsIn K mainGlobals "MOST_TIES" = some (some (.int 40 tmT)))
    (z_len : PySem.W.nsIn K mainGlobals "len" = some none)
    (z_type : PySem.W.nsIn K mainGlobals "type" = some none)
    (z_int : PySem.W.nsIn K mainGlobals "int" = some none)
    (z_list : PySem.W.nsIn K mainGlobals "list" = some none)
    (z_tuple : PySem.W.nsIn K mainGlobals "tuple" = some none)
    (z_range : PySem.W.nsIn K mainGlobals "range" = some none)
    (z_sorted : PySem.W.nsIn K mainGlobals "sorted" = some none)
    (z_bool : PySem.W.nsIn K mainGlobals "bool" = some none)
    (z_max : PySem.W.nsIn K mainGlobals "max" = some none)
    (z_min : PySem.W.nsIn K mainGlobals "min" = some none)
    (z_all : PySem.W.nsIn K mainGlobals "all" = some none)
    (z_isi : PySem.W.nsIn K mainGlobals "isinstance" = some none)
    (z_enum : PySem.W.nsIn K mainGlobals "enumerate" = some none)
    (z_vE : PySem.W.nsIn K mainGlobals "ValueError" = some none)
    (aN : PySem.W.nsIn K mainGlobals "NoWeb" = some (some (.ref CN)))
    (aP : PySem.W.nsIn K mainGlobals "NoPoint" = some (some (.ref CP)))
    (aF : PySem.W.nsIn K mainGlobals "FlatError" = some (some (.ref CF)))
    (aT : PySem.W.nsIn K mainGlobals "NoTurns" = some (some (.ref CT)))
    (xT : PySem.W.excIn K CT [.type "ValueError", .type "Exception", .type "BaseException", .type "object"] "ValueError.__new__" = true)
    (kpT : PySem.W.keepIn K (.ref CT) = true)
    (sbT : PySem.W.subIn K (.ref CT) (.type "BaseException") = some true)
    (tyT : PySem.W.typeIn K (.ref CT) = some (.type "type"))
    (hgT : PySem.W.findIn K (.ref CT) "__getattribute__" = some (some (.builtin "BaseException.__getattribute__")))
    (hkT : PySem.W.findIn K (.ref CT) "__getattr__" = some none)
    (hdT : PySem.W.hasDictIn K CT = true)
    (haT : PySem.W.findIn K (.ref CT) "__class__" = some (some (.builtin "object.__class__")))
    (hmT : PySem.W.mroIn K CT (.type "object") = some true)
    (sFT : PySem.W.subIn K (.ref CT) (.ref CF) = some true)
    (hn : PySem.W.specialIn K (.builtin "object.__class__") "__get__" = some (some (.builtin "getset_descriptor.__get__")))
    (ht : PySem.W.takesIn K (.builtin "object.__class__") = some true)
    (sbF : PySem.W.subIn K (.ref CF) (.type "BaseException") = some true)
    (hdF : PySem.W.hasDictIn K CF = true)
    (tyF : PySem.W.typeIn K (.ref CF) = some (.type "type"))
    (qtn : PySem.W.kitOne K (.ref CT) (.ref CN) = some false)
    (qtp : PySem.W.kitOne K (.ref CT) (.ref CP) = some false)
    (qtt : PySem.W.kitOne K (.ref CT) (.ref CT) = some true)
    (qtv : PySem.W.kitOne K (.ref CT) (.type "ValueError") = some true)
    (a1 : PySem.W.nsIn K mainGlobals "is_number" = some (some (.ref f1)))
    (l1 : K.lookup f1 = some ⟨oc1, od1, .func (PySem.W.fnOf "is_number" "is_number" (defArgs sIsNumber) (defBody sIsNumber) (defScope sIsNumber) .none kV1 dc1 pm1 an1 cd1 ct1), sl1⟩)
    (c1 : PySem.W.codeIn K cd1 "is_number" = true)
    (k1 : PySem.W.keepIn K (.ref f1) = true)
    (a2 : PySem.W.nsIn K mainGlobals "is_point" = some (some (.ref f2)))
    (l2 : K.lookup f2 = some ⟨oc2, od2, .func (PySem.W.fnOf "is_point" "is_point" (defArgs sIsPoint) (defBody sIsPoint) (defScope sIsPoint) .none kV2 dc2 pm2 an2 cd2 ct2), sl2⟩)
    (c2 : PySem.W.codeIn K cd2 "is_point" = true)
    (k2 : PySem.W.keepIn K (.ref f2) = true)
    (a3 : PySem.W.nsIn K mainGlobals "_is_tie" = some (some (.ref f3)))
    (l3 : K.lookup f3 = some ⟨oc3, od3, .func (PySem.W.fnOf "_is_tie" "_is_tie" (defArgs sIsTie) (defBody sIsTie) (defScope sIsTie) .none kV3 dc3 pm3 an3 cd3 ct3), sl3⟩)
    (c3 : PySem.W.codeIn K cd3 "_is_tie" = true)
    (k3 : PySem.W.keepIn K (.ref f3) = true)
    (a4 : PySem.W.nsIn K mainGlobals "_joined" = some (some (.ref f4)))
    (l4 : K.lookup f4 = some ⟨oc4, od4, .func (PySem.W.fnOf "_joined" "_joined" (defArgs sJoined) (defBody sJoined) (defScope sJoined) .none kV4 dc4 pm4 an4 cd4 ct4), sl4⟩)
    (c4 : PySem.W.codeIn K cd4 "_joined" = true)
    (k4 : PySem.W.keepIn K (.ref f4) = true)
    (a5 : PySem.W.nsIn K mainGlobals "_is_turn" = some (some (.ref f5)))
    (l5 : K.lookup f5 = some ⟨oc5, od5, .func (PySem.W.fnOf "_is_turn" "_is_turn" (defArgs sIsTurn) (defBody sIsTurn) (defScope sIsTurn) .none kV5 dc5 pm5 an5 cd5 ct5), sl5⟩)
    (c5 : PySem.W.codeIn K cd5 "_is_turn" = true)
    (k5 : PySem.W.keepIn K (.ref f5) = true)
    (a6 : PySem.W.nsIn K mainGlobals "are_turns" = some (some (.ref f6)))
    (l6 : K.lookup f6 = some ⟨oc6, od6, .func (PySem.W.fnOf "are_turns" "are_turns" (defArgs sAreTurns) (defBody sAreTurns) (defScope sAreTurns) .none kV6 dc6 pm6 an6 cd6 ct6), sl6⟩)
    (c6 : PySem.W.codeIn K cd6 "are_turns" = true)
    (k6 : PySem.W.keepIn K (.ref f6) = true)
    (a7 : PySem.W.nsIn K mainGlobals "_check_turns" = some (some (.ref f7)))
    (l7 : K.lookup f7 = some ⟨oc7, od7, .func (PySem.W.fnOf "_check_turns" "_check_turns" (defArgs sCheckTurns) (defBody sCheckTurns) (defScope sCheckTurns) .none kV7 dc7 pm7 an7 cd7 ct7), sl7⟩)
    (c7 : PySem.W.codeIn K cd7 "_check_turns" = true)
    (k7 : PySem.W.keepIn K (.ref f7) = true)
    (a8 : PySem.W.nsIn K mainGlobals "walks" = some (some (.ref f8)))
    (l8 : K.lookup f8 = some ⟨oc8, od8, .func (PySem.W.fnOf "walks" "walks" (defArgs sWalks) (defBody sWalks) (defScope sWalks) .none kV8 dc8 pm8 an8 cd8 ct8), sl8⟩)
    (c8 : PySem.W.codeIn K cd8 "walks" = true)
    (k8 : PySem.W.keepIn K (.ref f8) = true)
    (a9 : PySem.W.nsIn K mainGlobals "flat" = some (some (.ref f9)))
    (l9 : K.lookup f9 = some ⟨oc9, od9, .func (PySem.W.fnOf "flat" "flat" (defArgs sFlat) (defBody sFlat) (defScope sFlat) .none kV9 dc9 pm9 an9 cd9 ct9), sl9⟩)
    (c9 : PySem.W.codeIn K cd9 "flat" = true)
    (k9 : PySem.W.keepIn K (.ref f9) = true)
    (a10 : PySem.W.nsIn K mainGlobals "_law_cell_at" = some (some (.ref f10)))
    (l10 : K.lookup f10 = some ⟨oc10, od10, .func (PySem.W.fnOf "_law_cell_at" "_law_cell_at" (defArgs sLawCellAt) (defBody sLawCellAt) (defScope sLawCellAt) .none kV10 dc10 pm10 an10 cd10 ct10), sl10⟩)
    (c10 : PySem.W.codeIn K cd10 "_law_cell_at" = true)
    (k10 : PySem.W.keepIn K (.ref f10) = true)
    (a11 : PySem.W.nsIn K mainGlobals "_law_whole" = some (some (.ref f11)))
    (l11 : K.lookup f11 = some ⟨oc11, od11, .func (PySem.W.fnOf "_law_whole" "_law_whole" (defArgs sLawWhole) (defBody sLawWhole) (defScope sLawWhole) .none kV11 dc11 pm11 an11 cd11 ct11), sl11⟩)
    (c11 : PySem.W.codeIn K cd11 "_law_whole" = true)
    (k11 : PySem.W.keepIn K (.ref f11) = true)
    (a12 : PySem.W.nsIn K mainGlobals "_law_many" = some (some (.ref f12)))
    (l12 : K.lookup f12 = some ⟨oc12, od12, .func (PySem.W.fnOf "_law_many" "_law_many" (defArgs sLawMany) (defBody sLawMany) (defScope sLawMany) .none kV12 dc12 pm12 an12 cd12 ct12), sl12⟩)
    (c12 : PySem.W.codeIn K cd12 "_law_many" = true)
    (k12 : PySem.W.keepIn K (.ref f12) = true)
    (a13 : PySem.W.nsIn K mainGlobals "_law_word" = some (some (.ref f13)))
    (l13 : K.lookup f13 = some ⟨oc13, od13, .func (PySem.W.fnOf "_law_word" "_law_word" (defArgs sLawWord) (defBody sLawWord) (defScope sLawWord) .none kV13 dc13 pm13 an13 cd13 ct13), sl13⟩)
    (c13 : PySem.W.codeIn K cd13 "_law_word" = true)
    (k13 : PySem.W.keepIn K (.ref f13) = true)
    (a14 : PySem.W.nsIn K mainGlobals "_law_ties" = some (some (.ref f14)))
    (l14 : K.lookup f14 = some ⟨oc14, od14, .func (PySem.W.fnOf "_law_ties" "_law_ties" (defArgs sLawTies) (defBody sLawTies) (defScope sLawTies) .none kV14 dc14 pm14 an14 cd14 ct14), sl14⟩)
    (c14 : PySem.W.codeIn K cd14 "_law_ties" = true)
    (k14 : PySem.W.keepIn K (.ref f14) = true)
    (a15 : PySem.W.nsIn K mainGlobals "_law_order_by" = some (some (.ref f15)))
    (l15 : K.lookup f15 = some ⟨oc15, od15, .func (PySem.W.fnOf "_law_order_by" "_law_order_by" (defArgs sLawOrderBy) (defBody sLawOrderBy) (defScope sLawOrderBy) .none kV15 dc15 pm15 an15 cd15 ct15), sl15⟩)
    (c15 : PySem.W.codeIn K cd15 "_law_order_by" = true)
    (k15 : PySem.W.keepIn K (.ref f15) = true)
    (a16 : PySem.W.nsIn K mainGlobals "_law_turns_by" = some (some (.ref f16)))
    (l16 : K.lookup f16 = some ⟨oc16, od16, .func (PySem.W.fnOf "_law_turns_by" "_law_turns_by" (defArgs sLawTurnsBy) (defBody sLawTurnsBy) (defScope sLawTurnsBy) .none kV16 dc16 pm16 an16 cd16 ct16), sl16⟩)
    (c16 : PySem.W.codeIn K cd16 "_law_turns_by" = true)
    (k16 : PySem.W.keepIn K (.ref f16) = true)
    (a17 : PySem.W.nsIn K mainGlobals "_law_spoilt" = some (some (.ref f17)))
    (l17 : K.lookup f17 = some ⟨oc17, od17, .func (PySem.W.fnOf "_law_spoilt" "_law_spoilt" (defArgs sLawSpoilt) (defBody sLawSpoilt) (defScope sLawSpoilt) .none kV17 dc17 pm17 an17 cd17 ct17), sl17⟩)
    (c17 : PySem.W.codeIn K cd17 "_law_spoilt" = true)
    (k17 : PySem.W.keepIn K (.ref f17) = true)
    (a18 : PySem.W.nsIn K mainGlobals "_law_is_right" = some (some (.ref f18)))
    (l18 : K.lookup f18 = some ⟨oc18, od18, .func (PySem.W.fnOf "_law_is_right" "_law_is_right" (defArgs sLawIsRight) (defBody sLawIsRight) (defScope sLawIsRight) .none kV18 dc18 pm18 an18 cd18 ct18), sl18⟩)
    (c18 : PySem.W.codeIn K cd18 "_law_is_right" = true)
    (k18 : PySem.W.keepIn K (.ref f18) = true)
    (a19 : PySem.W.nsIn K mainGlobals "_law_refused" = some (some (.ref f19)))
    (l19 : K.lookup f19 = some ⟨oc19, od19, .func (PySem.W.fnOf "_law_refused" "_law_refused" (defArgs sLawRefused) (defBody sLawRefused) (defScope sLawRefused) .none kV19 dc19 pm19 an19 cd19 ct19), sl19⟩)
    (c19 : PySem.W.codeIn K cd19 "_law_refused" = true)
    (k19 : PySem.W.keepIn K (.ref f19) = true)
    (a20 : PySem.W.findIn K (.ref C) "__init__" = some (some (.ref f20)))
    (i20 : PySem.W.isFn K (.ref f20) = true)
    (l20 : K.lookup f20 = some ⟨oc20, od20, .func (PySem.W.fnOf "__init__" "Web.__init__" (defArgs sWebInit) (defBody sWebInit) (defScope sWebInit) .none kV20 dc20 pm20 an20 cd20 ct20), sl20⟩)
    (c20 : PySem.W.codeIn K cd20 "Web.__init__" = true)
    (k20 : PySem.W.keepIn K (.ref f20) = true)
    (a21 : PySem.W.findIn K (.ref C) "_check_point" = some (some (.ref f21)))
    (i21 : PySem.W.isFn K (.ref f21) = true)
    (l21 : K.lookup f21 = some ⟨oc21, od21, .func (PySem.W.fnOf "_check_point" "Web._check_point" (defArgs sWebCheckPoint) (defBody sWebCheckPoint) (defScope sWebCheckPoint) .none kV21 dc21 pm21 an21 cd21 ct21), sl21⟩)
    (c21 : PySem.W.codeIn K cd21 "Web._check_point" = true)
    (k21 : PySem.W.keepIn K (.ref f21) = true)
    (a22 : PySem.W.findIn K (.ref C) "beside" = some (some (.ref f22)))
    (i22 : PySem.W.isFn K (.ref f22) = true)
    (l22 : K.lookup f22 = some ⟨oc22, od22, .func (PySem.W.fnOf "beside" "Web.beside" (defArgs sWebBeside) (defBody sWebBeside) (defScope sWebBeside) .none kV22 dc22 pm22 an22 cd22 ct22), sl22⟩)
    (c22 : PySem.W.codeIn K cd22 "Web.beside" = true)
    (k22 : PySem.W.keepIn K (.ref f22) = true)
    (aL : PySem.W.nsIn K mainGlobals "law" = some (some (.ref fL)))
    (lL : K.lookup fL = some ⟨ocL, odL, .func (PySem.W.fnOf "law" "law" (defArgs sLaw) (defBody sLaw) (defScope sLaw) .none kVL dcL pmL anL cdL ctL), slL⟩)
    (cL : PySem.W.codeIn K cdL "law" = true)
    (kL : PySem.W.keepIn K (.ref fL) = true)
    : ∃ fd : FuncData, (∀ (s : Shared) (v : Value), BindsTo s fd ⟨[v], []⟩ [("_law_script", v)]) ∧ ∀ base : Heap, K.In base → base.Ns mainGlobals mg → FnOk l.prog w K mg base L2.CX0 10 fa fd ["_law_script"] (spLaw K) := by
  have e := hfa.symm.trans (PySem.W.mg_of X G aL)
  cases e
  have T : WTxt K mg C := { cl := ⟨pg, hd, po, sa⟩, nMany := nM, nRows := nR, gWeb := PySem.W.mg_of X G aC, mostP := ⟨_, PySem.W.mg_of X G mP⟩, mostT := ⟨_, PySem.W.mg_of X G mT⟩, len := PySem.W.mg_none_of X G z_len, type := PySem.W.mg_none_of X G z_type, int := PySem.W.mg_none_of X G z_int, list := PySem.W.mg_none_of X G z_list, tuple := PySem.W.mg_none_of X G z_tuple, range := PySem.W.mg_none_of X G z_range, sorted := PySem.W.mg_none_of X G z_sorted, fNum := (fn_mk (ps := ["thing"]) X G a1 l1 c1 k1 fun _ _ _ _ _ _ us hl => match us, hl with | [_], _ => rfl), fPoint := (fn_mk (ps := ["many", "thing"]) X G a2 l2 c2 k2 fun _ _ _ _ _ _ us hl => match us, hl with | [_, _], _ => rfl), fTie := (fn_mk (ps := ["many", "thing"]) X G a3 l3 c3 k3 fun _ _ _ _ _ _ us hl => match us, hl with | [_, _], _ => rfl), fJoined := (fn_mk (ps := ["many", "ties"]) X G a4 l4 c4 k4 fun _ _ _ _ _ _ us hl => match us, hl with | [_, _], _ => rfl), fInit := (fnI_mk (ps := ["self", "many", "ties"]) mk a20 i20 kc l20 c20 k20 fun _ _ _ _ _ _ us hl => match us, hl with | [_, _, _], _ => rfl) }
  have U : TTxt K mg C := { all := PySem.W.mg_none_of X G z_all, enum := PySem.W.mg_none_of X G z_enum, fIsTurn := (fn_mk (ps := ["near", "turn"]) X G a5 l5 c5 k5 fun _ _ _ _ _ _ us hl => match us, hl with | [_, _], _ => rfl), fAre := (fn_mk (ps := ["web", "turns"]) X G a6 l6 c6 k6 fun _ _ _ _ _ _ us hl => match us, hl with | [_, _], _ => rfl), fC := (fnM_mk (ps := ["self", "thing"]) a21 i21 l21 c21 k21 fun _ _ _ _ _ _ us hl => match us, hl with | [_, _], _ => rfl), fB := (fnM_mk (ps := ["self", "point"]) a22 i22 l22 c22 k22 fun _ _ _ _ _ _ us hl => match us, hl with | [_, _], _ => rfl) }
  have L : LTxt K mg := { isi := PySem.W.mg_none_of X G z_isi, bool := PySem.W.mg_none_of X G z_bool, max := PySem.W.mg_none_of X G z_max, min := PySem.W.mg_none_of X G z_min, fCell := (fn_mk (ps := ["_law_script", "_law_k"]) X G a10 l10 c10 k10 fun _ _ _ _ _ _ us hl => match us, hl with | [_, _], _ => rfl), fWhole := (fn_mk (ps := ["_law_seen"]) X G a11 l11 c11 k11 fun _ _ _ _ _ _ us hl => match us, hl with | [_], _ => rfl), fMany := (fn_mk (ps := ["_law_script"]) X G a12 l12 c12 k12 fun _ _ _ _ _ _ us hl => match us, hl with | [_], _ => rfl) }
  have K5 : K5Txt K mg CN CP CF CT := { eT := ⟨PySem.W.mg_of X G aT, xT, kpT, sbT, tyT⟩, gN := PySem.W.mg_of X G aN, gP := PySem.W.mg_of X G aP, gF := PySem.W.mg_of X G aF, xT := PySem.W.exm_ref sbF hdF tyF sFT, cT := ⟨hgT, hkT, sbT, hdT, haT, hn, ht, hmT⟩, tn := qtn, tp := qtp, tt := qtt, tv := qtv, isi := PySem.W.mg_none_of X G z_isi, vE := PySem.W.mg_none_of X G z_vE, fWord := (fn_mk (ps := ["_law_e"]) X G a13 l13 c13 k13 fun _ _ _ _ _ _ us hl => match us, hl with | [_], _ => rfl) }
  have F5 : F5Txt K mg := { fCheckT := (fn_mk (ps := ["web", "turns"]) X G a7 l7 c7 k7 fun _ _ _ _ _ _ us hl => match us, hl with | [_, _], _ => rfl), fWalks := (fn_mk (ps := ["web", "turns"]) X G a8 l8 c8 k8 fun _ _ _ _ _ _ us hl => match us, hl with | [_, _], _ => rfl), fFlat := (fn_mk (ps := ["web", "turns"]) X G a9 l9 c9 k9 fun _ _ _ _ _ _ us hl => match us, hl with | [_, _], _ => rfl) }
  have N : N5Txt K mg := { fTies := (fn_mk (ps := ["_law_script", "_law_many_here"]) X G a14 l14 c14 k14 fun _ _ _ _ _ _ us hl => match us, hl with | [_, _], _ => rfl), fOrder := (fn_mk (ps := ["_law_cell", "_law_row"]) X G a15 l15 c15 k15 fun _ _ _ _ _ _ us hl => match us, hl with | [_, _], _ => rfl), fTurnsBy := (fn_mk (ps := ["_law_script", "_law_many_here", "_law_ties_here"]) X G a16 l16 c16 k16 fun _ _ _ _ _ _ us hl => match us, hl with | [_, _, _], _ => rfl), fSpoilt := (fn_mk (ps := ["_law_turns", "_law_cell", "_law_point"]) X G a17 l17 c17 k17 fun _ _ _ _ _ _ us hl => match us, hl with | [_, _, _], _ => rfl), fRight := (fn_mk (ps := ["_law_turns", "_law_thing"]) X G a18 l18 c18 k18 fun _ _ _ _ _ _ us hl => match us, hl with | [_, _], _ => rfl), fRefused := (fn_mk (ps := ["_law_web", "_law_thing", "_law_way"]) X G a19 l19 c19 k19 fun _ _ _ _ _ _ us hl => match us, hl with | [_, _, _], _ => rfl) }
  exact ⟨_, fun s v => .of_eq rfl, fun base _ _ => ok_law (fun_mk (st := sLaw) lL cL kL) T U L K5 F5 N⟩
theorem walk_law {l : PySem.W.OpenLaw} {q : Program} {loose : List Str} {XP : (Str → Option Value) → Heap → Prop} {YP : World → Heap → Prop} {d : DefRec} {K : Params → PySem.W.Frag} (hn : l.most = some 63) (hdf : d.params.defaults = [])
    (hY : ∀ (w : World) (h : Heap), YP w h → (K w.params).In h)
    (F : ∀ (w : World) (mg : Str → Option Value) (fa : Addr) (h : Heap), (K w.params).In h → h.Ns mainGlobals mg → mg d.name = some (.ref fa) →
      ∃ fd : FuncData, (∀ (s : Shared) (u : Value), BindsTo s fd ⟨[u], []⟩ [("_law_script", u)]) ∧ ∀ base : Heap, (K w.params).In base → base.Ns mainGlobals mg → FnOk l.prog w (K w.params) mg base L2.CX0 10 fa fd ["_law_script"] (spLaw (K w.params))) :
    PySem.W.WalkO q loose XP YP l.row.toRowW d [] (fun f vs => PySem.call f vs) :=
  L2.walk_of (n := 63) (k := 10) (x := "_law_script") (CX := fun _ => L2.CX0) (sp := fun w => spLaw (K w.params)) hn (by decide) hdf ⟨rfl, by decide, by decide⟩ hY F (fun _ _ a ns hl _ hS => ⟨a, ns, rfl, hS, fun _ => rfl⟩) fun _ _ _ _ _ z => z
end Fd
open PySem PySem.W PyProof.Rows
set_option maxRecDepth 100000 in
set_option maxHeartbeats 0 in
theorem PySem.Challenge.cw_flatdraw_k05_turns_looked_at_holds : PySem.Challenge.rw_flatdraw_k05_turns_looked_at.Holds := by
  w_on; o_law; k_head; (case hw => w_witness2)
  k_fill
  refine Fd.walk_law (l := PySem.Challenge.rw_flatdraw_k05_turns_looked_at) rfl rfl (fun w h Y => PySem.W.kIn_of Y) ?F
  case F =>
    intro w mg fa h KX G hmg
    refine' Fd.all_mk KX G hmg ?aC ?pg ?hd ?po ?sa ?mk ?kc ?nM ?nR ?mP ?mT ?z_len ?z_type ?z_int ?z_list ?z_tuple ?z_range ?z_sorted ?z_bool ?z_max ?z_min ?z_all ?z_isi ?z_enum ?z_vE ?aN ?aP ?aF ?aT ?xT ?kpT ?sbT ?tyT ?hgT ?hkT ?hdT ?haT ?hmT ?sFT ?hn ?ht ?sbF ?hdF ?tyF ?qtn ?qtp ?qtt ?qtv ?a1 ?l1 ?c1 ?k1 ?a2 ?l2 ?c2 ?k2 ?a3 ?l3 ?c3 ?k3 ?a4 ?l4 ?c4 ?k4 ?a5 ?l5 ?c5 ?k5 ?a6 ?l6 ?c6 ?k6 ?a7 ?l7 ?c7 ?k7 ?a8 ?l8 ?c8 ?k8 ?a9 ?l9 ?c9 ?k9 ?a10 ?l10 ?c10 ?k10 ?a11 ?l11 ?c11 ?k11 ?a12 ?l12 ?c12 ?k12 ?a13 ?l13 ?c13 ?k13 ?a14 ?l14 ?c14 ?k14 ?a15 ?l15 ?c15 ?k15 ?a16 ?l16 ?c16 ?k16 ?a17 ?l17 ?c17 ?k17 ?a18 ?l18 ?c18 ?k18 ?a19 ?l19 ?c19 ?k19 ?a20 ?i20 ?l20 ?c20 ?k20 ?a21 ?i21 ?l21 ?c21 ?k21 ?a22 ?i22 ?l22 ?c22 ?k22 ?aL ?lL ?cL ?kL
    (case aC => k_is)
    (case pg => k_is)
    (case hd => k_is)
    (case po => k_is)
    (case sa => k_is)
    (case mk => k_is)
    (case kc => k_is)
    (case nM => k_is)
    (case nR => k_is)
    (case mP => k_is)
    (case mT => k_is)
    (case z_len => k_is)
    (case z_type => k_is)
    (case z_int => k_is)
    (case z_list => k_is)
    (case z_tuple => k_is)
    (case z_range => k_is)
    (case z_sorted => k_is)
    (case z_bool => k_is)
    (case z_max => k_is)
    (case z_min => k_is)
    (case z_all => k_is)
    (case z_isi => k_is)
    (case z_enum => k_is)
    (case z_vE => k_is)
    (case aN => k_is)
    (case aP => k_is)
    (case aF => k_is)
    (case aT => k_is)
    (case xT => k_exc)
    (case kpT => k_is)
    (case sbT => k_is)
    (case tyT => k_is)
    (case hgT => k_is)
    (case hkT => k_is)
    (case hdT => k_is)
    (case haT => k_is)
    (case hmT => k_is)
    (case sFT => k_is)
    (case hn => k_is)
    (case ht => k_is)
    (case sbF => k_is)
    (case hdF => k_is)
    (case tyF => k_is)
    (case qtn => kit_is)
    (case qtp => kit_is)
    (case qtt => kit_is)
    (case qtv => kit_is)
    (case a1 => k_is)
    (case l1 => k_is)
    (case c1 => k_is)
    (case k1 => k_is)
    (case a2 => k_is)
    (case l2 => k_is)
    (case c2 => k_is)
    (case k2 => k_is)
    (case a3 => k_is)
    (case l3 => k_is)
    (case c3 => k_is)
    (case k3 => k_is)
    (case a4 => k_is)
    (case l4 => k_is)
    (case c4 => k_is)
    (case k4 => k_is)
    (case a5 => k_is)
    (case l5 => k_is)
    (case c5 => k_is)
    (case k5 => k_is)
    (case a6 => k_is)
    (case l6 => k_is)
    (case c6 => k_is)
    (case k6 => k_is)
    (case a7 => k_is)
    (case l7 => k_is)
    (case c7 => k_is)
    (case k7 => k_is)
    (case a8 => k_is)
    (case l8 => k_is)
    (case c8 => k_is)
    (case k8 => k_is)
    (case a9 => k_is)
    (case l9 => k_is)
    (case c9 => k_is)
    (case k9 => k_is)
    (case a10 => k_is)
    (case l10 => k_is)
    (case c10 => k_is)
    (case k10 => k_is)
    (case a11 => k_is)
    (case l11 => k_is)
    (case c11 => k_is)
    (case k11 => k_is)
    (case a12 => k_is)
    (case l12 => k_is)
    (case c12 => k_is)
    (case k12 => k_is)
    (case a13 => k_is)
    (case l13 => k_is)
    (case c13 => k_is)
    (case k13 => k_is)
    (case a14 => k_is)
    (case l14 => k_is)
    (case c14 => k_is)
    (case k14 => k_is)
    (case a15 => k_is)
    (case l15 => k_is)
    (case c15 => k_is)
    (case k15 => k_is)
    (case a16 => k_is)
    (case l16 => k_is)
    (case c16 => k_is)
    (case k16 => k_is)
    (case a17 => k_is)
    (case l17 => k_is)
    (case c17 => k_is)
    (case k17 => k_is)
    (case a18 => k_is)
    (case l18 => k_is)
    (case c18 => k_is)
    (case k18 => k_is)
    (case a19 => k_is)
    (case l19 => k_is)
    (case c19 => k_is)
    (case k19 => k_is)
    (case a20 => k_is)
    (case i20 => k_is)
    (case l20 => k_is)
    (case c20 => k_is)
    (case k20 => k_is)
    (case a21 => k_is)
    (case i21 => k_is)
    (case l21 => k_is)
    (case c21 => k_is)
    (case k21 => k_is)
    (case a22 => k_is)
    (case i22 => k_is)
    (case l22 => k_is)
    (case c22 => k_is)
    (case k22 => k_is)
    (case aL => k_is)
    (case lL => k_is)
    (case cL => k_is)
    (case kL => k_is)
