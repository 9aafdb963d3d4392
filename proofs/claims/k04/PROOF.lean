import PyProof.Rows.All
import Wide.All
import OpenK.AllK
import Wide.FinOn
import HandS.ForMost
import HandS.Deep
import HandS.IsInst
import HandS.More
import HandS.SortRule
import HandS.SortInts
import KE.DataMinMax
import PyProof.TypeEq
import HandS.Codes
import HandS.Defaults
import HandS.Conv
import HandS.Exc
import HandS.ExcOwn
import HandS.WordsExc
import HandS.HotCalls
import HandS.ExcIs
import HandS.TupSets
import PySem.Challenge.RW_flatdraw_k04_blocks
set_option Elab.async false
set_option linter.all false
set_option maxRecDepth 100000
namespace Fd
open PySem L2
/-! ### == and != of two built-in types -/
theorem slot_ty_ne : Slot "type" (cmpInfo .NotEq).2.1 "object.__ne__" :=
  Slot.of (n := "__ne__") (owner := "object") (by rw [typeLookup_type, builtinLookup_eq_fast]; kernel_rfl) (by decide +kernel) (by decide +kernel) (by decide +kernel) (by first | exact .inl (by decide +kernel) | exact .inr (by decide +kernel)) (by rw [isSubtype_type]; kernel_rfl)
theorem slot_ty_ne' : Slot "type" (cmpInfo .NotEq).2.2 "object.__ne__" := slot_ty_ne
section
variable {prog : Program} {w : World} {A : Around} {E : Value → Shared → Prop} {s : Shared}
theorem call_ne_ty {X Y : String} {Q : Value → Shared → Prop} (hX : ∀ s' : Shared, s'.TypeIs (.type X) "type")
    (h : Q (if (Value.type X == Value.type Y) = true then .bool false else .notImplemented) s) : wpAny (model prog w) A (call (.builtin "object.__ne__") [.type X, .type Y]) Q E s := by
  refine wpAny_call (codeAny_call_builtin slot_ty_ne.plain F.entry_object_ne (slot_ty_ne.check _ _ _ _ _ _ _ _ (hX s) (F.args_object_ne_2 _ _) ?_))
  unfold Builtin.«object.__ne__»
  have e1 : slotArgs "__ne__" 1 ⟨[Value.type X, Value.type Y], []⟩ = pure (Value.type X, [Value.type Y]) := by
    simp [slotArgs]
  rw [e1]
  simp only [pure_bind]
  refine wpAny_bind (wpAny_cRoomFor_or (.inl rfl) ?_)
  refine wpAny_bind (wpAny_callSpecialIfBound?_slot (name := (cmpInfo .Eq).2.1) (hX s) TypeEq.slot_type_eq ?_)
  by_cases hk : (Value.type X == Value.type Y) = true
  · rw [if_pos hk] at h
    refine call_gives TypeEq.slot_type_eq (hX s) F.entry_object_eq (F.args_object_eq_2 _ _) (TypeEq.object_eq_same rfl hk) ?_
    exact wpAny_bind (wpAny_truthy_bool (wpAny_pure h))
  · rw [if_neg hk] at h
    refine call_gives TypeEq.slot_type_eq (hX s) F.entry_object_eq (F.args_object_eq_2 _ _) (TypeEq.object_eq_other rfl (Bool.eq_false_iff.mpr hk)) ?_
    exact wpAny_pure h
theorem ne_ty {X Y : String} {Q : Value → Shared → Prop} (hX : ∀ s' : Shared, s'.TypeIs (.type X) "type") (hY : ∀ s' : Shared, s'.TypeIs (.type Y) "type")
    (h : Q (.bool (!decide (X = Y))) s) : wpAny (model prog w) A (compareOp .NotEq (.type X) (.type Y)) Q E s := by
  show wpAny (model prog w) A (richCompare CmpOp.NotEq (.type X) (.type Y)) Q E s
  by_cases e : X = Y
  · subst e
    refine wpAny_richCompare_same (T := "type") (hX s) (hX s) slot_ty_ne (call_ne_ty hX ?_)
    rw [if_pos (by simp)]
    rw [decide_eq_true rfl] at h
    exact ⟨(by intro z; cases z), h⟩
  · have k1 : (Value.type X == Value.type Y) = false := by simp [e]
    have k2 : (Value.type Y == Value.type X) = false := by simpa using fun z : Y = X => e z.symm
    rw [decide_eq_false e] at h
    rcases hi : cmpInfo CmpOp.NotEq with ⟨sym, f, r⟩
    have h1 := slot_ty_ne
    have h2 := slot_ty_ne'
    rw [hi] at h1 h2
    simp only [richCompare, hi, (hX s).oneThing_none]
    try with_reducible refine wpAny_holding ?_
    refine wpAny_bind (wpAny_cRoomFor_or (.inl rfl) ?_)
    refine wpAny_bind (wpAny_typeOf (hX s) (wpAny_bind (wpAny_typeOf (hY s) ?_)))
    simp only [if_true, if_false, bne_self_eq_false, Bool.not_false, Bool.false_eq_true, pure_bind]
    refine wpAny_bind (m := tryCompare (.type X) _ (.type Y)) (wpAny_tryCompare_declines (hX s) h1 (call_ne_ty hX ?_))
    rw [if_neg (by rw [k1]; exact Bool.false_ne_true)]
    refine ⟨rfl, ?_⟩
    refine wpAny_bind (m := tryCompare (.type Y) _ (.type X)) (wpAny_tryCompare_declines (hY s) h2 (call_ne_ty hY ?_))
    rw [if_neg (by rw [k2]; exact Bool.false_ne_true)]
    refine ⟨rfl, ?_⟩
    refine wpAny_bind (wpAny_rule (wpAny_bind (wpAny_of_eq (isSame_plain rfl) ?_)))
    rw [k1]
    exact wpAny_pure h
end
/-- the names of the built-in kinds that are compared -/
def kinds : List String := ["int", "str", "bool", "NoneType", "list", "tuple", "dict", "bytes"]
theorem meta_of {T : String} (h : T ∈ kinds) (s : Shared) : s.TypeIs (.type T) "type" := by
  simp only [kinds, List.mem_cons, List.not_mem_nil, or_false] at h
  rcases h with rfl | rfl | rfl | rfl | rfl | rfl | rfl | rfl
  · exact TypeEq.meta_int s
  · exact TypeEq.meta_str s
  · exact TypeEq.meta_bool s
  · exact TypeEq.meta_NoneType s
  · exact TypeEq.meta_list s
  · exact TypeEq.meta_tuple s
  · exact TypeEq.meta_dict s
  · exact TypeEq.meta_bytes s
theorem TyB_kind {K : PySem.W.Frag} {H : Hp} {x : V} {T : String} (h : TyB K H x T) : T ∈ kinds := by
  cases h <;> decide
def rEqTy : R2 := fun x y H Q => ∃ a b, x = .ty a ∧ y = .ty b ∧ a ∈ kinds ∧ b ∈ kinds ∧ Q (.bl (decide (a = b))) H
def rNeTy : R2 := fun x y H Q => ∃ a b, x = .ty a ∧ y = .ty b ∧ a ∈ kinds ∧ b ∈ kinds ∧ Q (.bl (!decide (a = b))) H
section
variable {X : Cx}
theorem op_eqTy : OpR X (compareOp .Eq) rEqTy := by
  intro pins s σ H x y v u Q I rx ry h
  obtain ⟨a, b, rfl, rfl, ha, hb, q⟩ := h
  cases rx
  cases ry
  by_cases e : a = b
  · subst e
    rw [decide_eq_true rfl] at q
    exact TypeEq.eq_type_same (meta_of ha) ⟨.bl true, H, I, rfl, q⟩
  · rw [decide_eq_false e] at q
    exact TypeEq.eq_type_other (meta_of ha) (meta_of hb) (by simp [e]) ⟨.bl false, H, I, rfl, q⟩
theorem op_neTy : OpR X (compareOp .NotEq) rNeTy := by
  intro pins s σ H x y v u Q I rx ry h
  obtain ⟨a, b, rfl, rfl, ha, hb, q⟩ := h
  cases rx
  cases ry
  exact ne_ty (meta_of ha) (meta_of hb) ⟨.bl _, H, I, rfl, q⟩
end
end Fd
namespace Fd
/-! ### plain lists -/
theorem strict_uniq {α : Type} {lt : α → α → Prop} (asym : ∀ a b, lt a b → ¬ lt b a) : ∀ {l1 l2 : List α}, l1.Pairwise lt → l2.Pairwise lt → (∀ x, x ∈ l1 ↔ x ∈ l2) → l1 = l2
  | [], [], _, _, _ => rfl
  | [], b :: l2, _, _, h => absurd ((h b).mpr List.mem_cons_self) (by simp)
  | a :: l1, [], _, _, h => absurd ((h a).mp List.mem_cons_self) (by simp)
  | a :: l1, b :: l2, h1, h2, h => by
    obtain ⟨p1, q1⟩ := List.pairwise_cons.mp h1
    obtain ⟨p2, q2⟩ := List.pairwise_cons.mp h2
    have e : a = b := by
      rcases List.mem_cons.mp ((h a).mp List.mem_cons_self) with e | ha
      · exact e
      · rcases List.mem_cons.mp ((h b).mpr List.mem_cons_self) with e | hb
        · exact e.symm
        · exact absurd (p1 b hb) (asym _ _ (p2 a ha))
    subst e
    have irr : ∀ x, lt a x → x ≠ a := fun x hx z => by
      subst z
      exact asym _ _ hx hx
    rw [strict_uniq asym q1 q2 fun x => ⟨fun hx => ?_, fun hx => ?_⟩]
    · rcases List.mem_cons.mp ((h x).mp (List.mem_cons_of_mem _ hx)) with e | hx'
      · exact absurd e (irr x (p1 x hx))
      · exact hx'
    · rcases List.mem_cons.mp ((h x).mpr (List.mem_cons_of_mem _ hx)) with e | hx'
      · exact absurd e (irr x (p2 x hx))
      · exact hx'
theorem strict_of_le {l : List Int} (h : l.Pairwise (· ≤ ·)) (n : l.Nodup) : l.Pairwise (· < ·) := by
  induction l with
  | nil => exact List.Pairwise.nil
  | cons a l ih =>
    obtain ⟨p, q⟩ := List.pairwise_cons.mp h
    obtain ⟨n1, n2⟩ := List.nodup_cons.mp n
    refine List.pairwise_cons.mpr ⟨fun b hb => ?_, ih q n2⟩
    have h1 := p b hb
    have h2 : a ≠ b := fun e => n1 (e ▸ hb)
    omega
theorem take_next {α : Type} : ∀ {l : List α} {i : Nat} {x : α}, l[i]? = some x → l.take (i + 1) = l.take i ++ [x]
  | [], i, x, h => by simp at h
  | a :: l, 0, x, h => by
    cases Option.some.inj h
    rfl
  | a :: l, i + 1, x, h => by
    rw [List.take_succ_cons, take_next (l := l) (i := i) (x := x) h]
    rfl
/-! ### points, ties, rows -/
abbrev Tie := Int × Int
def pts (m : Nat) : List Int := (List.range m).map fun n : Nat => (n : Int)
theorem mem_pts {m : Nat} {x : Int} : x ∈ pts m ↔ 0 ≤ x ∧ x < m := by
  unfold pts
  rw [List.mem_map]
  constructor
  · rintro ⟨n, hn, rfl⟩
    rw [List.mem_range] at hn
    omega
  · intro h
    exact ⟨x.toNat, List.mem_range.mpr (by omega), by omega⟩
theorem pts_strict (m : Nat) : (pts m).Pairwise (· < ·) := by
  unfold pts
  rw [List.pairwise_map]
  exact List.pairwise_lt_range.imp fun h => by omega
theorem pts_len (m : Nat) : (pts m).length = m := by simp [pts]
theorem pts_at {m i : Nat} (h : i < m) : (pts m)[i]? = some (i : Int) := by
  simp [pts, h]
theorem pts_succ (m : Nat) : pts (m + 1) = pts m ++ [(m : Int)] := by
  simp [pts, List.range_succ]
/-- a tie joins p and j -/
def Adj (ts : List Tie) (p j : Int) : Prop := (p, j) ∈ ts ∨ (j, p) ∈ ts
instance (ts : List Tie) (p j : Int) : Decidable (Adj ts p j) := by unfold Adj; exact inferInstance
theorem Adj.symm {ts : List Tie} {p j : Int} (h : Adj ts p j) : Adj ts j p := Or.symm h
structure Good (m : Nat) (ts : List Tie) : Prop where
  rng : ∀ t ∈ ts, 0 ≤ t.1 ∧ t.1 < m ∧ 0 ≤ t.2 ∧ t.2 < m ∧ t.1 ≠ t.2
  ap : ts.Pairwise fun t u => t ≠ u ∧ t ≠ (u.2, u.1)
theorem Good.nil (m : Nat) : Good m [] := ⟨fun _ h => by simp at h, List.Pairwise.nil⟩
theorem Good.snoc {m : Nat} {ts : List Tie} {t : Tie} (g : Good m ts) (h : 0 ≤ t.1 ∧ t.1 < m ∧ 0 ≤ t.2 ∧ t.2 < m ∧ t.1 ≠ t.2) (h1 : t ∉ ts) (h2 : (t.2, t.1) ∉ ts) : Good m (ts ++ [t]) := by
  refine ⟨fun u hu => ?_, List.pairwise_append.mpr ⟨g.ap, List.pairwise_singleton _ _, fun u hu v hv => ?_⟩⟩
  · rcases List.mem_append.mp hu with hu | hu
    · exact g.rng u hu
    · rw [List.mem_singleton.mp hu]
      exact h
  · rw [List.mem_singleton.mp hv]
    exact ⟨fun e => h1 (e ▸ hu), fun e => h2 (e ▸ hu)⟩
theorem Good.drop {m : Nat} {ts : List Tie} (g : Good m ts) (k : Nat) : Good m (ts.drop k) := ⟨fun t h => g.rng t (List.mem_of_mem_drop h), g.ap.sublist (List.drop_sublist k ts)⟩
theorem Good.take {m : Nat} {ts : List Tie} (g : Good m ts) (k : Nat) : Good m (ts.take k) := ⟨fun t h => g.rng t (List.mem_of_mem_take h), g.ap.sublist (List.take_sublist k ts)⟩
theorem Good.apart {m : Nat} {ts : List Tie} (g : Good m ts) {i : Nat} {t : Tie} (h : ts[i]? = some t) : t ∉ ts.take i ∧ (t.2, t.1) ∉ ts.take i := by
  have e := take_next h
  have g1 := (g.take (i + 1)).ap
  rw [e] at g1
  have q := (List.pairwise_append.mp g1).2.2
  refine ⟨fun hm => ?_, fun hm => ?_⟩
  · exact (q t hm t (by simp)).1 rfl
  · exact (q (t.2, t.1) hm t (by simp)).2 rfl
/-- what one tie puts beside p -/
def here (t : Tie) (p : Int) : List Int := (if t.1 = p then [t.2] else []) ++ (if t.2 = p then [t.1] else [])
def nb (ts : List Tie) (p : Int) : List Int := ts.flatMap fun t => here t p
theorem mem_here {t : Tie} {p j : Int} : j ∈ here t p ↔ t = (p, j) ∨ t = (j, p) := by
  obtain ⟨a, b⟩ := t
  unfold here
  by_cases h1 : a = p <;> by_cases h2 : b = p <;> simp [h1, h2] <;> constructor <;> intro h <;> simp_all
theorem mem_nb {ts : List Tie} {p j : Int} : j ∈ nb ts p ↔ Adj ts p j := by
  unfold nb Adj
  rw [List.mem_flatMap]
  constructor
  · rintro ⟨t, ht, hj⟩
    rcases mem_here.mp hj with e | e
    · exact .inl (e ▸ ht)
    · exact .inr (e ▸ ht)
  · rintro (h | h)
    · exact ⟨_, h, mem_here.mpr (.inl rfl)⟩
    · exact ⟨_, h, mem_here.mpr (.inr rfl)⟩
theorem nb_snoc (ts : List Tie) (t : Tie) (p : Int) : nb (ts ++ [t]) p = nb ts p ++ here t p := by
  unfold nb
  rw [List.flatMap_append]
  simp
theorem nb_nodup {m : Nat} : ∀ {ts : List Tie} (g : Good m ts) (p : Int), (nb ts p).Nodup
  | [], _, _ => by simp [nb]
  | t :: ts, g, p => by
    have g' : Good m ts := ⟨fun u h => g.rng u (List.mem_cons_of_mem _ h), (List.pairwise_cons.mp g.ap).2⟩
    have ih := nb_nodup g' p
    have hne := (g.rng t List.mem_cons_self).2.2.2.2
    have e : nb (t :: ts) p = here t p ++ nb ts p := by simp [nb]
    rw [e]
    refine List.nodup_append.mpr ⟨?_, ih, fun x hx y hy z => ?_⟩
    · obtain ⟨a, b⟩ := t
      unfold here
      by_cases h1 : a = p <;> by_cases h2 : b = p <;> simp [h1, h2]
      exact hne (h1.trans h2.symm)
    · subst z
      have q := (List.pairwise_cons.mp g.ap).1
      rcases mem_here.mp hx with e1 | e1 <;> rcases mem_nb.mp hy with e2 | e2
      · exact (q _ e2).1 e1
      · exact (q _ e2).2 e1
      · exact (q _ e2).2 e1
      · exact (q _ e2).1 e1
/-- the points beside p, rising -/
def rowOf (m : Nat) (ts : List Tie) (p : Int) : List Int := (pts m).filter fun j => decide (Adj ts p j)
theorem mem_rowOf {m : Nat} {ts : List Tie} (g : Good m ts) {p j : Int} : j ∈ rowOf m ts p ↔ Adj ts p j := by
  unfold rowOf
  rw [List.mem_filter, decide_eq_true_iff, mem_pts]
  refine ⟨fun h => h.2, fun h => ⟨?_, h⟩⟩
  rcases h with h | h
  · have := g.rng _ h
    exact ⟨this.2.2.1, this.2.2.2.1⟩
  · have := g.rng _ h
    exact ⟨this.1, this.2.1⟩
theorem rowOf_strict (m : Nat) (ts : List Tie) (p : Int) : (rowOf m ts p).Pairwise (· < ·) := (pts_strict m).filter _
theorem rowOf_len (m : Nat) (ts : List Tie) (p : Int) : (rowOf m ts p).length ≤ m := by
  have h := List.length_filter_le (fun j => decide (Adj ts p j)) (pts m)
  rw [pts_len] at h
  exact h
theorem row_sorted {m : Nat} {ts : List Tie} (g : Good m ts) {p : Int} {ns : List Int} (hp : ns.Perm (nb ts p)) (hs : ns.Pairwise (· ≤ ·)) : ns = rowOf m ts p := by
  refine strict_uniq (lt := fun a b : Int => a < b) (fun a b h => by omega) (strict_of_le hs (hp.nodup_iff.mpr (nb_nodup g p))) (rowOf_strict m ts p) fun x => ?_
  rw [hp.mem_iff, mem_nb, mem_rowOf g]
def rowsOf (m : Nat) (ts : List Tie) : List (List Int) := (pts m).map (rowOf m ts)
theorem rowsOf_len (m : Nat) (ts : List Tie) : (rowsOf m ts).length = m := by simp [rowsOf, pts_len]
theorem rowsOf_at {m : Nat} {ts : List Tie} {i : Nat} (h : i < m) : (rowsOf m ts)[i]? = some (rowOf m ts i) := by
  unfold rowsOf
  rw [List.getElem?_map, pts_at h]
  rfl
/-! ### the ties told -/
def pickT (m : Nat) (ts : List Tie) (i : Int) : List Tie := ((rowOf m ts i).filter fun j => decide (i < j)).map fun j => (i, j)
def toldT (m : Nat) (ts : List Tie) : List Tie := (pts m).flatMap (pickT m ts)
def lexT (a b : Tie) : Prop := a.1 < b.1 ∨ (a.1 = b.1 ∧ a.2 < b.2)
theorem mem_pickT {m : Nat} {ts : List Tie} (g : Good m ts) {i : Int} {t : Tie} : t ∈ pickT m ts i ↔ t.1 = i ∧ t.1 < t.2 ∧ Adj ts t.1 t.2 := by
  unfold pickT
  rw [List.mem_map]
  constructor
  · rintro ⟨j, hj, rfl⟩
    rw [List.mem_filter, decide_eq_true_iff, mem_rowOf g] at hj
    exact ⟨rfl, hj.2, hj.1⟩
  · rintro ⟨rfl, h1, h2⟩
    exact ⟨t.2, by rw [List.mem_filter, decide_eq_true_iff, mem_rowOf g]; exact ⟨h2, h1⟩, rfl⟩
theorem mem_toldT {m : Nat} {ts : List Tie} (g : Good m ts) {t : Tie} : t ∈ toldT m ts ↔ t.1 < t.2 ∧ Adj ts t.1 t.2 := by
  unfold toldT
  rw [List.mem_flatMap]
  constructor
  · rintro ⟨i, _, h⟩
    exact ((mem_pickT g).mp h).2
  · intro h
    refine ⟨t.1, ?_, (mem_pickT g).mpr ⟨rfl, h⟩⟩
    rw [mem_pts]
    rcases h.2 with k | k
    · have := g.rng _ k
      exact ⟨this.1, this.2.1⟩
    · have := g.rng _ k
      exact ⟨this.2.2.1, this.2.2.2.1⟩
theorem toldT_strict {m : Nat} {ts : List Tie} (g : Good m ts) : (toldT m ts).Pairwise lexT := by
  unfold toldT
  rw [List.pairwise_flatMap]
  refine ⟨fun i _ => ?_, (pts_strict m).imp fun {i k} hik x hx y hy => ?_⟩
  · unfold pickT
    rw [List.pairwise_map]
    exact ((rowOf_strict m ts i).filter _).imp fun h => .inr ⟨rfl, h⟩
  · have h1 := ((mem_pickT g).mp hx).1
    have h2 := ((mem_pickT g).mp hy).1
    exact .inl (by omega)
def norm (t : Tie) : Tie := (min t.1 t.2, max t.1 t.2)
theorem norm_cases (t : Tie) : norm t = t ∨ norm t = (t.2, t.1) := by
  unfold norm
  obtain ⟨a, b⟩ := t
  by_cases h : a ≤ b
  · left
    show (min a b, max a b) = (a, b)
    rw [Int.min_eq_left h, Int.max_eq_right h]
  · right
    show (min a b, max a b) = (b, a)
    rw [Int.min_eq_right (by omega), Int.max_eq_left (by omega)]
theorem mem_norm {m : Nat} {ts : List Tie} (g : Good m ts) {t : Tie} : t ∈ ts.map norm ↔ t.1 < t.2 ∧ Adj ts t.1 t.2 := by
  rw [List.mem_map]
  constructor
  · rintro ⟨u, hu, rfl⟩
    have hne := (g.rng u hu).2.2.2.2
    obtain ⟨a, b⟩ := u
    refine ⟨?_, ?_⟩
    · show min a b < max a b
      have : a ≠ b := hne
      omega
    · rcases norm_cases (a, b) with e | e
      · rw [e]
        exact .inl hu
      · rw [e]
        exact .inr hu
  · rintro ⟨h1, h2⟩
    obtain ⟨a, b⟩ := t
    have h1 : a < b := h1
    rcases h2 with h2 | h2
    · refine ⟨_, h2, ?_⟩
      show (min a b, max a b) = (a, b)
      rw [Int.min_eq_left (by omega), Int.max_eq_right (by omega)]
    · refine ⟨_, h2, ?_⟩
      show (min b a, max b a) = (a, b)
      rw [Int.min_eq_right (by omega), Int.max_eq_left (by omega)]
theorem norm_nodup {m : Nat} : ∀ {ts : List Tie} (g : Good m ts), (ts.map norm).Nodup
  | [], _ => by simp
  | t :: ts, g => by
    have g' : Good m ts := ⟨fun u h => g.rng u (List.mem_cons_of_mem _ h), (List.pairwise_cons.mp g.ap).2⟩
    rw [List.map_cons, List.nodup_cons]
    refine ⟨fun h => ?_, norm_nodup g'⟩
    obtain ⟨u, hu, e⟩ := List.mem_map.mp h
    have q := (List.pairwise_cons.mp g.ap).1 u hu
    rcases norm_cases u with e1 | e1 <;> rcases norm_cases t with e2 | e2 <;> rw [e1, e2] at e
    · exact q.1 e.symm
    · exact q.2 (by rw [e])
    · exact q.2 e.symm
    · exact q.1 (by
        obtain ⟨a, b⟩ := t
        obtain ⟨c, d⟩ := u
        simp only [Prod.mk.injEq] at e ⊢
        exact ⟨e.2.symm, e.1.symm⟩)
theorem told_sorted {m : Nat} {ts ys : List Tie} (g : Good m ts) (hp : ys.Perm (ts.map norm)) (hs : ys.Pairwise fun a b => ¬ lexT b a) : ys = toldT m ts := by
  have nd : ys.Nodup := hp.nodup_iff.mpr (norm_nodup g)
  refine strict_uniq (lt := lexT) (fun a b h k => ?_) ?_ (toldT_strict g) fun x => ?_
  · unfold lexT at h k
    omega
  · have both := List.Pairwise.and hs nd
    refine both.imp fun {a b} h => ?_
    obtain ⟨h1, h2⟩ := h
    unfold lexT at h1 ⊢
    by_cases e1 : a.1 = b.1
    · by_cases e2 : a.2 = b.2
      · exact absurd (Prod.ext e1 e2) h2
      · omega
    · omega
  · rw [hp.mem_iff, mem_norm g, mem_toldT g]
theorem toldT_len {m : Nat} {ts : List Tie} (g : Good m ts) : (toldT m ts).length = ts.length := by
  have h1 : (toldT m ts).Nodup := (toldT_strict g).imp fun {a b} h e => by
    subst e
    unfold lexT at h
    omega
  have hp : (toldT m ts).Perm (ts.map norm) := (List.perm_ext_iff_of_nodup h1 (norm_nodup g)).mpr fun x => by rw [mem_norm g, mem_toldT g]
  have e := hp.length_eq
  rw [List.length_map] at e
  exact e
end Fd
namespace Fd
open PySem L2
/-! ### min and max of a pair of iL -/
def rPr (f : Int → Int → Int) (K : PySem.W.Frag) : List V → Hp → VK → Prop := fun vs H Q => ∃ (a : Addr) (i j : Int), vs = [V.ref a] ∧ SqT K H a [.int i, .int j] ∧ Q (.int (f i j)) H
section
variable {X : Cx}
theorem alike2 (i j : Int) : PySem.W.AlikeAll [PyData.int i, PyData.int j] := by
  refine ⟨fun x hx y hy => ?_, fun x hx => ?_⟩
  · simp only [List.mem_cons, List.not_mem_nil, or_false] at hx hy
    rcases hx with rfl | rfl <;> rcases hy with rfl | rfl <;> rfl
  · simp only [List.mem_cons, List.not_mem_nil, or_false] at hx
    rcases hx with rfl | rfl <;> intro z <;> cases z
theorem cr_minPr (hc : X.calm = true) (hu : X.A.units + 64 < cLine) : CallR X (.builtin "min") (rPr min X.K) := by
  intro pins s σ H vs us Q I r h
  obtain ⟨a, i, j, rfl, hT, q⟩ := h
  obtain ⟨its, rv, ⟨o, ho, hcl, n, hd⟩, _⟩ := I.tuple hT
  rw [Vals.ref1 r]
  obtain ⟨u1, u2, rfl, ri, rj⟩ := vals2 rv
  obtain ⟨t1, rfl⟩ := ri
  obtain ⟨t2, rfl⟩ := rj
  refine PySem.W.min_tuple_data (x := .int i) (xs := [.int j]) (I.ok.hd hc) ⟨o, ho, hcl, n, hd⟩ (.cons (.int i t1) (.cons (.int j t2) .nil)) (alike2 i j) ?_ fun k v h' tk bs hk hr keep => ?_
  · simp only [PyData.depthAll, PyData.depth]
    omega
  · rw [show PySem.W.minD (PyData.int i) [PyData.int j] = PyData.int (min i j) from PySem.W.minD_ints i [j]] at hr
    cases hr
    exact ⟨.int (min i j), H, I.kept keep, ⟨_, rfl⟩, q⟩
theorem cr_maxPr (hc : X.calm = true) (hu : X.A.units + 64 < cLine) : CallR X (.builtin "max") (rPr max X.K) := by
  intro pins s σ H vs us Q I r h
  obtain ⟨a, i, j, rfl, hT, q⟩ := h
  obtain ⟨its, rv, ⟨o, ho, hcl, n, hd⟩, _⟩ := I.tuple hT
  rw [Vals.ref1 r]
  obtain ⟨u1, u2, rfl, ri, rj⟩ := vals2 rv
  obtain ⟨t1, rfl⟩ := ri
  obtain ⟨t2, rfl⟩ := rj
  refine PySem.W.max_tuple_data (x := .int i) (xs := [.int j]) (I.ok.hd hc) ⟨o, ho, hcl, n, hd⟩ (.cons (.int i t1) (.cons (.int j t2) .nil)) (alike2 i j) ?_ fun k v h' tk bs hk hr keep => ?_
  · simp only [PyData.depthAll, PyData.depth]
    omega
  · rw [show PySem.W.maxD (PyData.int i) [PyData.int j] = PyData.int (max i j) from PySem.W.maxD_ints i [j]] at hr
    cases hr
    exact ⟨.int (max i j), H, I.kept keep, ⟨_, rfl⟩, q⟩
end
/-! ### pairs and lists of pairs in the heap -/
abbrev iL (xs : List Int) : List V := xs.map V.int
def PairAt (H : Hp) (v : V) (t : Tie) : Prop := ∃ a, v = .ref a ∧ H a = some (.tup [.int t.1, .int t.2])
abbrev PairsAt (H : Hp) (vs : List V) (ts : List Tie) : Prop := Paired (PairAt H) vs ts
theorem PairAt.same {H H' : Hp} (s : Same H H') {v : V} {t : Tie} (h : PairAt H v t) : PairAt H' v t := by
  obtain ⟨a, e, k⟩ := h
  exact ⟨a, e, s _ _ k⟩
theorem PairsAt.same {H H' : Hp} (s : Same H H') {vs : List V} {ts : List Tie} (h : PairsAt H vs ts) : PairsAt H' vs ts := Paired.mono (fun _ _ => PairAt.same s) h
theorem paired_get {α β : Type} {F : α → β → Prop} : ∀ {xs : List α} {ys : List β}, Paired F xs ys → ∀ {i : Nat} {x : α}, xs[i]? = some x → ∃ y, ys[i]? = some y ∧ F x y
  | _, _, .nil, i, x, h => by simp at h
  | _, _, .cons r t, 0, x, h => by
    cases Option.some.inj h
    exact ⟨_, rfl, r⟩
  | _, _, .cons r t, i + 1, x, h => paired_get t (i := i) (by simpa using h)
theorem paired_get' {α β : Type} {F : α → β → Prop} : ∀ {xs : List α} {ys : List β}, Paired F xs ys → ∀ {i : Nat} {y : β}, ys[i]? = some y → ∃ x, xs[i]? = some x ∧ F x y
  | _, _, .nil, i, x, h => by simp at h
  | _, _, .cons r t, 0, x, h => by
    cases Option.some.inj h
    exact ⟨_, rfl, r⟩
  | _, _, .cons r t, i + 1, x, h => paired_get' t (i := i) (by simpa using h)
theorem paired_drop {α β : Type} {F : α → β → Prop} : ∀ {xs : List α} {ys : List β}, Paired F xs ys → ∀ k, Paired F (xs.drop k) (ys.drop k)
  | _, _, h, 0 => h
  | _, _, .nil, _ + 1 => .nil
  | _, _, .cons _ t, k + 1 => paired_drop t k
theorem paired_take {α β : Type} {F : α → β → Prop} : ∀ {xs : List α} {ys : List β}, Paired F xs ys → ∀ k, Paired F (xs.take k) (ys.take k)
  | _, _, h, 0 => .nil
  | _, _, .nil, _ + 1 => .nil
  | _, _, .cons r t, k + 1 => .cons r (paired_take t k)
def prd (t : Tie) : PyData := .tuple [.int t.1, .int t.2]
theorem prd_lay (t : Tie) : (prd t).canLay0 = true := by simp [prd, PyData.canLay0, PyData.canLayAll0]
theorem prd_depth (t : Tie) : (prd t).depth = 1 := by simp [prd, PyData.depth, PyData.depthAll]
theorem prds_lay : ∀ ts : List Tie, PyData.canLayAll0 (ts.map prd) = true
  | [] => by simp [PyData.canLayAll0]
  | t :: ts => by simp [PyData.canLayAll0, prd_lay t, prds_lay ts]
theorem prds_depth : ∀ ts : List Tie, PyData.depthAll (ts.map prd) ≤ 1
  | [] => by simp [PyData.depthAll]
  | t :: ts => by
    have h1 := prds_depth ts
    have h2 := prd_depth t
    simp only [List.map_cons, PyData.depthAll]
    omega
theorem shaped_by {d : PyData} (h1 : d.canLay0 = true) (h2 : d.depth ≤ 64) : SeqAt.shaped d = true := by
  unfold SeqAt.shaped
  rw [h1, decide_eq_true h2, Bool.and_self]
theorem prd_shaped (t : Tie) : SeqAt.shaped (prd t) = true := shaped_by (prd_lay t) (by rw [prd_depth]; decide)
theorem prds_shaped (ts : List Tie) : SeqAt.shaped (.list (ts.map prd)) = true := by
  have h := prds_depth ts
  refine shaped_by (by simp only [PyData.canLay0]; exact prds_lay ts) ?_
  simp only [PyData.depth]
  omega
theorem prd_eqv (t u : Tie) : PyData.eqv (prd t) (prd u) = decide (t = u) := by
  obtain ⟨a, b⟩ := t
  obtain ⟨c, d⟩ := u
  simp only [prd, PyData.eqv, PyData.eqvAll, Bool.and_true]
  rw [Bool.eq_iff_iff]
  simp
theorem prds_any (ts : List Tie) (t : Tie) : ((ts.map prd).any fun z => PyData.eqv z (prd t)) = decide (t ∈ ts) := by
  rw [List.any_map, Bool.eq_iff_iff, List.any_eq_true, decide_eq_true_iff]
  constructor
  · rintro ⟨u, hu, e⟩
    have e : PyData.eqv (prd u) (prd t) = true := e
    rw [prd_eqv, decide_eq_true_iff] at e
    exact e ▸ hu
  · intro h
    exact ⟨t, h, by show PyData.eqv (prd t) (prd t) = true; rw [prd_eqv]; exact decide_eq_true rfl⟩
theorem prds_refl (ts : List Tie) : PyData.eqv (.list (ts.map prd)) (.list (ts.map prd)) = true := SeqAt.eqv_refl _ (SeqAt.canLay_of_shaped (prds_shaped ts))
theorem dp_pair {K : PySem.W.Frag} {H : Hp} {v : V} {t : Tie} (h : PairAt H v t) : Dp K H v (prd t) := by
  obtain ⟨a, rfl, k⟩ := h
  exact .tup (SqT.of k) (.cons (.int _) (.cons (.int _) .nil))
theorem dp_all {K : PySem.W.Frag} {H : Hp} : ∀ {vs : List V} {ts : List Tie}, PairsAt H vs ts → DpAll K H vs (ts.map prd)
  | _, _, .nil => .nil
  | _, _, .cons r t => .cons (dp_pair r) (dp_all t)
theorem dp_pairs {K : PySem.W.Frag} {H : Hp} {a : Addr} {vs : List V} {ts : List Tie} (h : SqL K H a vs) (k : PairsAt H vs ts) : Dp K H (.ref a) (.list (ts.map prd)) := .lst h (dp_all k)
theorem dpi_all {K : PySem.W.Frag} {H : Hp} : ∀ xs : List Int, DpAll K H (iL xs) (xs.map PyData.int)
  | [] => .nil
  | x :: xs => .cons (.int x) (dpi_all xs)
theorem dp_ints {K : PySem.W.Frag} {H : Hp} {a : Addr} {xs : List Int} (h : SqL K H a (iL xs)) : Dp K H (.ref a) (.list (xs.map PyData.int)) := .lst h (dpi_all xs)
theorem inl_lay : ∀ xs : List Int, PyData.canLayAll0 (xs.map PyData.int) = true
  | [] => by simp [PyData.canLayAll0]
  | t :: ts => by simp [PyData.canLayAll0, PyData.canLay0, inl_lay ts]
theorem inl_depth : ∀ xs : List Int, PyData.depthAll (xs.map PyData.int) = 0
  | [] => by simp [PyData.depthAll]
  | t :: ts => by simp [PyData.depthAll, PyData.depth, inl_depth ts]
theorem inl_shaped (xs : List Int) : SeqAt.shaped (.list (xs.map PyData.int)) = true := by
  have h := inl_depth xs
  refine shaped_by (by simp only [PyData.canLay0]; exact inl_lay xs) ?_
  simp only [PyData.depth]
  omega
theorem inl_refl (xs : List Int) : PyData.eqv (.list (xs.map PyData.int)) (.list (xs.map PyData.int)) = true := SeqAt.eqv_refl _ (SeqAt.canLay_of_shaped (inl_shaped xs))
theorem inV_ints (xs : List Int) (x : Int) : inV (.int x) (iL xs) = decide (x ∈ xs) := by
  unfold inV iL
  rw [List.any_map, Bool.eq_iff_iff, List.any_eq_true, decide_eq_true_iff]
  constructor
  · rintro ⟨u, hu, e⟩
    have e : (u == x) = true := e
    rw [beq_iff_eq] at e
    exact e ▸ hu
  · intro h
    exact ⟨x, h, beq_self_eq_true x⟩
theorem flat_ints (xs : List Int) : (iL xs).all flatV = true := by
  rw [List.all_eq_true]
  intro v hv
  obtain ⟨x, _, rfl⟩ := List.mem_map.mp hv
  rfl
theorem iL_at {xs : List Int} {i : Nat} {y : V} (h : (iL xs)[i]? = some y) : ∃ z, xs[i]? = some z ∧ y = V.int z := by
  rw [List.getElem?_map] at h
  cases e : xs[i]? with
  | none =>
    rw [e] at h
    cases h
  | some z =>
    rw [e] at h
    exact ⟨z, rfl, (Option.some.inj h).symm⟩
theorem iL_get {xs : List Int} {i : Nat} {z : Int} (h : xs[i]? = some z) : (iL xs)[i]? = some (.int z) := by
  rw [List.getElem?_map, h]
  rfl
/-! ### heaps -/
theorem Same.put {H : Hp} {p : Addr} {o : HO} (h : H p = none) : Same H (upd H p o) := fun b u e => by
  rw [upd_ne (ne_of_none e h)]
  exact e
theorem Same.step {H H1 : Hp} {p : Addr} {o : HO} (s : Same H H1) (h : H1 p = none) : Same H (upd H1 p o) := s.trans (Same.put h)
/-- a list that was new behind H is written -/
theorem Same.write {H H1 : Hp} {p : Addr} {o : HO} (s : Same H H1) (h : H p = none) : Same H (upd H1 p o) := fun b u e => by
  rw [upd_ne (ne_of_none e h)]
  exact s _ _ e
theorem small {n : Nat} (h : n ≤ 1000) : n < sizeLine := Nat.lt_of_le_of_lt h (by decide)
theorem smalle {n : Nat} (h : n ≤ 1000) : n ≤ sizeLine := Nat.le_of_lt (small h)
/-! ### rows: a list of lists of iL, all new behind H0, all apart -/
structure RowsAt (H0 H : Hp) (R : Addr) (as : List Addr) (rss : List (List Int)) : Prop where
  top : H R = some (.lst (as.map V.ref))
  new : H0 R = none
  len : as.length = rss.length
  nd : as.Nodup
  out : R ∉ as
  row : ∀ (i : Nat) (a : Addr) (r : List Int), as[i]? = some a → rss[i]? = some r → H0 a = none ∧ H a = some (.lst (iL r))
theorem RowsAt.get {H0 H : Hp} {R : Addr} {as : List Addr} {rss : List (List Int)} (h : RowsAt H0 H R as rss) {i : Nat} {r : List Int} (e : rss[i]? = some r) : ∃ a, as[i]? = some a ∧ (as.map V.ref)[i]? = some (.ref a) ∧ H0 a = none ∧ H a = some (.lst (iL r)) := by
  have hi : i < as.length := by
    rw [h.len]
    exact (List.getElem?_eq_some_iff.mp e).1
  have ea : as[i]? = some as[i] := List.getElem?_eq_getElem hi
  obtain ⟨k1, k2⟩ := h.row i _ r ea e
  refine ⟨as[i], ea, ?_, k1, k2⟩
  rw [List.getElem?_map, ea]
  rfl
theorem RowsAt.same {H0 H H' : Hp} {R : Addr} {as : List Addr} {rss : List (List Int)} (h : RowsAt H0 H R as rss) (s : Same H H') : RowsAt H0 H' R as rss :=
  ⟨s _ _ h.top, h.new, h.len, h.nd, h.out, fun i a r e1 e2 => ⟨(h.row i a r e1 e2).1, s _ _ (h.row i a r e1 e2).2⟩⟩
/-- what stood ahead may change -/
theorem RowsAt.apart {H0 H H' : Hp} {R : Addr} {as : List Addr} {rss : List (List Int)} (h : RowsAt H0 H R as rss) (s : ∀ b o, H b = some o → H0 b = none → H' b = some o) : RowsAt H0 H' R as rss :=
  ⟨s _ _ h.top h.new, h.new, h.len, h.nd, h.out, fun i a r e1 e2 => ⟨(h.row i a r e1 e2).1, s _ _ (h.row i a r e1 e2).2 (h.row i a r e1 e2).1⟩⟩
theorem RowsAt.older {H0 H1 H : Hp} {R : Addr} {as : List Addr} {rss : List (List Int)} (h : RowsAt H1 H R as rss) (s : Same H0 H1) : RowsAt H0 H R as rss :=
  ⟨h.top, s.free h.new, h.len, h.nd, h.out, fun i a r e1 e2 => ⟨s.free (h.row i a r e1 e2).1, (h.row i a r e1 e2).2⟩⟩
/-- a row more -/
theorem RowsAt.more {H0 H : Hp} {R p : Addr} {as : List Addr} {rss : List (List Int)} {r : List Int} (h : RowsAt H0 H R as rss) (s : Same H0 H) (hp : H p = none) :
    RowsAt H0 (upd (upd H p (.lst (iL r))) R (.lst (as.map V.ref ++ [.ref p]))) R (as ++ [p]) (rss ++ [r]) := by
  have pR : R ≠ p := ne_of_none h.top hp
  have pas : p ∉ as := fun hm => by
    obtain ⟨i, hi, e⟩ := List.getElem_of_mem hm
    have e' : as[i]? = some p := by rw [List.getElem?_eq_getElem hi, e]
    have hi2 : i < rss.length := by rw [← h.len]; exact hi
    have q := (h.row i p rss[i] e' (List.getElem?_eq_getElem hi2)).2
    rw [hp] at q
    cases q
  refine ⟨by rw [upd_same, List.map_append]; rfl, h.new, by simp [h.len], List.nodup_append.mpr ⟨h.nd, by simp, fun x hx y hy e => ?_⟩, fun hm => ?_, fun i a r' e1 e2 => ?_⟩
  · rw [List.mem_singleton.mp hy] at e
    exact pas (e ▸ hx)
  · rcases List.mem_append.mp hm with k | k
    · exact h.out k
    · exact pR (List.mem_singleton.mp k)
  · by_cases hi : i < as.length
    · rw [List.getElem?_append_left hi] at e1
      rw [List.getElem?_append_left (by rw [← h.len]; exact hi)] at e2
      obtain ⟨k1, k2⟩ := h.row i a r' e1 e2
      have aR : a ≠ R := fun e => h.out (e ▸ List.mem_of_getElem? e1)
      have ap : a ≠ p := ne_of_none k2 hp
      exact ⟨k1, by rw [upd_ne aR, upd_ne ap]; exact k2⟩
    · have hi' : as.length ≤ i := Nat.le_of_not_lt hi
      rw [List.getElem?_append_right hi'] at e1
      rw [List.getElem?_append_right (by rw [← h.len]; exact hi')] at e2
      obtain ⟨e1a, e1b⟩ := List.getElem?_eq_some_iff.mp e1
      obtain ⟨e2a, e2b⟩ := List.getElem?_eq_some_iff.mp e2
      simp only [List.getElem_singleton] at e1b e2b
      subst e1b
      subst e2b
      exact ⟨s.free hp, by rw [upd_ne pR.symm, upd_same]⟩
/-- a row is written -/
theorem RowsAt.write {H0 H : Hp} {R a : Addr} {as : List Addr} {rss : List (List Int)} {i : Nat} {r : List Int} (h : RowsAt H0 H R as rss) (e : as[i]? = some a) : RowsAt H0 (upd H a (.lst (iL r))) R as (rss.set i r) := by
  have aR : R ≠ a := fun z => h.out (z ▸ List.mem_of_getElem? e)
  refine ⟨by rw [upd_ne aR]; exact h.top, h.new, by rw [h.len, List.length_set], h.nd, h.out, fun j b r' e1 e2 => ?_⟩
  by_cases hj : i = j
  · subst hj
    have eb : a = b := Option.some.inj (e.symm.trans e1)
    subst eb
    have hi : i < rss.length := by
      rw [← h.len]
      exact (List.getElem?_eq_some_iff.mp e).1
    rw [List.getElem?_set_self hi] at e2
    cases Option.some.inj e2
    exact ⟨(h.row i a rss[i] e (List.getElem?_eq_getElem hi)).1, upd_same⟩
  · rw [List.getElem?_set_ne hj] at e2
    have ab : b ≠ a := fun z => hj (nd_ix h.nd e (z ▸ e1))
    obtain ⟨k1, k2⟩ := h.row j b r' e1 e2
    exact ⟨k1, by rw [upd_ne ab]; exact k2⟩
theorem RowsAt.sameW {H0 H : Hp} {R a : Addr} {as : List Addr} {rss : List (List Int)} {i : Nat} {o : HO} (h : RowsAt H0 H R as rss) (s : Same H0 H) (e : as[i]? = some a) : Same H0 (upd H a o) := by
  have hi : i < rss.length := by
    rw [← h.len]
    exact (List.getElem?_eq_some_iff.mp e).1
  exact Same.write s (h.row i a rss[i] e (List.getElem?_eq_getElem hi)).1
end Fd
namespace Fd
open PySem PySem.Spec PyProof.Rows L2
/-! ### defs as they stand behind the top -/
structure Fn (K : PySem.W.Frag) (mg : Str → Option Value) (x : Str) (st : Stmt) (ps : List Str) : Prop where
  ex : ∃ (f : Addr) (fd : FuncData), L2.Fun K x x st f fd ∧ mg x = some (.ref f) ∧ Binds K fd ps []
structure FnM (K : PySem.W.Frag) (C : Addr) (m qual : Str) (st : Stmt) (ps : List Str) : Prop where
  ex : ∃ (f : Addr) (fd : FuncData), L2.Fun K m qual st f fd ∧ Meth K C m f ∧ Binds K fd ps []
structure FnI (K : PySem.W.Frag) (C : Addr) (qual : Str) (st : Stmt) (ps : List Str) : Prop where
  ex : ∃ (f : Addr) (fd : FuncData), L2.Fun K "__init__" qual st f fd ∧ Mk K C f ∧ Binds K fd ps []
section
variable {P : Program} {w : World} {K : PySem.W.Frag} {mg : Str → Option Value} {base : Heap}
abbrev Body (P : Program) (w : World) (K : PySem.W.Frag) (mg : Str → Option Value) (base : Heap) (k : Nat) (qual : Str) (st : Stmt) (N : List Str) (sp : Sp) : Prop :=
  ∀ (f : Addr) (cdv : Value) (A : Around) (outer : List Env) (s : Shared) (H : Hp) (vs : List V) (Q : VK) (E : XK), Room k (A.deeper (envOfC qual (defScope st) s.heap.objs.size f cdv)) → sp vs H Q E →
    ∃ t, PSs (cxOf L2.CX0 P w K mg base N qual (defScope st) f cdv A outer s H E).nox (defBody st) t ∧ t { nx := fun _ H' => Q .non H', rt := Q } (start N vs) H
theorem cal_of {x : Str} {st : Stmt} {N ps : List Str} {k : Nat} {sp : Sp} (F : Fn K mg x st ps) (S : FnScope N ps (defScope st)) (len : ∀ vs H Q E, sp vs H Q E → vs.length = ps.length) (hb : Body P w K mg base k x st N sp) :
    C8.Cal P w K mg base (k + 1) x sp [] := by
  obtain ⟨f, fd, F, hm, b⟩ := F.ex
  exact ⟨f, fd, ps, [], F.ok S len fun cdv A outer s H vs Q E hr h => hb f cdv A outer s H vs Q E hr h, hm, F.kp, b, .nil⟩
theorem met_of {C : Addr} {m qual : Str} {st : Stmt} {N ps : List Str} {k : Nat} {sp : Sp} (c : Cls K C) (F : FnM K C m qual st ps) (S : FnScope N ps (defScope st)) (len : ∀ vs H Q E, sp vs H Q E → vs.length = ps.length) (hb : Body P w K mg base k qual st N sp) :
    C8.Met P w K mg base (k + 1) C m sp [] := by
  obtain ⟨f, fd, F, hm, b⟩ := F.ex
  exact ⟨f, fd, ps, [], c, hm, F.ok S len fun cdv A outer s H vs Q E hr h => hb f cdv A outer s H vs Q E hr h, b, .nil⟩
theorem mak_of {C : Addr} {x qual : Str} {st : Stmt} {N ps : List Str} {k : Nat} {sp : Sp} (g : mg x = some (.ref C)) (F : FnI K C qual st ps) (S : FnScope N ps (defScope st)) (len : ∀ vs H Q E, sp vs H Q E → vs.length = ps.length) (hb : Body P w K mg base k qual st N sp) :
    C8.Mak P w K mg base (k + 1) x C sp [] := by
  obtain ⟨f, fd, F, hm, b⟩ := F.ex
  exact ⟨f, fd, ps, [], hm, F.ok S len fun cdv A outer s H vs Q E hr h => hb f cdv A outer s H vs Q E hr h, g, b, .nil⟩
end
end Fd
namespace Fd
open PySem L2
def top (i : Nat) : Stmt := PySem.Challenge.pw_flatdraw_k04_blocks.main.body.getD i (.Pass ⟨0, 0, 0, 0⟩)
abbrev sWall : Stmt := top 0
abbrev sReached : Stmt := top 2
abbrev sBlocks : Stmt := top 4
abbrev sBlock : Stmt := top 5
abbrev sRinged : Stmt := top 6
abbrev sWebInit : Stmt := inClass (top 14) 0
abbrev sWebTies : Stmt := inClass (top 14) 1
abbrev sWebBeside : Stmt := inClass (top 14) 2
abbrev sWebTied : Stmt := inClass (top 14) 3
abbrev sWebPieces : Stmt := inClass (top 14) 4
abbrev sWebCheckPoint : Stmt := inClass (top 14) 5
abbrev sJoined : Stmt := top 15
abbrev sIsTie : Stmt := top 16
abbrev sIsPoint : Stmt := top 17
abbrev sIsNumber : Stmt := top 18
abbrev sLawCellAt : Stmt := top 20
abbrev sLawWhole : Stmt := top 21
abbrev sLawMany : Stmt := top 22
abbrev sLawRings : Stmt := top 23
abbrev sLawTies : Stmt := top 24
abbrev sLawLabels : Stmt := top 25
abbrev sLawGrown : Stmt := top 26
abbrev sLaw : Stmt := top 27
end Fd
namespace Fd
open PySem PySem.Spec PyProof.Rows L2
/-! ### what the top has left, as far as the webs ask -/
structure WTxt (K : PySem.W.Frag) (mg : Str → Option Value) (C : Addr) : Prop where
  cl : Cls K C
  nMany : NoAttr K C "many"
  nRows : NoAttr K C "_rows"
  gWeb : mg "Web" = some (.ref C)
  mostP : ∃ t, mg "MOST_POINTS" = some (.int 16 t)
  mostT : ∃ t, mg "MOST_TIES" = some (.int 40 t)
  len : mg "len" = none
  type : mg "type" = none
  int : mg "int" = none
  list : mg "list" = none
  tuple : mg "tuple" = none
  range : mg "range" = none
  sorted : mg "sorted" = none
  fNum : Fn K mg "is_number" sIsNumber ["thing"]
  fPoint : Fn K mg "is_point" sIsPoint ["many", "thing"]
  fTie : Fn K mg "_is_tie" sIsTie ["many", "thing"]
  fJoined : Fn K mg "_joined" sJoined ["many", "ties"]
  fInit : FnI K C "Web.__init__" sWebInit ["self", "many", "ties"]
/-! ### the small tests -/
def spNum (K : PySem.W.Frag) : Sp := fun vs H Q _ => ∃ (x : V) (T : String), vs = [x] ∧ TyB K H x T ∧ Q (.bl (decide (T = "int"))) H
def isPt (m : Int) : V → Bool
  | .int i => decide (0 ≤ i) && decide (i < m)
  | _ => false
def spPoint (K : PySem.W.Frag) : Sp := fun vs H Q _ => ∃ (m : Int) (x : V) (T : String), vs = [.int m, x] ∧ TyB K H x T ∧ Q (.bl (isPt m x)) H
theorem isPt_int {m : Int} {x : V} (h : isPt m x = true) : ∃ i, x = .int i := by
  cases x with
  | int i => exact ⟨i, rfl⟩
  | _ => cases h
def tieOk (m : Int) : List V → Bool
  | [y, z] => isPt m y && isPt m z && !decide (y = z)
  | _ => false
def spTie (K : PySem.W.Frag) : Sp := fun vs H Q _ => ∃ (m : Int) (x : V), vs = [.int m, x] ∧
  ((∃ T, TyB K H x T ∧ T ≠ "tuple" ∧ Q (.bl false) H) ∨ ∃ (a : Addr) (xs : List V), x = .ref a ∧ SqT K H a xs ∧ (∀ y ∈ xs, ∃ T, TyB K H y T) ∧ Q (.bl (tieOk m xs)) H)
section
variable {P : Program} {w : World} {K : PySem.W.Frag} {mg : Str → Option Value} {base : Heap} {C : Addr}
theorem scNum : FnScope ["thing"] ["thing"] (defScope sIsNumber) := ⟨rfl, rfl, rfl, by decide +kernel, rfl, by decide +kernel, by decide +kernel⟩
theorem c_num (T : WTxt K mg C) : C8.Cal P w K mg base 1 "is_number" (spNum K) [] := by
  refine cal_of T.fNum scNum (fun vs H Q E h => ?_) (fun f cdv A outer s H vs Q E hr h => ?_)
  · obtain ⟨x, t, rfl, _⟩ := h
    rfl
  · obtain ⟨x, t, rfl, ht, k⟩ := h
    refine ⟨_, pss_one (ps_ret (pe_cmpR op_eqTy (pe_callTy call_type1 (by rfl) T.type (by decide +kernel) (pa_cons (pv 0) pa_nil)) (pe_bltn (v := .ty "int") (by rfl) T.int (by decide +kernel) rfl) (nomark _))), ?_⟩
    exact ⟨_, rfl, x, t, rfl, ht, t, "int", rfl, rfl, TyB_kind ht, by decide, k⟩
theorem scPoint : FnScope ["many", "thing"] ["many", "thing"] (defScope sIsPoint) := ⟨rfl, rfl, rfl, by decide +kernel, rfl, by decide +kernel, by decide +kernel⟩
theorem c_point (T : WTxt K mg C) : C8.Cal P w K mg base 2 "is_point" (spPoint K) [] := by
  refine cal_of T.fPoint scPoint (fun vs H Q E h => ?_) (fun f cdv A outer s H vs Q E hr h => ?_)
  · obtain ⟨m, x, t, rfl, _⟩ := h
    rfl
  · obtain ⟨m, x, t, rfl, ht, k⟩ := h
    refine ⟨_, pss_one (ps_ret (pe_and (C8.pe_c (c_num T) hr (by decide) (by rfl) (pa_cons (pv 1) pa_nil)) (pe_one (pe_chain op_le op_lt pe_int (pv 1) (pv 0))))), ?_⟩
    refine ⟨_, rfl, x, t, rfl, ht, _, rfl, ?_⟩
    cases ht with
    | int i =>
      refine iteT ?_
      refine ⟨_, rfl, 0, i, rfl, rfl, _, rfl, ?_⟩
      refine ite2 (fun c => ?_) (fun c => ?_)
      · refine ⟨_, rfl, i, m, rfl, rfl, ?_⟩
        have e : isPt m (.int i) = decide (i < m) := by
          show (decide (0 ≤ i) && decide (i < m)) = _
          rw [c, Bool.true_and]
        rw [e] at k
        exact k
      · have e : isPt m (.int i) = false := by
          show (decide (0 ≤ i) && decide (i < m)) = _
          rw [Bool.eq_false_iff.mpr c, Bool.false_and]
        rw [e] at k
        exact k
    | non => exact k
    | bl b => exact k
    | str x => exact k
    | byt b => exact k
    | lst h => exact k
    | tup h => exact k
    | dK h => exact k
theorem scTie : FnScope ["many", "thing", "one", "other"] ["many", "thing"] (defScope sIsTie) := ⟨rfl, rfl, rfl, by decide +kernel, rfl, by decide +kernel, by decide +kernel⟩
theorem c_tie (T : WTxt K mg C) : C8.Cal P w K mg base 3 "_is_tie" (spTie K) [] := by
  refine cal_of T.fTie scTie (fun vs H Q E h => ?_) (fun f cdv A outer s H vs Q E hr h => ?_)
  · obtain ⟨m, x, rfl, _⟩ := h
    rfl
  · obtain ⟨m, x, rfl, h⟩ := h
    refine ⟨_, pss_cons (ps_if (PW.pt (pw_or (pt_cmpR op_neTy (pe_callTy call_type1 (by rfl) T.type (by decide +kernel) (pa_cons (pv 1) pa_nil)) (pe_bltn (v := .ty "tuple") (by rfl) T.tuple (by decide +kernel) rfl) (nomark _))
        (pw_or1 (pt_cmpR op_ne (pe_callB call_len_seq (by rfl) T.len PySem.boot_len (pa_cons (pv 1) pa_nil)) pe_int (nomark _))))) (pss_one (ps_ret pe_bl)) pss_nil)
      (pss_cons (ps_asg (pv 1) (pg_tup (by rfl) (pgs_cons (pg_name (i := 2) scTie.nd rfl (.inl rfl)) (pgs_cons (pg_name (i := 3) scTie.nd rfl (.inl rfl)) pgs_nil))))
      (pss_one (ps_ret (pe_and (C8.pe_c (c_point T) hr (by decide) (by rfl) (pa_cons (pv 0) (pa_cons (pv 2) pa_nil)))
        (pe_and (C8.pe_c (c_point T) hr (by decide) (by rfl) (pa_cons (pv 0) (pa_cons (pv 3) pa_nil))) (pe_one (pe_cmpR op_ne (pv 2) (pv 3) (nomark _)))))))), ?_⟩
    rcases h with ⟨t, ht, hne, k⟩ | ⟨a, xs, rfl, hT, hy, k⟩
    · refine ⟨_, rfl, x, t, rfl, ht, t, "tuple", rfl, rfl, TyB_kind ht, by decide, _, rfl, ?_⟩
      rw [decide_eq_false hne]
      exact iteT (iteT k)
    · refine ⟨_, rfl, .ref a, "tuple", rfl, .tup hT, "tuple", "tuple", rfl, rfl, by decide, by decide, _, rfl, ?_⟩
      refine iteF ?_
      refine ⟨_, rfl, a, xs, rfl, .inr hT, rfl, _, rfl, ?_⟩
      match xs, hT, hy, k with
      | [], _, _, k => exact iteT k
      | [_], _, _, k => exact iteT k
      | _ :: _ :: _ :: l, _, _, k =>
        refine ite2 (fun _ => k) (fun c => ?_)
        refine absurd ?_ c
        rw [Bool.not_eq_true', decide_eq_false_iff_not]
        intro z
        have z : (((l.length + 1 + 1 + 1 : Nat)) : Int) = 2 := V.int.inj z
        omega
      | [y, z], hT, hy, k =>
        obtain ⟨t1, h1⟩ := hy y (by simp)
        obtain ⟨t2, h2⟩ := hy z (by simp)
        refine iteF ?_
        refine ⟨_, rfl, a, [y, z], rfl, hT, rfl, y, [z], rfl, z, [], rfl, rfl, ?_⟩
        refine ⟨_, rfl, _, rfl, m, y, t1, rfl, h1, _, rfl, ?_⟩
        refine ite2 (fun c1 => ?_) (fun c1 => ?_)
        · refine ⟨_, rfl, _, rfl, m, z, t2, rfl, h2, _, rfl, ?_⟩
          refine ite2 (fun c2 => ?_) (fun c2 => ?_)
          · obtain ⟨i, rfl⟩ := isPt_int c1
            obtain ⟨j, rfl⟩ := isPt_int c2
            refine ⟨_, rfl, _, rfl, rfl, ?_⟩
            have e : tieOk m [.int i, .int j] = !decide (V.int i = V.int j) := by
              show (isPt m (.int i) && isPt m (.int j) && !decide (V.int i = V.int j)) = _
              rw [c1, c2, Bool.and_self, Bool.true_and]
            rw [e] at k
            exact k
          · have e : tieOk m [y, z] = false := by
              show (isPt m y && isPt m z && !decide (y = z)) = _
              rw [c1, Bool.eq_false_iff.mpr c2, Bool.and_false, Bool.false_and]
            rw [e] at k
            exact k
        · have e : tieOk m [y, z] = false := by
            show (isPt m y && isPt m z && !decide (y = z)) = _
            rw [Bool.eq_false_iff.mpr c1, Bool.false_and, Bool.false_and]
          rw [e] at k
          exact k
end
end Fd
namespace Fd
open PySem PySem.Spec PyProof.Rows L2
theorem no_ {b : Bool} {A B : Prop} (e : b = false) (h : B) : if b = true then A else B := by
  rw [e]
  exact iteF h
theorem yep_ {b : Bool} {A B : Prop} (e : b = true) (h : A) : if b = true then A else B := by
  rw [e]
  exact iteT h
theorem yes_ {σ : L2.St} {H : Hp} {Q : Bool → Hp → Prop} (h : Q true H) : tYes σ H Q := h
theorem RowsAt.start {H : Hp} {D : Addr} (h : H D = none) : RowsAt H (upd H D (.lst [])) D [] [] :=
  ⟨upd_same, h, rfl, List.nodup_nil, by simp, fun i a r e _ => by simp at e⟩
/-! ### the rows as they grow -/
def nbRows (m : Nat) (ts : List Tie) : List (List Int) := (pts m).map (nb ts)
theorem nbRows_at {m : Nat} {ts : List Tie} {i : Nat} (h : i < m) : (nbRows m ts)[i]? = some (nb ts i) := by
  unfold nbRows
  rw [List.getElem?_map, pts_at h]
  rfl
theorem nbRows_len (m : Nat) (ts : List Tie) : (nbRows m ts).length = m := by simp [nbRows, pts_len]
theorem nbRows_nil (m : Nat) : nbRows m [] = List.replicate m [] := by
  unfold nbRows
  rw [show (nb [] : Int → List Int) = fun _ => [] from rfl, List.map_const', pts_len]
theorem nbRows_step {m : Nat} {ts : List Tie} {p q : Nat} (hp : p < m) (hq : q < m) (hne : p ≠ q) :
    ((nbRows m ts).set p (nb ts p ++ [(q : Int)])).set q (nb ts q ++ [(p : Int)]) = nbRows m (ts ++ [((p : Int), (q : Int))]) := by
  refine List.ext_getElem? fun j => ?_
  by_cases hj : j < m
  · rw [nbRows_at hj, nb_snoc]
    by_cases h2 : q = j
    · subst h2
      rw [List.getElem?_set_self (by rw [List.length_set, nbRows_len]; exact hj)]
      have e : here ((p : Int), (q : Int)) (q : Int) = [(p : Int)] := by
        unfold here
        rw [if_neg (by show ¬ (p : Int) = (q : Int); omega), if_pos rfl]
        rfl
      rw [e]
    · rw [List.getElem?_set_ne h2]
      by_cases h1 : p = j
      · subst h1
        rw [List.getElem?_set_self (by rw [nbRows_len]; exact hj)]
        have e : here ((p : Int), (q : Int)) (p : Int) = [(q : Int)] := by
          unfold here
          rw [if_pos rfl, if_neg (by show ¬ (q : Int) = (p : Int); omega)]
          rfl
        rw [e]
      · rw [List.getElem?_set_ne h1, nbRows_at hj]
        have e : here ((p : Int), (q : Int)) (j : Int) = [] := by
          unfold here
          rw [if_neg (by show ¬ (p : Int) = (j : Int); omega), if_neg (by show ¬ (q : Int) = (j : Int); omega)]
          rfl
        rw [e, List.append_nil]
  · rw [List.getElem?_eq_none (by rw [List.length_set, List.length_set, nbRows_len]; omega), List.getElem?_eq_none (by rw [nbRows_len]; omega)]
theorem here_len (t : Tie) (p : Int) : (here t p).length ≤ 2 := by
  unfold here
  rw [List.length_append]
  split <;> split <;> simp
theorem nb_len : ∀ (ts : List Tie) (p : Int), (nb ts p).length ≤ 2 * ts.length
  | [], _ => by simp [nb]
  | t :: ts, p => by
    have e : nb (t :: ts) p = here t p ++ nb ts p := by simp [nb]
    have h1 := here_len t p
    have h2 := nb_len ts p
    rw [e, List.length_append, List.length_cons]
    omega
end Fd
namespace Fd
open PySem PySem.Spec PyProof.Rows L2
def spJoined (K : PySem.W.Frag) : Sp := fun vs H Q _ => ∃ (m : Nat) (a : Addr) (ws : List V) (ts : List Tie), vs = [.int m, .ref a] ∧ SqL K H a ws ∧ PairsAt H ws ts ∧ Good m ts ∧ m ≤ 16 ∧ ts.length ≤ 40 ∧
  ∀ (H' : Hp) (R : Addr) (as : List Addr), Same H H' → RowsAt H H' R as (rowsOf m ts) → Q (.ref R) H'
section
variable {P : Program} {w : World} {K : PySem.W.Frag} {mg : Str → Option Value} {base : Heap} {C : Addr}
theorem scJoined : FnScope ["many", "ties", "rows", "tie", "one", "other", "_", "row"] ["many", "ties"] (defScope sJoined) := ⟨rfl, rfl, rfl, by decide +kernel, rfl, by decide +kernel, by decide +kernel⟩
theorem c_joined (T : WTxt K mg C) : C8.Cal P w K mg base 4 "_joined" (spJoined K) [] := by
  refine cal_of T.fJoined scJoined (fun vs H Q E h => ?_) (fun f cdv A outer s H vs Q E hr h => ?_)
  · obtain ⟨m, a, ws, ts, rfl, _⟩ := h
    rfl
  · obtain ⟨m, a, ws, ts, rfl, hS, hP, g, hm, ht, k⟩ := h
    refine ⟨_, pss_cons (ps_setLc (i := 2) (own := [("_", 6)]) (g := gName 6) (tt := tYes) (by rfl) scJoined.nd rfl rfl (sw_true rfl rfl rfl (by decide +kernel)) (pi_range1 (by rfl) T.range (pa_cons (pv 0) pa_nil))
        (blkOk_by (own := [("_", 6)]) (N := ["many", "ties", "rows", "tie", "one", "other", "_", "row"]) (sc := defScope sJoined) (by decide +kernel)) (fun _ _ _ _ _ => pg_name (i := 6) scJoined.nd rfl (Or.inl rfl)) (fun _ _ _ _ _ => pts_nil) (fun _ _ _ _ _ => pe_lst pa_nil))
      (pss_cons (ps_for PassesOwn.never rfl (pi_list (pv 1)) (pg_name (i := 3) scJoined.nd rfl (Or.inl rfl))
        (pss_cons (ps_if (pt_not (pt_val (C8.pe_c (c_tie T) hr (by decide) (by rfl) (pa_cons (pv 0) (pa_cons (pv 3) pa_nil))))) (pss_one ps_never) pss_nil)
        (pss_cons (ps_asg (pv 3) (pg_tup (by rfl) (pgs_cons (pg_name (i := 4) scJoined.nd rfl (.inl rfl)) (pgs_cons (pg_name (i := 5) scJoined.nd rfl (.inl rfl)) pgs_nil))))
        (pss_cons (ps_if (pt_cmpR op_in_seq (pv 5) (pe_ix ix_list (pv 2) (pv 4) (fun _ _ => rfl)) (by rfl)) (pss_one ps_never) pss_nil)
        (pss_cons (ps_expr (pe_bm PySem.F.plainAttrs_list PySem.F.slot_list_append PySem.F.type_list_append mt_append (pe_ix ix_list (pv 2) (pv 4) (fun _ _ => rfl)) (pa_cons (pv 5) pa_nil)))
        (pss_one (ps_expr (pe_bm PySem.F.plainAttrs_list PySem.F.slot_list_append PySem.F.type_list_append mt_append (pe_ix ix_list (pv 2) (pv 5) (fun _ _ => rfl)) (pa_cons (pv 4) pa_nil)))))))))
      (pss_one (ps_ret (pe_lc (own := [("row", 7)]) (g := gName 7) (tt := tYes) (by rfl) scJoined.nd (pi_list (pv 2))
        (blkOk_by (own := [("row", 7)]) (N := ["many", "ties", "rows", "tie", "one", "other", "_", "row"]) (sc := defScope sJoined) (by decide +kernel)) (fun _ _ _ _ _ => pg_name (i := 7) scJoined.nd rfl (Or.inl rfl)) (fun _ _ _ _ _ => pts_nil)
        (fun _ _ _ _ _ => pe_callB (id := "sorted") (r := rSortedI K) cr_sortedI (by rfl) T.sorted (by decide +kernel) (pa_cons (pv 7) pa_nil)))))), ?_⟩
    -- rows = [[] for _ in range(many)]
    refine ⟨_, rfl, (m : Int), rfl, by omega, by omega, fun R hR => ?_⟩
    refine lc_range (lo := 0) (n := (m : Int).toNat) (fun i H1 => Same H H1 ∧ ∃ bs, RowsAt H H1 R bs (List.replicate i [])) ⟨Same.put hR, [], RowsAt.start hR⟩ (fun i H1 hi ⟨s1, bs, r1⟩ => ?_) (fun H1 ⟨s1, as, r1⟩ => ?_)
    · refine ⟨rfl, ?_⟩
      refine yes_ ?_
      refine iteT ?_
      refine ⟨Nat.zero_le _, fun p hp => ?_⟩
      have pR : R ≠ p := ne_of_none r1.top hp
      refine ⟨bs.map V.ref, by rw [upd_ne pR]; exact r1.top, ?_, ?_⟩
      · rw [List.length_map, r1.len, List.length_replicate]
        exact small (by omega)
      · refine ⟨Same.write (Same.step s1 hp) hR, bs ++ [p], ?_⟩
        have q := r1.more (r := []) s1 hp
        rw [List.replicate_succ']
        exact q
    · rw [Int.toNat_natCast] at r1
      -- for tie in ties
      refine ⟨_, rfl, a, rfl, ⟨_, s1.seq hS⟩, for_list (K := K) (a := a) (xs := ws) (fun i σ H2 => ∃ v1 v2 v3 : Option V, σ = [some (.int m), some (.ref a), some (.ref R), v1, v2, v3, none, none] ∧ Same H H2 ∧ RowsAt H H2 R as (nbRows m (ts.take i)))
        ⟨none, none, none, rfl, s1, by rw [List.take_zero, nbRows_nil]; exact r1⟩ (fun i σ H2 _ ⟨_, _, _, _, s2, _⟩ => s2.seq hS) ?_ ?_⟩
      · rintro i x σ H2 hi ⟨v1, v2, v3, rfl, s2, r2⟩
        obtain ⟨t, hti, hpair⟩ := paired_get hP hi
        obtain ⟨c, rfl, hc⟩ := PairAt.same s2 hpair
        have rg := g.rng t (List.mem_of_getElem? hti)
        have ap := g.apart hti
        obtain ⟨t1, t2⟩ := t
        obtain ⟨h1, h2, h3, h4, h5⟩ := rg
        obtain ⟨p, rfl⟩ : ∃ p : Nat, t1 = p := ⟨t1.toNat, by have : 0 ≤ t1 := h1; omega⟩
        obtain ⟨q, rfl⟩ : ∃ q : Nat, t2 = q := ⟨t2.toNat, by have : 0 ≤ t2 := h3; omega⟩
        have hp : p < m := by have : ((p : Int) < m) := h2; omega
        have hq : q < m := by have : ((q : Int) < m) := h4; omega
        have hpq : p ≠ q := fun z => h5 (by rw [z])
        have hil : i < ts.length := (List.getElem?_eq_some_iff.mp hti).1
        obtain ⟨b, eb, ebr, _, hb⟩ := r2.get (nbRows_at (ts := ts.take i) hp)
        have ok : tieOk m [.int p, .int q] = true := by
          show (isPt m (.int p) && isPt m (.int q) && !decide (V.int p = V.int q)) = true
          have e1 : isPt m (.int p) = true := by
            show (decide ((0 : Int) ≤ p) && decide ((p : Int) < m)) = true
            rw [decide_eq_true (by omega), decide_eq_true (by omega), Bool.and_self]
          have e2 : isPt m (.int q) = true := by
            show (decide ((0 : Int) ≤ q) && decide ((q : Int) < m)) = true
            rw [decide_eq_true (by omega), decide_eq_true (by omega), Bool.and_self]
          rw [e1, e2, decide_eq_false (fun z => h5 (V.int.inj z)), Bool.and_self, Bool.true_and, Bool.not_false]
        -- if not _is_tie(many, tie)
        refine ⟨_, rfl, _, rfl, m, .ref c, rfl, .inr ⟨c, [.int p, .int q], rfl, SqT.of hc, fun y hy => ?_, _, rfl, no_ (by rw [ok]; rfl) ?_⟩⟩
        · simp only [List.mem_cons, List.not_mem_nil, or_false] at hy
          rcases hy with rfl | rfl <;> exact ⟨_, .int _⟩
        -- one, other = tie
        refine ⟨_, rfl, c, [.int p, .int q], rfl, SqT.of hc, rfl, .int p, [.int q], rfl, .int q, [], rfl, rfl, ?_⟩
        -- if other in rows[one]
        have hno : inV (.int q) (iL (nb (ts.take i) p)) = false := by
          rw [inV_ints]
          refine decide_eq_false fun z => ?_
          rcases mem_nb.mp z with z | z
          · exact ap.1 z
          · exact ap.2 z
        refine ⟨_, rfl, _, rfl, _, rfl, R, as.map V.ref, p, .ref b, rfl, rfl, SqL.of r2.top, atI_nat ebr, b, iL (nb (ts.take i) p), rfl, .inl (SqL.of hb), rfl, flat_ints _, _, rfl, no_ hno ?_⟩
        -- rows[one].append(other)
        have l1 := nb_len (ts.take i) p
        have l2 := nb_len (ts.take i) q
        rw [List.length_take] at l1 l2
        refine ⟨_, rfl, _, rfl, R, as.map V.ref, p, .ref b, rfl, rfl, SqL.of r2.top, atI_nat ebr, .inl ⟨rfl, _, SqL.of hb⟩, _, rfl, b, _, _, rfl, rfl, hb, by rw [List.length_map]; exact small (by omega), ?_⟩
        have r3 := r2.write (r := nb (ts.take i) p ++ [(q : Int)]) eb
        have e3 : iL (nb (ts.take i) p ++ [(q : Int)]) = iL (nb (ts.take i) p) ++ [V.int q] := by
          unfold iL
          rw [List.map_append]
          rfl
        rw [e3] at r3
        obtain ⟨d, ed, edr, _, hd⟩ := r3.get (i := q) (r := nb (ts.take i) q) (by rw [List.getElem?_set_ne hpq]; exact nbRows_at hq)
        -- rows[other].append(one)
        refine ⟨_, rfl, _, rfl, R, as.map V.ref, q, .ref d, rfl, rfl, SqL.of r3.top, atI_nat edr, .inl ⟨rfl, _, SqL.of hd⟩, _, rfl, d, _, _, rfl, rfl, hd, by rw [List.length_map]; exact small (by omega), ?_⟩
        have r4 := r3.write (r := nb (ts.take i) q ++ [(p : Int)]) ed
        have e4 : iL (nb (ts.take i) q ++ [(p : Int)]) = iL (nb (ts.take i) q) ++ [V.int p] := by
          unfold iL
          rw [List.map_append]
          rfl
        rw [e4, nbRows_step hp hq hpq, ← take_next hti] at r4
        exact ⟨_, _, _, rfl, r3.sameW (r2.sameW s2 eb) ed, r4⟩
      · rintro σ H2 ⟨v1, v2, v3, rfl, s2, r2⟩
        have el : ts.take ws.length = ts := by
          rw [hP.length]
          exact List.take_length
        rw [el] at r2
        refine ⟨_, rfl, R, rfl, ⟨_, SqL.of r2.top⟩, fun D hD => ?_⟩
        refine lc_list (K := K) (a := R) (xs := as.map V.ref) (fun i H3 => Same H2 H3 ∧ ∃ bs, RowsAt H2 H3 D bs ((rowsOf m ts).take i)) ⟨Same.put hD, [], RowsAt.start hD⟩ (fun i H3 _ ⟨s3, _⟩ => s3.seq (SqL.of r2.top)) (fun i x H3 hi ⟨s3, bs, r3⟩ => ?_) (fun H3 ⟨s3, bs, r3⟩ => ?_)
        · have him : i < m := by
            have q := (List.getElem?_eq_some_iff.mp hi).1
            rw [List.length_map, r2.len, nbRows_len] at q
            exact q
          obtain ⟨b, eb, ebr, _, hb⟩ := r2.get (nbRows_at (ts := ts) him)
          obtain rfl : x = .ref b := Option.some.inj (hi.symm.trans ebr)
          refine ⟨rfl, ?_⟩
          refine yes_ ?_
          refine iteT ?_
          refine ⟨_, rfl, b, nb ts i, rfl, SqL.of (s3 _ _ hb), fun ns' p hp hs hnew => ?_⟩
          have e := row_sorted g hp hs
          subst e
          have pD : D ≠ p := ne_of_none r3.top hnew
          refine ⟨bs.map V.ref, by rw [upd_ne pD]; exact r3.top, ?_, Same.write (Same.step s3 hnew) hD, bs ++ [p], ?_⟩
          · rw [List.length_map, r3.len, List.length_take, rowsOf_len]
            exact small (by omega)
          · have q := r3.more (r := rowOf m ts i) s3 hnew
            rw [take_next (rowsOf_at him)]
            exact q
        · have e5 : (rowsOf m ts).take (as.map V.ref).length = rowsOf m ts := by
            rw [List.length_map, r2.len, nbRows_len]
            exact List.take_of_length_le (by rw [rowsOf_len]; exact Nat.le_refl _)
          rw [e5] at r3
          exact k _ D bs (s2.trans s3) (r3.older s2)
end
end Fd
namespace Fd
open PySem PySem.Spec PyProof.Rows L2
section
variable {P : Program} {w : World} {A : Around} {E : Value → Shared → Prop} {s : Shared} {a x : Addr} {L : List (Addr × List Int)} {es : Array (Int × Value)} {ep : Nat} {t : SetTable} {k : List Int}
/-- where a search for the hash h stands behind c steps -/
abbrev pAt (t : SetTable) (h : Int) (c : Nat) : SetTable.Probe := nth t.mask (runAt t.mask (SetTable.bits h % (t.mask + 1)) (SetTable.bits h)) c
theorem pAt_add (t : SetTable) (h : Int) (c q : Nat) : nth t.mask (pAt t h c) q = pAt t h (c + q) := (nth_add t.mask c _ q).symm
theorem pAt_dm (t : SetTable) (h : Int) (c : Nat) : (pAt t h c).dummy = none := by
  have go : ∀ (n : Nat) (p : SetTable.Probe), p.dummy = none → (nth t.mask p n).dummy = none := fun n => by
    induction n with
    | zero => exact fun p z => z
    | succ n ih =>
      refine fun p z => ih (adv t.mask p) ?_
      unfold adv
      split
      · exact z
      · exact z
  exact go c _ rfl
/-- the entry that stands at the c-th step is that of an item -/
theorem item_at (R : SetTR P w s.heap a L es ep t) {i j : Nat} (h : t.place.toList[i]? = some j) : ∃ p, L[i]? = some p := by
  have h1 := (List.getElem?_eq_some_iff.mp h).1
  have h2 := R.tab.sz
  rw [List.length_map] at h2
  rw [Array.length_toList] at h1
  exact ⟨_, List.getElem?_eq_getElem (by omega : i < L.length)⟩
/-- x in a: the search that adds nothing -/
theorem find_from (R : SetTR P w s.heap a L es ep t) (hx : IsT P w s.heap k x) (hu : A.units < cLine) {K : Nat} (hF : K < 10 * SetTable.turns t.mask)
    (free : (pAt t (thash P w k) K).j ∉ t.place.toList) (full : ∀ c, c < K → (pAt t (thash P w k) c).j ∈ t.place.toList) {Q : SetFound → Shared → Prop}
    (yes : k ∈ L.map (·.2) → ∀ i, Q (.there (some i)) s) (no : k ∉ L.map (·.2) → ∀ j, Q (.free j false) s) :
    ∀ (f c : Nat) (st : Option SetTable.Probe), st.getD (t.probeStart (thash P w k)) = pAt t (thash P w k) c → c ≤ K → K - c < f →
      (∀ (i : Nat) p, L[i]? = some p → p.2 = k → ∃ d, c ≤ d ∧ d < K ∧ t.place.toList[i]? = some (pAt t (thash P w k) d).j) →
      wpAny (model P w) A (setSearchFrom a (.ref x) (thash P w k) false f st) Q E s := by
  obtain ⟨o, ho, hex, hd⟩ := R.ob
  intro f
  induction f with
  | zero => exact fun c st _ _ z _ => absurd z (Nat.not_lt_zero _)
  | succ f ih =>
    intro c st est hc hf left
    have hashes : ∀ (i : Nat) p, L[i]? = some p → (es[i]?.map (·.1)).getD 0 = thash P w p.2 := fun i p hp => by
      rw [R.entry hp]
      rfl
    -- nothing that was passed is what is looked for
    have passed : ∀ {d q : Nat}, c ≤ d → (∀ (q' i' : Nat), q' < q → t.place.toList[i']? = some (nth t.mask (pAt t (thash P w k) c) q').j → (es[i']?.map (·.1)).getD 0 ≠ thash P w k) → ∀ (i : Nat) p, L[i]? = some p → p.2 = k →
        t.place.toList[i]? = some (pAt t (thash P w k) d).j → c + q ≤ d := fun {d q} cd pass i p hp hk ht => by
      rcases Nat.lt_or_ge d (c + q) with z | z
      · refine absurd ((hashes i p hp).trans (congrArg (thash P w) hk)) (pass (d - c) i (by omega) ?_)
        rw [pAt_add, show c + (d - c) = d by omega]
        exact ht
      · exact z
    rw [setSearchFrom_succ]
    refine wpAny_bind (wpAny_setState_of ho hd R.fits ?_)
    dsimp only
    refine wp_if_neg R.gw ?_
    try refine wpAny_bind (wpAny_pure ?_)
    rcases go_spec t R.tab.ris R.tab.dm (fun i => (es[i]?.map (·.1)).getD 0) (thash P w k) (10 * SetTable.turns t.mask) (K - c) (pAt t (thash P w k) c) (pAt_dm t _ c) (by omega)
        (fun q hq => by rw [pAt_add]; exact full _ (by omega)) (by rw [pAt_add, show c + (K - c) = K by omega]; exact free) with ⟨q, i, hq, hi, hh, pass, pr⟩ | ⟨pass, pr⟩
    · rw [pAt_add] at hi
      rw [pAt_add, pAt_add] at pr
      have pr2 : t.probe (fun i => (es[i]?.map (·.1)).getD 0) (thash P w k) (st.getD (t.probeStart (thash P w k))) = some (.candidate (pAt t (thash P w k) (c + q)).j i (pAt t (thash P w k) (c + (q + 1)))) := by
        rw [est]
        exact pr
      rw [pr2]
      dsimp only
      obtain ⟨p, hp⟩ := item_at R hi
      have pm := List.mem_of_getElem? hp
      have sl := slot_live R.tab.ris hi
      have rest : wpAny (model P w) A (searchRest a (.ref x) (thash P w k) false f es t (pAt t (thash P w k) (c + q)).j i (pAt t (thash P w k) (c + (q + 1)))) Q E s := by
        unfold searchRest
        rw [R.entry hp]
        dsimp only
        refine wpAny_bind (wpAny_holding (wpAny_eqBool_tuple hu (R.tup p pm) hx ?_))
        refine wpAny_bind (wpAny_setState_of ho hd R.fits ?_)
        dsimp only
        refine wp_if_neg (by rw [Bool.false_and]; decide) ?_
        try refine wpAny_bind (wpAny_pure ?_)
        rw [sameMem]
        dsimp only
        simp only [if_true, sl, R.entry hp]
        refine wpAny_bind (wpAny_isSame_ref_self (wpAny_bind (wpAny_pure ?_)))
        simp only [if_true]
        by_cases e : p.2 = k
        · refine wp_if_pos (by simp [e]) ?_
          exact wpAny_pure (yes (List.mem_map.mpr ⟨p, pm, e⟩) i)
        · refine wp_if_neg (by simp [e]) ?_
          refine ih (c + (q + 1)) _ rfl (by omega) (by omega) fun i1 p1 h1 k1 => ?_
          obtain ⟨d, d1, d2, d3⟩ := left i1 p1 h1 k1
          have d4 := passed d1 pass i1 p1 h1 k1 d3
          refine ⟨d, ?_, d2, d3⟩
          rcases Nat.lt_or_ge (c + q) d with z | z
          · omega
          · have ed : d = c + q := by omega
            subst ed
            have sl1 := slot_live R.tab.ris d3
            rw [sl] at sl1
            cases sl1
            cases Option.some.inj (hp.symm.trans h1)
            exact absurd k1 e
      by_cases led : t.led = true
      · refine wp_if_neg (by simp [led]) ?_
        try refine wpAny_bind (wpAny_pure ?_)
        exact rest
      · refine wp_if_pos (by simp [led]) ?_
        have tups : ∀ y ∈ (es.filter (·.1 == thash P w k)).toList.map (·.2), ∃ k' c, y = Value.ref c ∧ IsT P w s.heap k' c := fun y hy => by
          obtain ⟨e, he, ee⟩ := List.mem_map.mp hy
          have h1 : e ∈ es ∧ e.1 = thash P w k := by simpa using he
          have h2 : e ∈ es.toList := by simpa using h1.1
          rw [R.rows] at h2
          obtain ⟨u, hu1, hu2⟩ := List.mem_map.mp h2
          exact ⟨u.2, u.1, by rw [← ee, ← hu2], R.tup u hu1⟩
        refine wpAny_bind (seen_tup hx tups ?_)
        refine wp_if_neg (by decide) ?_
        try refine wpAny_bind (wpAny_pure ?_)
        exact rest
    · have pr2 : t.probe (fun i => (es[i]?.map (·.1)).getD 0) (thash P w k) (st.getD (t.probeStart (thash P w k))) = some (.empty (pAt t (thash P w k) K).j none) := by
        rw [est]
        rw [pAt_add, show c + (K - c) = K by omega] at pr
        exact pr
      rw [pr2]
      dsimp only
      refine wpAny_pure (no (fun hm => ?_) _)
      obtain ⟨p, hp, hk⟩ := List.mem_map.mp hm
      obtain ⟨i, hi⟩ := List.mem_iff_getElem?.mp hp
      obtain ⟨d, d1, d2, d3⟩ := left i p hi hk
      have := passed d1 pass i p hi hk d3
      omega
end
end Fd
namespace Fd
open PySem PySem.Spec PyProof.Rows L2
section
variable {P : Program} {w : World} {A : Around} {E : Value → Shared → Prop} {s : Shared} {a x : Addr} {L : List (Addr × List Int)} {es : Array (Int × Value)} {ep : Nat} {t : SetTable} {k : List Int}
/-- x in a, asked of the set itself -/
theorem has_tup (R : SetTR P w s.heap a L es ep t) (hx : IsT P w s.heap k x) (hu : A.units < cLine) {Q : Bool → Shared → Prop} (h : ∀ tk, Q (decide (k ∈ L.map (·.2))) { s with toks := tk }) : wpAny (model P w) A (setContains a (.ref x)) Q E s := by
  obtain ⟨o, ho, hex, hd⟩ := R.ob
  unfold setContains
  refine wpAny_holding (wpAny_bind (wpAny_pyHash_tuple hu hx ?_))
  obtain ⟨tk, etk⟩ : ∃ tk, tk = s.toks + (k.length + 1) := ⟨_, rfl⟩
  rw [← etk]
  refine wpAny_bind ?_
  unfold setFind
  rw [show (100000 : Nat) = 99999 + 1 from rfl, setFindIn.eq_2]
  refine wpAny_bind (wpAny_setState_of (s := { s with toks := tk }) ho hd R.fits ?_)
  dsimp only
  refine wp_if_neg (by simp [byScan, Value.scannable]) ?_
  try refine wpAny_bind (wpAny_pure ?_)
  have room := R.room
  obtain ⟨K, hF, free, full⟩ := R.tab.first (by rw [List.length_map]; omega) (thash P w k)
  have few : K < 100000 := by
    have : 10 * SetTable.turns t.mask ≤ 1420 := by
      unfold SetTable.turns
      rcases R.tab.mok with e | e | e
      · omega
      · omega
      · omega
    omega
  refine wpAny_bind ?_
  unfold setSearch
  refine find_from (s := { s with toks := tk }) (K := K) (f := 100000) (c := 0) (st := none) R hx hu hF free full (fun hm i => ?_) (fun hm j => ?_) rfl (Nat.zero_le _) (by omega) fun i p hp hk => ?_
  · refine wpAny_pure (wpAny_pure ?_)
    have q := h tk
    rw [decide_eq_true hm] at q
    exact q
  · refine wpAny_pure (wpAny_pure ?_)
    have q := h tk
    rw [decide_eq_false hm] at q
    exact q
  · have h1 : (L.map fun p => thash P w p.2)[i]? = some (thash P w k) := by
      rw [List.getElem?_map, hp, ← hk]
      rfl
    have h2 : i < t.place.toList.length := by
      have h3 := (List.getElem?_eq_some_iff.mp hp).1
      have h4 := R.tab.sz
      rw [List.length_map] at h4
      rw [Array.length_toList]
      omega
    obtain ⟨d, d1, d2⟩ := R.tab.before free h1 (List.getElem?_eq_getElem h2)
    exact ⟨d, Nat.zero_le _, d1, by rw [List.getElem?_eq_getElem h2]; exact congrArg some d2.symm⟩
end
/-! ### by values -/
def TupsAt (K : PySem.W.Frag) (H : Hp) (L : List (Addr × List Int)) : Prop := ∀ p ∈ L, SqT K H p.1 (p.2.map V.int)
theorem setTR_of {X : Cx} {pins : List (Addr × Obj)} {σ : L2.St} {H : Hp} {s : Shared} {a : Addr} {L : List (Addr × List Int)} (I : Inv X pins σ H s) (h : H a = some (SetTO X.prog X.w a L)) (ht : TupsAt X.K H L) : ∃ es ep t, SetTR X.prog X.w s.heap a L es ep t :=
  SetT0.full (I.hok a _ h).1 fun p hp => I.isT (ht p hp)
/-- set() -/
def rNewT (P : Program) (w : World) : List V → Hp → VK → Prop := fun xs H Q => xs = [] ∧ ∀ p, H p = none → Q (.ref p) (upd H p (SetTO P w p []))
/-- t not in a -/
def rNotInT (K : PySem.W.Frag) (P : Program) (w : World) : V → V → Hp → VK → Prop := fun x y H Q => ∃ (b a : Addr) (k : List Int) (L : List (Addr × List Int)), x = .ref b ∧ y = .ref a ∧ SqT K H b (k.map V.int) ∧ H a = some (SetTO P w a L) ∧ TupsAt K H L ∧ Q (.bl (!decide (k ∈ L.map (·.2)))) H
/-- a.add(t) -/
def rAddT (K : PySem.W.Frag) (P : Program) (w : World) : V → List V → Hp → VK → Prop := fun x xs H Q => ∃ (a b : Addr) (k : List Int) (L : List (Addr × List Int)), x = .ref a ∧ xs = [.ref b] ∧ SqT K H b (k.map V.int) ∧ H a = some (SetTO P w a L) ∧ TupsAt K H L ∧ L.length + 1 < 64 ∧
  ∀ L' : List (Addr × List Int), (k ∈ L.map (·.2) → L' = L) → (k ∉ L.map (·.2) → L'.Perm ((b, k) :: L)) → Q .non (upd H a (SetTO P w a L'))
section
variable {X : Cx}
theorem cr_newT : CallR X (.type "set") (rNewT X.prog X.w) := by
  intro pins s σ H xs us Q I r h
  obtain ⟨rfl, q⟩ := h
  cases r
  refine setR_new fun _ => ?_
  have got := setTR_fresh (P := X.prog) (w := X.w) (a := s.heap.objs.size) (h := s.heap.push { cls := .type "set", dict := none, data := .set #[] 0 (.fresh 0 0 (!X.w.params.followText "set-order")) }) (Heap.get?_push_size _ rfl)
  exact ⟨.ref _, _, I.laid (t' := s.toks) (o := SetTO X.prog X.w s.heap.objs.size []) (fun b u e => Heap.get?_push_of_some _ e) (Nat.le_refl _) (setTO_new got.t0), rfl, q _ (I.hok.fresh (Nat.le_refl _))⟩
theorem op_notInT (hu : X.A.units + 65 < cLine) : OpR X (compareOp .NotIn) (rNotInT X.K X.prog X.w) := by
  intro pins s σ H x y v u Q I rx ry h
  obtain ⟨b, a, k, L, rfl, rfl, hb, ha, hL, q⟩ := h
  cases rx
  cases ry
  obtain ⟨es, ep, t, R⟩ := setTR_of I ha hL
  have kb := I.isT hb
  obtain ⟨o, ho, hex, hd⟩ := id R.ob
  have ty : s.TypeIs (.ref a) "set" := ⟨o, ho, hex.1⟩
  show wpAny _ _ (do return Value.bool (!(← PySem.contains (.ref a) (.ref b))) : Sem Value) _ _ s
  refine wpAny_bind ?_
  unfold PySem.contains
  try with_reducible refine wpAny_holding ?_
  refine wpAny_bind (wpAny_specialOf ty F.slot_set_contains.lookup ?_)
  show wpAny _ _ (if (some (Value.builtin "set.__contains__") == some Value.none) = true then _ else _) _ _ s
  refine wp_if_neg (by rw [beq_builtin_none]; exact Bool.false_ne_true) ?_
  refine wpAny_bind (wpAny_callSpecialUnlessNone?_slot (name := Str.ofString "__contains__") ty F.slot_set_contains (wpAny_call_entry F.slot_set_contains ty entry_set_contains ?_ (F.args_set_contains_2 _ _)))
  unfold Builtin.«frozenset.__contains__» Builtin.Frozenset.oneOther
  simp only [List.isEmpty_nil, bind_assoc]
  unfold Builtin.Frozenset.addrOf Builtin.Frozenset.withSetAsKey
  refine wpAny_bind (wpAny_pure ?_)
  try dsimp only
  refine wpAny_bind (wpAny_pure ?_)
  try dsimp only
  refine wpAny_bind (wpAny_tryCatch (has_tup R kb ?_ fun tk => ?_))
  · rw [PyProof.Rows.units_in1]
    omega
  · exact wpAny_pure ⟨_, rfl, wpAny_truthy_bool (wpAny_pure ⟨V.bl (!decide (k ∈ List.map (fun x : Addr × List Int => x.snd) L)), H, I.tok _, rfl, q⟩)⟩
theorem mt_addT (hu : X.A.units + 65 < cLine) : MtM X "set.add" (rAddT X.K X.prog X.w) := by
  intro pins s σ H x xs v us Q I rx rxs h
  obtain ⟨a, b, k, L, rfl, rfl, hb, ha, hL, few, q⟩ := h
  cases rx
  rw [Vals.ref1 rxs]
  obtain ⟨es, ep, t, R⟩ := setTR_of I ha hL
  have kb := I.isT hb
  obtain ⟨o, ho, hex, hd⟩ := id R.ob
  have ty : s.TypeIs (.ref a) "set" := ⟨o, ho, hex.1⟩
  refine wpAny_call_entry F.slot_set_add ty F.entry_set_add ?_ (F.args_set_add_2 _ _)
  unfold Builtin.«set.add» Builtin.Frozenset.oneOther
  simp only [List.isEmpty_nil, bind_assoc]
  unfold Builtin.Frozenset.addrOf setAdd
  refine wpAny_bind (wpAny_pure ?_)
  try dsimp only
  refine wpAny_bind (wpAny_pure ?_)
  try dsimp only
  have u1 : X.A.in1.units < cLine := by
    rw [PyProof.Rows.units_in1]
    omega
  refine wpAny_bind (wpAny_holding (wpAny_bind (wpAny_pyHash_tuple u1 kb ?_)))
  obtain ⟨tk, etk⟩ : ∃ tk, tk = s.toks + (k.length + 1) := ⟨_, rfl⟩
  rw [← etk]
  refine add_at (s := { s with toks := tk }) R kb u1 few fun bb h' L' es' ep' t' sb R' c1 c2 => ?_
  show wpAny _ _ (ret Value.none) _ _ _
  have he : ∃ u, h'.get? a = some u := by
    obtain ⟨o', ho', _⟩ := R'.ob
    exact ⟨o', ho'⟩
  exact wpAny_pure ⟨_, rfl, .non, _, I.write (e := a) (t' := tk) (o := SetTO X.prog X.w a L') (by rw [ha]; trivial) (.inl rfl) (fun b' u hb' hu' => (sb.2 b' hb').trans hu') he (setTO_new R'.t0), rfl, q L' c1 c2⟩
def tAddT (K : PySem.W.Frag) (P : Program) (w : World) (to : TE) (t : TA) : TE := fun σ H Q => to σ H fun x H1 => (∃ a L, x = V.ref a ∧ H1 a = some (SetTO P w a L)) ∧ t σ H1 fun xs H2 => rAddT K P w x xs H2 Q
variable {o e : Expr} {es : List Expr} {to : TE} {ta : TA} {apos cpos : Pos}
theorem pe_addT (hu : X.A.units + 65 < cLine) (ho : PE X o to) (ha : PA X (e :: es) ta) (h1 : attributeBase o "add" X.env (eval o X.env) = eval o X.env := by rfl)
    (h2 : ((backTo cpos (starEach (e :: es) X.env)).all (fun x => !x.1) && (backToKw cpos (keywordEach [] X.env)).all (fun x => x.1.isSome) && decide ((e :: es).length + ([] : List Keyword).length + (if ([] : List Keyword).isEmpty then 0 else 1) < 30)) = true := by rfl)
    (h3 : (apos.endLine == cpos.line) = true := by rfl) (h4 : starEach (e :: es) X.env = (false, eval e X.env) :: starEach es X.env := by rfl) (h5 : (backTo cpos (starEach es X.env)).any (·.1) = false := by rfl) :
    PE X (.Call (.Attribute o "add" apos) (e :: es) [] cpos) (tAddT X.K X.prog X.w to ta) := by
  refine ⟨fun pins s σ H Q I h => ?_⟩
  refine wpAny_Call_method_late h1 h2 h3 rfl (thn (ho.run pins s σ H _ I h) fun v s1 ⟨x, H1, I1, r1, ty, q1⟩ => ?_)
  obtain ⟨a, L, rfl, hka⟩ := ty
  obtain ⟨_, _, _, ⟨o1, ho1, hex1, _⟩, _⟩ := (I1.hok a _ hka).1
  cases r1
  refine ⟨"set", "set.add", F.plainAttrs_set, F.slot_set_add, F.type_set_add, ⟨o1, ho1, hex1.1⟩, fun b e => ?_, ?_⟩
  · cases e
    exact ⟨o1, ho1, hex1.2.1⟩
  · have hA := ha.run cpos pins s1 σ H1 _ I1 q1
    rw [h4] at hA ⊢
    refine Calls.callWith_builtin (by show (false || (backTo cpos (starEach es X.env)).any (·.1)) = false; rw [h5]; rfl) (Calls.evalArgs_plain ?_)
    exact thn hA fun us s2 ⟨vs, H2, I2, r2, q2⟩ => mt_addT hu pins s2 σ H2 (.ref a) vs (.ref a) us Q I2 rfl r2 q2
end
end Fd
namespace Fd
open PySem PySem.Spec PyProof.Rows L2
structure LTxt (K : PySem.W.Frag) (mg : Str → Option Value) : Prop where
  isi : mg "isinstance" = none
  bool : mg "bool" = none
  max : mg "max" = none
  min : mg "min" = none
  fCell : Fn K mg "_law_cell_at" sLawCellAt ["_law_script", "_law_k"]
  fWhole : Fn K mg "_law_whole" sLawWhole ["_law_seen"]
  fMany : Fn K mg "_law_many" sLawMany ["_law_script"]
/-! ### the law's small readers -/
def cellAt (ns : List Int) (k : Nat) : Int := ns.getD k 0
def spCell (K : PySem.W.Frag) : Sp := fun vs H Q _ => ∃ (a : Addr) (ns : List Int) (k : Nat), vs = [.ref a, .int k] ∧ SqL K H a (iL ns) ∧ Q (.int (cellAt ns k)) H
def spWhole : Sp := fun vs H Q _ => ∃ i : Int, vs = [.int i] ∧ Q (.bl true) H
def spMany (K : PySem.W.Frag) : Sp := fun vs H Q _ => ∃ (a : Addr) (ns : List Int), vs = [.ref a] ∧ SqL K H a (iL ns) ∧ ∀ m : Nat, 1 ≤ m → m ≤ 16 → Q (.int m) H
def spLTies (K : PySem.W.Frag) : Sp := fun vs H Q _ => ∃ (a : Addr) (ns : List Int) (m : Nat), vs = [.ref a, .int m] ∧ SqL K H a (iL ns) ∧ 1 ≤ m ∧ m ≤ 16 ∧
  ∀ (H' : Hp) (D : Addr) (ws : List V) (ts : List Tie), Same H H' → H D = none → H' D = some (.lst ws) → PairsAt H' ws ts → Good m ts → ts.length ≤ 40 → Q (.ref D) H'
theorem hu65 {k : Nat} {A : Around} (hr : Room k A) : A.units + 65 < cLine := by
  have := hr.un
  omega
/-- a new pair put behind the others -/
theorem PairsAt.more {H : Hp} {D t : Addr} {ws : List V} {ts : List Tie} {o q : Int} (hD : H D = some (.lst ws)) (h : PairsAt H ws ts) (ht : H t = none) :
    PairsAt (upd (upd H t (.tup [.int o, .int q])) D (.lst (ws ++ [.ref t]))) (ws ++ [.ref t]) (ts ++ [(o, q)]) := by
  have tD : D ≠ t := ne_of_none hD ht
  refine Paired.snoc ?_ ⟨t, rfl, by rw [upd_ne tD.symm, upd_same]⟩
  refine Paired.mono (fun v u ⟨a, e, k⟩ => ⟨a, e, ?_⟩) h
  rw [upd_ne (ne_of k hD (by intro z; cases z)), upd_ne (ne_of_none k ht)]
  exact k
theorem cut_iL (ns : List Int) (lo hi : Option Int) : ∃ ms : List Int, cutV (iL ns) lo hi = iL ms ∧ ms.length ≤ ns.length := by
  refine ⟨(ns.drop (HT.sIx (iL ns).length 0 lo)).take (HT.sIx (iL ns).length (iL ns).length hi - HT.sIx (iL ns).length 0 lo), ?_, ?_⟩
  · unfold cutV iL
    rw [List.map_take, List.map_drop]
  · rw [List.length_take, List.length_drop]
    omega
theorem cut_len (xs : List V) : (cutV xs (some 2) (some 42)).length ≤ 40 := by
  unfold cutV
  rw [List.length_take]
  have e1 : HT.sIx xs.length 0 (some 2) = min 2 xs.length := HT.sIx_nat _ _ 2
  have e2 : HT.sIx xs.length xs.length (some 42) = min 42 xs.length := HT.sIx_nat _ _ 42
  rw [e1, e2]
  omega
section
variable {P : Program} {w : World} {K : PySem.W.Frag} {mg : Str → Option Value} {base : Heap} {C : Addr}
theorem scCell : FnScope ["_law_script", "_law_k"] ["_law_script", "_law_k"] (defScope sLawCellAt) := ⟨rfl, rfl, rfl, by decide +kernel, rfl, by decide +kernel, by decide +kernel⟩
theorem c_cell (T : WTxt K mg C) (L : LTxt K mg) : C8.Cal P w K mg base 1 "_law_cell_at" (spCell K) [] := by
  refine cal_of L.fCell scCell (fun vs H Q E h => ?_) (fun f cdv A outer s H vs Q E hr h => ?_)
  · obtain ⟨a, ns, k, rfl, _⟩ := h
    rfl
  · obtain ⟨a, ns, i, rfl, hS, k⟩ := h
    refine ⟨_, pss_cons (ps_if (pt_cmpR op_lt (pv 1) (pe_callB call_len_seq (by rfl) T.len PySem.boot_len (pa_cons (pv 0) pa_nil)) (nomark _)) (pss_one (ps_ret (pe_ix ix_list (pv 0) (pv 1) (fun _ _ => rfl)))) pss_nil)
      (pss_one (ps_ret pe_int)), ?_⟩
    refine ⟨_, rfl, _, rfl, a, iL ns, rfl, .inl hS, (i : Int), _, rfl, rfl, _, rfl, ?_⟩
    refine ite2 (fun c => ?_) (fun c => ?_)
    · have c' : i < ns.length := by
        have := of_decide_eq_true c
        rw [List.length_map] at this
        omega
      refine ⟨_, rfl, _, rfl, a, iL ns, (i : Int), .int (cellAt ns i), rfl, rfl, hS, atI_nat ?_, k⟩
      refine iL_get ?_
      unfold cellAt
      rw [List.getD_eq_getElem?_getD, List.getElem?_eq_getElem c']
      rfl
    · have c' : ¬ i < ns.length := fun z => c (decide_eq_true (by rw [List.length_map]; omega))
      have e : cellAt ns i = 0 := by
        unfold cellAt
        rw [List.getD_eq_getElem?_getD, List.getElem?_eq_none (by omega)]
        rfl
      rw [e] at k
      exact k
theorem scWhole : FnScope ["_law_seen"] ["_law_seen"] (defScope sLawWhole) := ⟨rfl, rfl, rfl, by decide +kernel, rfl, by decide +kernel, by decide +kernel⟩
theorem c_whole (T : WTxt K mg C) (L : LTxt K mg) : C8.Cal P w K mg base 1 "_law_whole" spWhole [] := by
  refine cal_of L.fWhole scWhole (fun vs H Q E h => ?_) (fun f cdv A outer s H vs Q E hr h => ?_)
  · obtain ⟨i, rfl, _⟩ := h
    rfl
  · obtain ⟨i, rfl, k⟩ := h
    refine ⟨_, pss_one (ps_ret (pe_and (pe_callB call_isi (by rfl) L.isi (by decide +kernel) (pa_cons (pv 0) (pa_cons (pe_bltn (v := .ty "int") (by rfl) T.int (by decide +kernel) rfl) pa_nil)))
      (pe_one (pe_not (pe_callB call_isi (by rfl) L.isi (by decide +kernel) (pa_cons (pv 0) (pa_cons (pe_bltn (v := .ty "bool") (by rfl) L.bool (by decide +kernel) rfl) pa_nil))))))), ?_⟩
    refine ⟨_, rfl, .int i, .ty "int", .type "int", .type "int", true, rfl, .ty _, .base (.int i), kit_ty (by decide +kernel), true, rfl, ?_⟩
    refine iteT ?_
    exact ⟨_, rfl, .int i, .ty "bool", .type "int", .type "bool", false, rfl, .ty _, .base (.int i), kit_ty (by decide +kernel), false, rfl, k⟩
theorem scMany : FnScope ["_law_script"] ["_law_script"] (defScope sLawMany) := ⟨rfl, rfl, rfl, by decide +kernel, rfl, by decide +kernel, by decide +kernel⟩
theorem c_many (T : WTxt K mg C) (L : LTxt K mg) : C8.Cal P w K mg base 2 "_law_many" (spMany K) [] := by
  refine cal_of L.fMany scMany (fun vs H Q E h => ?_) (fun f cdv A outer s H vs Q E hr h => ?_)
  · obtain ⟨a, ns, rfl, _⟩ := h
    rfl
  · obtain ⟨a, ns, rfl, hS, k⟩ := h
    refine ⟨_, pss_cons (ps_if (pt_cmpR op_eq (pe_op op_mod (C8.pe_c (c_cell T L) hr (by decide) (by rfl) (pa_cons (pv 0) (pa_cons pe_int pa_nil))) pe_int) pe_int (nomark _))
        (pss_one (ps_ret (pe_op op_add pe_int (pe_op op_mod (pe_op op_fdiv (C8.pe_c (c_cell T L) hr (by decide) (by rfl) (pa_cons (pv 0) (pa_cons pe_int pa_nil))) pe_int) pe_int)))) pss_nil)
      (pss_one (ps_ret (pe_op op_add pe_int (pe_op op_mod (pe_op op_fdiv (C8.pe_c (c_cell T L) hr (by decide) (by rfl) (pa_cons (pv 0) (pa_cons pe_int pa_nil))) pe_int) pe_int)))), ?_⟩
    refine ⟨_, rfl, a, ns, 0, rfl, hS, _, _, rfl, rfl, by show (0 : Int) < 6; decide, rfl, _, rfl, ?_⟩
    refine ite2 (fun _ => ?_) (fun _ => ?_)
    · refine ⟨_, rfl, a, ns, 0, rfl, hS, _, _, rfl, rfl, ⟨by decide, by decide⟩, _, _, rfl, rfl, by show (0 : Int) < 7; decide, _, _, rfl, rfl, ?_⟩
      have h1 := Int.emod_nonneg (cellAt ns 0 / 6) (show (7 : Int) ≠ 0 by decide)
      have h2 := Int.emod_lt_of_pos (cellAt ns 0 / 6) (show (0 : Int) < 7 by decide)
      have q := k (10 + cellAt ns 0 / 6 % 7).toNat (by omega) (by omega)
      rw [Int.toNat_of_nonneg (by omega)] at q
      exact q
    · refine ⟨_, rfl, a, ns, 0, rfl, hS, _, _, rfl, rfl, ⟨by decide, by decide⟩, _, _, rfl, rfl, by show (0 : Int) < 9; decide, _, _, rfl, rfl, ?_⟩
      have h1 := Int.emod_nonneg (cellAt ns 0 / 6) (show (9 : Int) ≠ 0 by decide)
      have h2 := Int.emod_lt_of_pos (cellAt ns 0 / 6) (show (0 : Int) < 9 by decide)
      have q := k (1 + cellAt ns 0 / 6 % 9).toNat (by omega) (by omega)
      rw [Int.toNat_of_nonneg (by omega)] at q
      exact q
end
end Fd
namespace Fd
/-! ### what one comes to along ties -/
inductive Rch (ts : List Tie) (bar : Option Int) (s : Int) : Int → Prop
  | here : Rch ts bar s s
  | step {p q : Int} : Rch ts bar s p → Adj ts p q → some q ≠ bar → Rch ts bar s q
theorem Rch.inside {m : Nat} {ts : List Tie} {bar : Option Int} {s q : Int} (g : Good m ts) (hs : 0 ≤ s ∧ s < m) (h : Rch ts bar s q) : 0 ≤ q ∧ q < m := by
  induction h with
  | here => exact hs
  | step _ a _ _ =>
    rcases a with a | a
    · have := g.rng _ a
      exact ⟨this.2.2.1, this.2.2.2.1⟩
    · have := g.rng _ a
      exact ⟨this.1, this.2.1⟩
noncomputable def reachL (m : Nat) (ts : List Tie) (bar : Option Int) (s : Int) : List Int := (pts m).filter fun q => @decide (Rch ts bar s q) (Classical.propDecidable _)
theorem mem_reachL {m : Nat} {ts : List Tie} {bar : Option Int} {s q : Int} (g : Good m ts) (hs : 0 ≤ s ∧ s < m) : q ∈ reachL m ts bar s ↔ Rch ts bar s q := by
  unfold reachL
  rw [List.mem_filter, @decide_eq_true_iff _ (Classical.propDecidable _), mem_pts]
  exact ⟨fun h => h.2, fun h => ⟨h.inside g hs, h⟩⟩
theorem reachL_strict (m : Nat) (ts : List Tie) (bar : Option Int) (s : Int) : (reachL m ts bar s).Pairwise (· < ·) := (pts_strict m).filter _
theorem reachL_len (m : Nat) (ts : List Tie) (bar : Option Int) (s : Int) : (reachL m ts bar s).length ≤ m := by
  have h := List.length_filter_le (fun q => @decide (Rch ts bar s q) (Classical.propDecidable _)) (pts m)
  rw [pts_len] at h
  exact h
/-- what is found so far: the first i of it have been looked at -/
structure Fnd (m : Nat) (ts : List Tie) (bar : Option Int) (s : Int) (F : List Int) (i : Nat) : Prop where
  nd : F.Nodup
  rch : ∀ x ∈ F, Rch ts bar s x
  has : s ∈ F
  le : i ≤ F.length
  done : ∀ (j : Nat) (x q : Int), j < i → F[j]? = some x → Adj ts x q → some q ≠ bar → q ∈ F
theorem Fnd.start (m : Nat) (ts : List Tie) (bar : Option Int) (s : Int) : Fnd m ts bar s [s] 0 :=
  ⟨by simp, fun x hx => by rw [List.mem_singleton.mp hx]; exact .here, by simp, Nat.zero_le _, fun j x q h => by omega⟩
theorem Fnd.len {m : Nat} {ts : List Tie} {bar : Option Int} {s : Int} {F : List Int} {i : Nat} (h : Fnd m ts bar s F i) (g : Good m ts) (hs : 0 ≤ s ∧ s < m) : F.length ≤ m := by
  have hp := h.nd.length_le_of_subset (l₂ := pts m) fun x hx => mem_pts.mpr ((h.rch x hx).inside g hs)
  rw [pts_len] at hp
  exact hp
theorem Fnd.sorted {m : Nat} {ts : List Tie} {bar : Option Int} {s : Int} {F ns : List Int} (h : Fnd m ts bar s F F.length) (g : Good m ts) (hs : 0 ≤ s ∧ s < m) (hp : ns.Perm F) (ho : ns.Pairwise (· ≤ ·)) : ns = reachL m ts bar s := by
  have all : ∀ q, Rch ts bar s q → q ∈ F := fun q hq => by
    induction hq with
    | here => exact h.has
    | step _ a b ih =>
      obtain ⟨j, hj⟩ := List.mem_iff_getElem?.mp ih
      exact h.done j _ _ (List.getElem?_eq_some_iff.mp hj).1 hj a b
  refine strict_uniq (lt := fun a b : Int => a < b) (fun a b h => by omega) (strict_of_le ho (hp.nodup_iff.mpr h.nd)) (reachL_strict m ts bar s) fun x => ?_
  rw [hp.mem_iff, mem_reachL g hs]
  exact ⟨h.rch x, all x⟩
/-- within a turn: G is what has come behind F; of the points beside x the first k have been looked at -/
structure FndT (m : Nat) (ts : List Tie) (bar : Option Int) (s : Int) (F : List Int) (x : Int) (G : List Int) (k : Nat) : Prop where
  nd : (F ++ G).Nodup
  rch : ∀ y ∈ F ++ G, Rch ts bar s y
  took : ∀ q ∈ (rowOf m ts x).take k, some q ≠ bar → q ∈ F ++ G
theorem FndT.start {m : Nat} {ts : List Tie} {bar : Option Int} {s : Int} {F : List Int} {i : Nat} {x : Int} (h : Fnd m ts bar s F i) : FndT m ts bar s F x [] 0 :=
  ⟨by rw [List.append_nil]; exact h.nd, by rw [List.append_nil]; exact h.rch, fun q hq => by simp at hq⟩
theorem FndT.skip {m : Nat} {ts : List Tie} {bar : Option Int} {s : Int} {F G : List Int} {x y : Int} {k : Nat} (h : FndT m ts bar s F x G k) (e : (rowOf m ts x)[k]? = some y) (hy : some y = bar ∨ y ∈ F ++ G) : FndT m ts bar s F x G (k + 1) := by
  refine ⟨h.nd, h.rch, fun q hq hb => ?_⟩
  rw [take_next e] at hq
  rcases List.mem_append.mp hq with hq | hq
  · exact h.took q hq hb
  · rw [List.mem_singleton.mp hq] at hb ⊢
    exact hy.elim (fun z => absurd z hb) id
theorem FndT.more {m : Nat} {ts : List Tie} {bar : Option Int} {s : Int} {F G : List Int} {x y : Int} {k : Nat} (g : Good m ts) (h : FndT m ts bar s F x G k) (hx : x ∈ F) (e : (rowOf m ts x)[k]? = some y) (hb : some y ≠ bar) (hy : y ∉ F ++ G) : FndT m ts bar s F x (G ++ [y]) (k + 1) := by
  have a : Adj ts x y := (mem_rowOf g).mp (List.mem_of_getElem? e)
  refine ⟨?_, fun z hz => ?_, fun q hq hb' => ?_⟩
  · rw [← List.append_assoc]
    refine List.nodup_append.mpr ⟨h.nd, by simp, fun u hu v hv z => ?_⟩
    rw [List.mem_singleton.mp hv] at z
    exact hy (z ▸ hu)
  · rw [← List.append_assoc] at hz
    rcases List.mem_append.mp hz with hz | hz
    · exact h.rch z hz
    · rw [List.mem_singleton.mp hz]
      exact .step (h.rch x (List.mem_append_left _ hx)) a hb
  · rw [← List.append_assoc]
    rw [take_next e] at hq
    rcases List.mem_append.mp hq with hq | hq
    · exact List.mem_append_left _ (h.took q hq hb')
    · exact List.mem_append_right _ hq
theorem FndT.next {m : Nat} {ts : List Tie} {bar : Option Int} {s : Int} {F G : List Int} {i : Nat} {x : Int} (g : Good m ts) (h0 : Fnd m ts bar s F i) (ex : F[i]? = some x) (h : FndT m ts bar s F x G (rowOf m ts x).length) : Fnd m ts bar s (F ++ G) (i + 1) := by
  have hi : i < F.length := (List.getElem?_eq_some_iff.mp ex).1
  refine ⟨h.nd, h.rch, List.mem_append_left _ h0.has, by rw [List.length_append]; omega, fun j y q hj ey a hb => ?_⟩
  have hjF : j < F.length := by omega
  rw [List.getElem?_append_left hjF] at ey
  by_cases e : j = i
  · subst e
    cases Option.some.inj (ey.symm.trans ex)
    refine h.took q ?_ hb
    rw [List.take_length]
    exact (mem_rowOf g).mpr a
  · exact List.mem_append_left _ (h0.done j y q (by omega) ey a hb)
end Fd
namespace Fd
open PySem PySem.Spec PyProof.Rows L2
/-! ### rows as they are read -/
structure RdRows (H : Hp) (R : Addr) (as : List Addr) (rss : List (List Int)) : Prop where
  top : H R = some (.lst (as.map V.ref))
  len : as.length = rss.length
  row : ∀ (i : Nat) (a : Addr) (r : List Int), as[i]? = some a → rss[i]? = some r → H a = some (.lst (iL r))
theorem RowsAt.rd {H0 H : Hp} {R : Addr} {as : List Addr} {rss : List (List Int)} (h : RowsAt H0 H R as rss) : RdRows H R as rss := ⟨h.top, h.len, fun i a r e1 e2 => (h.row i a r e1 e2).2⟩
theorem RdRows.same {H H' : Hp} {R : Addr} {as : List Addr} {rss : List (List Int)} (h : RdRows H R as rss) (s : Same H H') : RdRows H' R as rss := ⟨s _ _ h.top, h.len, fun i a r e1 e2 => s _ _ (h.row i a r e1 e2)⟩
theorem RdRows.get {H : Hp} {R : Addr} {as : List Addr} {rss : List (List Int)} (h : RdRows H R as rss) {i : Nat} {r : List Int} (e : rss[i]? = some r) : ∃ a, as[i]? = some a ∧ (as.map V.ref)[i]? = some (.ref a) ∧ H a = some (.lst (iL r)) := by
  have hi : i < as.length := by
    rw [h.len]
    exact (List.getElem?_eq_some_iff.mp e).1
  have ea : as[i]? = some as[i] := List.getElem?_eq_getElem hi
  exact ⟨as[i], ea, by rw [List.getElem?_map, ea]; rfl, h.row i _ r ea e⟩
def barL : Option Int → List Int
  | none => []
  | some b => [b]
/-- what is barred, as it is handed in: a list, or the empty tuple that stands in the def -/
def BarS (K : PySem.W.Frag) (H : Hp) (B : Addr) (bs : List Int) : Prop := H B = some (.lst (iL bs)) ∨ (bs = [] ∧ ∀ H' : Hp, SqT K H' B [])
theorem BarS.seq {K : PySem.W.Frag} {H : Hp} {B : Addr} {bs : List Int} (h : BarS K H B bs) : SqL K H B (iL bs) ∨ SqT K H B (iL bs) := by
  rcases h with h | ⟨rfl, h⟩
  · exact .inl (SqL.of h)
  · exact .inr (h H)
theorem BarS.same {K : PySem.W.Frag} {H H' : Hp} {B : Addr} {bs : List Int} (h : BarS K H B bs) (s : Same H H') : BarS K H' B bs := by
  rcases h with h | h
  · exact .inl (s _ _ h)
  · exact .inr h
def spReached (K : PySem.W.Frag) : Sp := fun vs H Q _ => ∃ (R : Addr) (as : List Addr) (m : Nat) (ts : List Tie) (s : Nat) (bar : Option Int) (B : Addr), vs = [.ref R, .int s, .ref B] ∧ BarS K H B (barL bar) ∧ RdRows H R as (rowsOf m ts) ∧ Good m ts ∧ m ≤ 16 ∧ s < m ∧
  ∀ (H' : Hp) (D : Addr), Same H H' → H D = none → H' D = some (.lst (iL (reachL m ts bar s))) → Q (.ref D) H'
structure FnR (K : PySem.W.Frag) (mg : Str → Option Value) : Prop where
  ex : ∃ (f B0 : Addr) (fd : FuncData), L2.FunD K "reached" "reached" (defArgs sReached) (defBody sReached) (defScope sReached) [.ref B0] [] f fd ∧ mg "reached" = some (.ref f) ∧
    (∃ ds, Vals [.ref B0] ds ∧ Binds K fd ["rows", "start", "barred"] ds) ∧ Binds K fd ["rows", "start", "barred"] [] ∧ ∀ H : Hp, SqT K H B0 []
def muR (m : Nat) (σ : L2.St) : Nat := match σ[4]? with
  | some (some (V.int z)) => ((m : Int) - z).toNat
  | _ => 0
theorem in_bar {y : Int} {bar : Option Int} : y ∈ barL bar ↔ some y = bar := by
  cases bar with
  | none => simp [barL]
  | some b => simp [barL]
section
variable {P : Program} {w : World} {K : PySem.W.Frag} {mg : Str → Option Value} {base : Heap} {C : Addr}
theorem calR_of {N : List Str} {k : Nat} {sp : Sp} (F : FnR K mg) (S : FnScope N ["rows", "start", "barred"] (defScope sReached)) (len : ∀ vs H Q E, sp vs H Q E → vs.length = 3) (hb : Body P w K mg base k "reached" sReached N sp) :
    ∃ B0 : Addr, (∀ H : Hp, SqT K H B0 []) ∧ C8.Cal P w K mg base (k + 1) "reached" sp [.ref B0] ∧ C8.Cal P w K mg base (k + 1) "reached" sp [] := by
  obtain ⟨f, B0, fd, F, hm, ⟨ds, hv, b1⟩, b2, hB⟩ := F.ex
  have G : FnOk P w K mg base C8.CX0 (k + 1) f fd ["rows", "start", "barred"] sp := F.ok S len fun cdv A outer s H vs Q E hr h => by
    obtain ⟨t, h1, h2⟩ := hb f cdv A outer s H vs Q E hr h
    exact ⟨t, h1.nox, h2⟩
  exact ⟨B0, hB, ⟨f, fd, _, ds, G, hm, F.kp, b1, hv⟩, ⟨f, fd, _, [], G, hm, F.kp, b2, .nil⟩⟩
theorem scReached : FnScope ["rows", "start", "barred", "found", "at", "here", "point"] ["rows", "start", "barred"] (defScope sReached) := ⟨rfl, rfl, rfl, by decide +kernel, rfl, by decide +kernel, by decide +kernel⟩
theorem c_reached (T : WTxt K mg C) (F : FnR K mg) : ∃ B0 : Addr, (∀ H : Hp, SqT K H B0 []) ∧ C8.Cal P w K mg base 1 "reached" (spReached K) [.ref B0] ∧ C8.Cal P w K mg base 1 "reached" (spReached K) [] := by
  refine calR_of F scReached (fun vs H Q E h => ?_) (fun f cdv A outer s H vs Q E hr h => ?_)
  · obtain ⟨R, as, m, ts, st, bar, B, rfl, _⟩ := h
    rfl
  · obtain ⟨R, as, m, ts, st, bar, B, rfl, hB, hR, g, m16, hst, k⟩ := h
    refine ⟨_, pss_cons (ps_set (i := 3) scReached.nd rfl (Or.inl rfl) (pe_lst (pa_cons (pv 1) pa_nil)))
      (pss_cons (ps_set (i := 4) scReached.nd rfl (Or.inl rfl) pe_int)
      (pss_cons (ps_while PassesOwn.never (pt_cmpR op_lt (pv 4) (pe_callB call_len_seq (by rfl) T.len PySem.boot_len (pa_cons (pv 3) pa_nil)) (nomark _))
        (pss_cons (ps_set (i := 5) scReached.nd rfl (Or.inl rfl) (pe_ix ix_list (pv 3) (pv 4) (fun _ _ => rfl)))
        (pss_cons (ps_for PassesOwn.never rfl (pi_list (pe_ix ix_list (pv 0) (pv 5) (fun _ _ => rfl))) (pg_name (i := 6) scReached.nd rfl (Or.inl rfl))
          (pss_one (ps_if (PW.pt (pw_and (pt_cmpR op_notIn_seq (pv 6) (pv 2) (by rfl)) (pw_and1 (pt_cmpR op_notIn_seq (pv 6) (pv 3) (by rfl)))))
            (pss_one (ps_expr (pe_bm PySem.F.plainAttrs_list PySem.F.slot_list_append PySem.F.type_list_append mt_append (pv 3) (pa_cons (pv 6) pa_nil)))) pss_nil)))
        (pss_one (ps_aug (i := 4) scReached.nd rfl (.inl rfl) pe_int ip_add)))))
      (pss_one (ps_ret (pe_callB (id := "sorted") (r := rSortedI K) cr_sortedI (by rfl) T.sorted (by decide +kernel) (pa_cons (pv 3) pa_nil)))))), ?_⟩
    have hs : 0 ≤ (st : Int) ∧ (st : Int) < m := by omega
    -- found = [start]; at = 0
    refine ⟨_, rfl, by show 1 ≤ sizeLine; decide, fun D hD => ?_⟩
    refine while_by (fun σ H1 => ∃ (i : Nat) (F : List Int) (v5 v6 : Option V), σ = [some (.ref R), some (.int st), some (.ref B), some (.ref D), some (.int i), v5, v6] ∧ Same H H1 ∧ H1 D = some (.lst (iL F)) ∧ Fnd m ts bar st F i) (fun σ _ => muR m σ)
      ⟨0, [(st : Int)], none, none, rfl, Same.put hD, upd_same, Fnd.start m ts bar st⟩ ?_ ?_
    · rintro σ H1 ⟨i, F, v5, v6, rfl, s1, d1, fn⟩
      refine ⟨_, rfl, _, rfl, D, iL F, rfl, .inl (SqL.of d1), (i : Int), _, rfl, rfl, _, rfl, ?_⟩
      rw [List.length_map]
      have hlen := fn.len g hs
      by_cases hi : i < F.length
      · refine yep_ (decide_eq_true (by omega)) ?_
        have ex : F[i]? = some F[i] := List.getElem?_eq_getElem hi
        generalize F[i] = x at ex
        have xF : x ∈ F := List.mem_of_getElem? ex
        have hx := (fn.rch x xF).inside g hs
        obtain ⟨n, rfl⟩ : ∃ n : Nat, x = n := ⟨x.toNat, by omega⟩
        have hn : n < m := by omega
        have R1 := hR.same s1
        obtain ⟨b, eb, ebr, hb⟩ := R1.get (rowsOf_at (ts := ts) hn)
        have hb0 : H b = some (.lst (iL (rowOf m ts n))) := by
          obtain ⟨b', eb', _, hb'⟩ := hR.get (rowsOf_at (ts := ts) hn)
          cases Option.some.inj (eb.symm.trans eb')
          exact hb'
        -- here = found[at]; for point in rows[here]
        refine ⟨_, rfl, _, rfl, D, iL F, (i : Int), .int n, rfl, rfl, SqL.of d1, atI_nat (iL_get ex), ?_⟩
        refine ⟨_, rfl, _, rfl, R, as.map V.ref, (n : Int), .ref b, rfl, rfl, SqL.of R1.top, atI_nat ebr, b, rfl, ⟨_, SqL.of hb⟩, for_list (K := K) (a := b) (xs := iL (rowOf m ts n))
          (fun q σ H2 => ∃ (G : List Int) (v6 : Option V), σ = [some (.ref R), some (.int st), some (.ref B), some (.ref D), some (.int i), some (.int n), v6] ∧ Same H H2 ∧ H2 D = some (.lst (iL (F ++ G))) ∧ FndT m ts bar st F n G q)
          ⟨[], _, rfl, s1, by rw [List.append_nil]; exact d1, FndT.start fn⟩ (fun q σ H2 _ ⟨_, _, _, s2, _⟩ => SqL.of (s2 _ _ hb0)) ?_ ?_⟩
        · rintro q y σ H2 hq ⟨G, v6, rfl, s2, d2, ft⟩
          obtain ⟨z, ez, rfl⟩ := iL_at hq
          -- if point not in barred and point not in found
          refine ⟨_, rfl, _, rfl, B, iL (barL bar), rfl, (hB.same s2).seq, rfl, flat_ints _, _, rfl, ?_⟩
          have einb := inV_ints (barL bar) z
          by_cases c1 : some z = bar
          · refine no_ (show (!inV (.int z) (iL (barL bar))) = false by rw [einb, decide_eq_true (in_bar.mpr c1)]; rfl) ?_
            refine iteF ?_
            exact ⟨G, _, rfl, s2, d2, ft.skip ez (.inl c1)⟩
          · refine yep_ (show (!inV (.int z) (iL (barL bar))) = true by rw [einb, decide_eq_false (fun h => c1 (in_bar.mp h))]; rfl) ?_
            refine ⟨_, rfl, _, rfl, D, iL (F ++ G), rfl, .inl (SqL.of d2), rfl, flat_ints _, _, rfl, ?_⟩
            have ein := inV_ints (F ++ G) z
            by_cases c2 : z ∈ F ++ G
            · refine no_ (show (!inV (.int z) (iL (F ++ G))) = false by rw [ein, decide_eq_true c2]; rfl) ?_
              exact ⟨G, _, rfl, s2, d2, ft.skip ez (.inr c2)⟩
            · refine yep_ (show (!inV (.int z) (iL (F ++ G))) = true by rw [ein, decide_eq_false c2]; rfl) ?_
              have ft' := ft.more g xF ez c1 c2
              have l : (F ++ G).length ≤ m := by
                have hp := ft.nd.length_le_of_subset (l₂ := pts m) fun x hx => mem_pts.mpr ((ft.rch x hx).inside g hs)
                rw [pts_len] at hp
                exact hp
              refine ⟨_, rfl, .inl ⟨rfl, _, SqL.of d2⟩, _, rfl, D, _, _, rfl, rfl, d2, by rw [List.length_map]; exact small (by omega), ?_⟩
              refine ⟨G ++ [z], _, rfl, Same.write s2 hD, ?_, ft'⟩
              rw [upd_same, ← List.append_assoc]
              unfold iL
              rw [List.map_append (l₁ := F ++ G)]
              rfl
        · rintro σ H2 ⟨G, v6, rfl, s2, d2, ft⟩
          rw [List.length_map] at ft
          refine ⟨_, rfl, (i : Int), 1, rfl, rfl, ⟨i + 1, F ++ G, _, _, rfl, s2, d2, FndT.next g fn ex ft⟩, ?_⟩
          show ((m : Int) - ((i : Int) + 1)).toNat < ((m : Int) - (i : Int)).toNat
          omega
      · refine no_ (decide_eq_false (by omega)) ?_
        have ei : i = F.length := by
          have := fn.le
          omega
        subst ei
        refine ⟨_, rfl, D, F, rfl, SqL.of d1, fun ns p hp ho hn => ?_⟩
        have e := fn.sorted g hs hp ho
        subst e
        exact k _ p (Same.step s1 hn) (s1.free hn) upd_same
    · rintro σ H1 Q1 Q2 hq ⟨v, e1, u, e2, p, ys, e3, h1, i, j, e4, e5, c, e6, q⟩
      exact ⟨v, e1, u, e2, p, ys, e3, h1, i, j, e4, e5, c, e6, hq _ _ q⟩
end
end Fd
namespace Fd
/-! ### labels -/
theorem Rch.mono {ts us : List Tie} {bar : Option Int} {x y : Int} (h : Rch ts bar x y) (hs : ∀ t ∈ ts, t ∈ us) : Rch us bar x y := by
  induction h with
  | here => exact .here
  | step _ a b ih => exact .step ih (a.elim (fun z => .inl (hs _ z)) fun z => .inr (hs _ z)) b
theorem Rch.trans {ts : List Tie} {bar : Option Int} {x y z : Int} (h1 : Rch ts bar x y) (h2 : Rch ts bar y z) : Rch ts bar x z := by
  induction h2 with
  | here => exact h1
  | step _ a b ih => exact .step ih a b
theorem Rch.symm0 {ts : List Tie} {x y : Int} (h : Rch ts none x y) : Rch ts none y x := by
  induction h with
  | here => exact .here
  | step _ a _ ih => exact (Rch.step .here a.symm (by simp)).trans ih
theorem rch_snoc {ts : List Tie} {a b x y : Int} : Rch (ts ++ [(a, b)]) none x y ↔ Rch ts none x y ∨ (Rch ts none x a ∧ Rch ts none b y) ∨ (Rch ts none x b ∧ Rch ts none a y) := by
  constructor
  · intro h
    induction h with
    | here => exact .inl .here
    | @step p q _ c _ ih =>
      have hc : Adj ts p q ∨ (p = a ∧ q = b) ∨ (p = b ∧ q = a) := by
        rcases c with c | c
        · rcases List.mem_append.mp c with c | c
          · exact .inl (.inl c)
          · have := List.mem_singleton.mp c
            exact .inr (.inl ⟨congrArg Prod.fst this, congrArg Prod.snd this⟩)
        · rcases List.mem_append.mp c with c | c
          · exact .inl (.inr c)
          · have := List.mem_singleton.mp c
            exact .inr (.inr ⟨congrArg Prod.snd this, congrArg Prod.fst this⟩)
      rcases hc with hc | ⟨rfl, rfl⟩ | ⟨rfl, rfl⟩
      · have e : Rch ts none p q := .step .here hc (by simp)
        rcases ih with i | ⟨i, j⟩ | ⟨i, j⟩
        · exact .inl (i.trans e)
        · exact .inr (.inl ⟨i, j.trans e⟩)
        · exact .inr (.inr ⟨i, j.trans e⟩)
      · rcases ih with i | ⟨i, j⟩ | ⟨i, j⟩
        · exact .inr (.inl ⟨i, .here⟩)
        · exact .inr (.inl ⟨i, .here⟩)
        · exact .inl i
      · rcases ih with i | ⟨i, j⟩ | ⟨i, j⟩
        · exact .inr (.inr ⟨i, .here⟩)
        · exact .inl i
        · exact .inr (.inr ⟨i, .here⟩)
  · have up : ∀ {u v : Int}, Rch ts none u v → Rch (ts ++ [(a, b)]) none u v := fun h => h.mono fun t ht => List.mem_append_left _ ht
    have ab : Rch (ts ++ [(a, b)]) none a b := .step .here (.inl (by simp)) (by simp)
    rintro (h | ⟨h1, h2⟩ | ⟨h1, h2⟩)
    · exact up h
    · exact (up h1).trans (ab.trans (up h2))
    · exact (up h1).trans (ab.symm0.trans (up h2))
def labStep (f : Int → Int) (t : Tie) (x : Int) : Int := if f x = max (f t.1) (f t.2) then min (f t.1) (f t.2) else f x
def labF (ts : List Tie) : Int → Int := ts.foldl labStep id
theorem labF_snoc (ts : List Tie) (t : Tie) : labF (ts ++ [t]) = labStep (labF ts) t := by
  unfold labF
  rw [List.foldl_append]
  rfl
structure LabOk (m : Nat) (ts : List Tie) (f : Int → Int) : Prop where
  same : ∀ x y : Int, 0 ≤ x → x < m → 0 ≤ y → y < m → (f x = f y ↔ Rch ts none x y)
  own : ∀ x : Int, 0 ≤ x → x < m → Rch ts none x (f x)
  low : ∀ x : Int, f x ≤ x
theorem lab_okE {m : Nat} : ∀ (n : Nat) {ts : List Tie}, ts.length = n → (∀ t ∈ ts, 0 ≤ t.1 ∧ t.1 < m ∧ 0 ≤ t.2 ∧ t.2 < m) → LabOk m ts (labF ts)
  | 0, ts, hn, _ => by
    have e : ts = [] := List.length_eq_zero_iff.mp hn
    subst e
    have only : ∀ x y : Int, Rch [] none x y → x = y := fun x y h => by
      induction h with
      | here => rfl
      | step _ a _ _ => rcases a with a | a <;> cases a
    exact ⟨fun x y _ _ _ _ => ⟨fun h => by have h : x = y := h; rw [h]; exact .here, only x y⟩, fun x _ _ => .here, fun x => Int.le_refl _⟩
  | n + 1, ts, hn, g => by
    obtain ⟨us, t, rfl⟩ : ∃ us t, ts = us ++ [t] := ⟨ts.dropLast, ts.getLast (by intro e; rw [e] at hn; cases hn), (List.dropLast_concat_getLast _).symm⟩
    have hl : us.length = n := by
      rw [List.length_append, List.length_singleton] at hn
      omega
    have gu : ∀ t ∈ us, 0 ≤ t.1 ∧ t.1 < m ∧ 0 ≤ t.2 ∧ t.2 < m := fun u h => g u (List.mem_append_left _ h)
    have ih := lab_okE n hl gu
    rw [labF_snoc]
    obtain ⟨a, b⟩ := t
    obtain ⟨a0, a1, b0, b1⟩ := g (a, b) (by simp)
    have a0 : 0 ≤ a := a0
    have a1 : a < m := a1
    have b0 : 0 ≤ b := b0
    have b1 : b < m := b1
    generalize labF us = f at ih
    have key : ∀ x, labStep f (a, b) x = if f x = max (f a) (f b) then min (f a) (f b) else f x := fun _ => rfl
    have la := ih.low a
    have lb := ih.low b
    refine ⟨fun x y x0 x1 y0 y1 => ?_, fun x x0 x1 => ?_, fun x => ?_⟩
    · rw [rch_snoc, ← ih.same x y x0 x1 y0 y1, ← ih.same x a x0 x1 a0 a1, ← ih.same b y b0 b1 y0 y1, ← ih.same x b x0 x1 b0 b1, ← ih.same a y a0 a1 y0 y1, key, key]
      split <;> split <;> omega
    · rw [rch_snoc, key]
      have ox := ih.own x x0 x1
      have oa := ih.own a a0 a1
      have ob := ih.own b b0 b1
      split
      · rename_i c
        rcases Int.le_total (f a) (f b) with h | h
        · rw [Int.max_eq_right h] at c
          rw [Int.min_eq_left h]
          exact .inr (.inr ⟨(ih.same x b x0 x1 b0 b1).mp c, oa⟩)
        · rw [Int.max_eq_left h] at c
          rw [Int.min_eq_right h]
          exact .inr (.inl ⟨(ih.same x a x0 x1 a0 a1).mp c, ob⟩)
      · exact .inl ox
    · rw [key]
      have lx := ih.low x
      split <;> omega
end Fd
namespace Fd
/-! ### blocks -/
theorem Rch.symmB {ts : List Tie} {b x y : Int} (h : Rch ts (some b) x y) (hx : x ≠ b) : Rch ts (some b) y x ∧ y ≠ b := by
  induction h with
  | here => exact ⟨.here, hx⟩
  | @step p q _ a c ih =>
    refine ⟨?_, fun z => c (by rw [z])⟩
    have one : Rch ts (some b) q p := .step .here a.symm fun z => ih.2 (Option.some.inj z)
    exact one.trans ih.1
noncomputable def ringL (m : Nat) (ts : List Tie) (hub fin : Int) : List Tie := ((rowOf m ts hub).filter fun q => decide (q ∈ reachL m ts (some hub) fin)).map fun q => norm (hub, q)
theorem mem_ringL {m : Nat} {ts : List Tie} (g : Good m ts) {hub fin : Int} (hf : 0 ≤ fin ∧ fin < m) {u : Tie} : u ∈ ringL m ts hub fin ↔ ∃ q, Adj ts hub q ∧ Rch ts (some hub) fin q ∧ u = norm (hub, q) := by
  unfold ringL
  rw [List.mem_map]
  constructor
  · rintro ⟨q, hq, e⟩
    rw [List.mem_filter, decide_eq_true_iff, mem_rowOf g, mem_reachL g hf] at hq
    exact ⟨q, hq.1, hq.2, e.symm⟩
  · rintro ⟨q, h1, h2, e⟩
    refine ⟨q, ?_, e.symm⟩
    rw [List.mem_filter, decide_eq_true_iff, mem_rowOf g, mem_reachL g hf]
    exact ⟨h1, h2⟩
theorem ringL_len (m : Nat) (ts : List Tie) (hub fin : Int) : (ringL m ts hub fin).length ≤ m := by
  unfold ringL
  rw [List.length_map]
  have h1 := List.length_filter_le (fun q => decide (q ∈ reachL m ts (some hub) fin)) (rowOf m ts hub)
  have h2 := rowOf_len m ts hub
  omega
/-- the ties that some ring goes along with t -/
noncomputable def nbT (m : Nat) (ts : List Tie) (t : Tie) : List Tie := ringL m ts t.1 t.2 ++ ringL m ts t.2 t.1
theorem norm_told {m : Nat} {ts : List Tie} (g : Good m ts) {p q : Int} (a : Adj ts p q) : norm (p, q) ∈ toldT m ts := by
  have ne : p ≠ q := by
    rcases a with a | a
    · exact (g.rng _ a).2.2.2.2
    · exact fun e => (g.rng _ a).2.2.2.2 e.symm
  rw [mem_toldT g]
  unfold norm
  rcases Int.lt_or_gt_of_ne ne with h | h
  · rw [Int.min_eq_left (Int.le_of_lt h), Int.max_eq_right (Int.le_of_lt h)]
    exact ⟨h, a⟩
  · rw [Int.min_eq_right (Int.le_of_lt h), Int.max_eq_left (Int.le_of_lt h)]
    exact ⟨h, a.symm⟩
theorem told_rng {m : Nat} {ts : List Tie} (g : Good m ts) {t : Tie} (h : t ∈ toldT m ts) : 0 ≤ t.1 ∧ t.1 < t.2 ∧ t.2 < m ∧ Adj ts t.1 t.2 := by
  obtain ⟨h1, h2⟩ := (mem_toldT g).mp h
  rcases id h2 with a | a
  · have := g.rng _ a
    exact ⟨this.1, h1, this.2.2.2.1, h2⟩
  · have := g.rng _ a
    exact ⟨this.2.2.1, h1, this.2.1, h2⟩
/-- p is an end of t -/
def hasP (t : Tie) (p : Int) : Prop := t.1 = p ∨ t.2 = p
/-- the other end of t -/
def oth (t : Tie) (p : Int) : Int := t.1 + t.2 - p
theorem oth_cases {t : Tie} {p : Int} (h : hasP t p) : (t.1 = p ∧ oth t p = t.2) ∨ (t.2 = p ∧ oth t p = t.1) := by
  unfold oth
  rcases h with h | h
  · left
    omega
  · right
    omega
/-- what nbT says, by a common point -/
theorem mem_nbT {m : Nat} {ts : List Tie} (g : Good m ts) {t u : Tie} (ht : t ∈ toldT m ts) : u ∈ nbT m ts t ↔ u ∈ toldT m ts ∧ ∃ p, hasP t p ∧ hasP u p ∧ Rch ts (some p) (oth t p) (oth u p) := by
  obtain ⟨t0, tlt, tm, ta⟩ := told_rng g ht
  have one : ∀ p f : Int, (0 ≤ f ∧ f < m) → (u ∈ ringL m ts p f ↔ u ∈ toldT m ts ∧ hasP u p ∧ Rch ts (some p) f (oth u p)) := fun p f hf => by
    rw [mem_ringL g hf]
    constructor
    · rintro ⟨q, a, r, rfl⟩
      refine ⟨norm_told g a, ?_⟩
      rcases norm_cases (p, q) with e | e
      · rw [e]
        exact ⟨.inl rfl, by show Rch ts (some p) f (p + q - p); rw [show p + q - p = q by omega]; exact r⟩
      · rw [e]
        exact ⟨.inr rfl, by show Rch ts (some p) f (q + p - p); rw [show q + p - p = q by omega]; exact r⟩
    · rintro ⟨hu, hp, r⟩
      obtain ⟨u0, ult, um, ua⟩ := told_rng g hu
      have nu : norm u = u := by
        unfold norm
        rw [Int.min_eq_left (Int.le_of_lt ult), Int.max_eq_right (Int.le_of_lt ult)]
      rcases oth_cases hp with ⟨e1, e2⟩ | ⟨e1, e2⟩
      · refine ⟨u.2, by rw [← e1]; exact ua, by rw [← e2]; exact r, ?_⟩
        rw [← e1]
        exact nu.symm
      · refine ⟨u.1, by rw [← e1]; exact ua.symm, by rw [← e2]; exact r, ?_⟩
        rw [← e1, ← nu]
        unfold norm
        rw [Int.min_comm, Int.max_comm]
        simp only [Int.min_eq_left (Int.le_of_lt ult), Int.max_eq_right (Int.le_of_lt ult), Int.min_eq_right (Int.le_of_lt ult), Int.max_eq_left (Int.le_of_lt ult)]
  unfold nbT
  rw [List.mem_append, one t.1 t.2 (by omega), one t.2 t.1 (by omega)]
  constructor
  · rintro (⟨h1, h2, h3⟩ | ⟨h1, h2, h3⟩)
    · exact ⟨h1, t.1, .inl rfl, h2, by rw [show oth t t.1 = t.2 by unfold oth; omega]; exact h3⟩
    · exact ⟨h1, t.2, .inr rfl, h2, by rw [show oth t t.2 = t.1 by unfold oth; omega]; exact h3⟩
  · rintro ⟨h1, p, h2, h3, h4⟩
    rcases oth_cases h2 with ⟨e1, e2⟩ | ⟨e1, e2⟩
    · left
      rw [e2] at h4
      rw [e1]
      exact ⟨h1, h3, h4⟩
    · right
      rw [e2] at h4
      rw [e1]
      exact ⟨h1, h3, h4⟩
theorem nbT_symm {m : Nat} {ts : List Tie} (g : Good m ts) {t u : Tie} (ht : t ∈ toldT m ts) (h : u ∈ nbT m ts t) : t ∈ nbT m ts u := by
  obtain ⟨hu, p, h1, h2, h3⟩ := (mem_nbT g ht).mp h
  refine (mem_nbT g hu).mpr ⟨ht, p, h2, h1, (h3.symmB ?_).1⟩
  obtain ⟨_, l, _, _⟩ := told_rng g ht
  rcases oth_cases h1 with ⟨e1, e2⟩ | ⟨e1, e2⟩ <;> omega
/-- in a block with t -/
inductive Blk (m : Nat) (ts : List Tie) (t : Tie) : Tie → Prop
  | here : Blk m ts t t
  | step {u v : Tie} : Blk m ts t u → v ∈ nbT m ts u → Blk m ts t v
theorem Blk.told {m : Nat} {ts : List Tie} (g : Good m ts) {t u : Tie} (ht : t ∈ toldT m ts) (h : Blk m ts t u) : u ∈ toldT m ts := by
  induction h with
  | here => exact ht
  | step _ a ih => exact ((mem_nbT g ih).mp a).1
theorem Blk.trans {m : Nat} {ts : List Tie} {t u v : Tie} (h1 : Blk m ts t u) (h2 : Blk m ts u v) : Blk m ts t v := by
  induction h2 with
  | here => exact h1
  | step _ a ih => exact .step ih a
theorem Blk.symm {m : Nat} {ts : List Tie} (g : Good m ts) {t u : Tie} (ht : t ∈ toldT m ts) (h : Blk m ts t u) : Blk m ts u t := by
  induction h with
  | here => exact .here
  | step k a ih => exact (Blk.step .here (nbT_symm g (k.told g ht) a)).trans ih
noncomputable def blkL (m : Nat) (ts : List Tie) (t : Tie) : List Tie := (toldT m ts).filter fun u => @decide (Blk m ts t u) (Classical.propDecidable _)
theorem mem_blkL {m : Nat} {ts : List Tie} (g : Good m ts) {t u : Tie} (ht : t ∈ toldT m ts) : u ∈ blkL m ts t ↔ Blk m ts t u := by
  unfold blkL
  rw [List.mem_filter, @decide_eq_true_iff _ (Classical.propDecidable _)]
  exact ⟨fun h => h.2, fun h => ⟨h.told g ht, h⟩⟩
theorem blkL_strict {m : Nat} {ts : List Tie} (g : Good m ts) (t : Tie) : (blkL m ts t).Pairwise lexT := (toldT_strict g).filter _
theorem blkL_len {m : Nat} {ts : List Tie} (g : Good m ts) (t : Tie) : (blkL m ts t).length ≤ ts.length := by
  have h := List.length_filter_le (fun u => @decide (Blk m ts t u) (Classical.propDecidable _)) (toldT m ts)
  rw [toldT_len g] at h
  exact h
/-- the first of its block -/
noncomputable def headT (m : Nat) (ts : List Tie) (t : Tie) : Bool := decide ((blkL m ts t)[0]? = some t)
noncomputable def blocksL (m : Nat) (ts : List Tie) : List (List Tie) := ((toldT m ts).filter (headT m ts)).map (blkL m ts)
end Fd
namespace Fd
theorem lex_asym {a b : Tie} (h : lexT a b) : ¬ lexT b a := by
  unfold lexT at h ⊢
  omega
theorem told_lex {m : Nat} {ts : List Tie} (g : Good m ts) {i j : Nat} {t u : Tie} (h : i < j) (hi : (toldT m ts)[i]? = some t) (hj : (toldT m ts)[j]? = some u) : lexT t u := by
  obtain ⟨a1, a2⟩ := List.getElem?_eq_some_iff.mp hi
  obtain ⟨b1, b2⟩ := List.getElem?_eq_some_iff.mp hj
  rw [← a2, ← b2]
  exact (List.pairwise_iff_getElem.mp (toldT_strict g)) i j a1 b1 h
theorem told_inj {m : Nat} {ts : List Tie} (g : Good m ts) {i j : Nat} {t : Tie} (hi : (toldT m ts)[i]? = some t) (hj : (toldT m ts)[j]? = some t) : i = j := by
  rcases Nat.lt_trichotomy i j with h | h | h
  · have := told_lex g h hi hj
    exact absurd this (lex_asym this)
  · exact h
  · have := told_lex g h hj hi
    exact absurd this (lex_asym this)
/-- the first of a block -/
theorem blk_first {m : Nat} {ts : List Tie} (g : Good m ts) {t : Tie} (ht : t ∈ toldT m ts) : ∃ c, (blkL m ts t)[0]? = some c ∧ Blk m ts t c ∧ ∀ u, Blk m ts t u → u = c ∨ lexT c u := by
  have hm := (mem_blkL g ht).mpr .here
  have hs := blkL_strict g t
  have mem := fun u => mem_blkL g (u := u) ht
  cases e : blkL m ts t with
  | nil =>
    rw [e] at hm
    cases hm
  | cons c r =>
    rw [e] at hs mem
    refine ⟨c, rfl, (mem c).mp List.mem_cons_self, fun u hu => ?_⟩
    rcases List.mem_cons.mp ((mem u).mpr hu) with q | q
    · exact .inl q
    · exact .inr ((List.pairwise_cons.mp hs).1 u q)
theorem head_iff {m : Nat} {ts : List Tie} (g : Good m ts) {i : Nat} {t : Tie} (hi : (toldT m ts)[i]? = some t) : headT m ts t = true ↔ ∀ (j : Nat) (u : Tie), j < i → (toldT m ts)[j]? = some u → ¬ Blk m ts u t := by
  have ht := List.mem_of_getElem? hi
  obtain ⟨c, e, hc, hl⟩ := blk_first g ht
  unfold headT
  rw [decide_eq_true_iff, e]
  constructor
  · intro z j u hj hu b
    have ec : c = t := Option.some.inj z
    subst ec
    have lt := told_lex g hj hu hi
    rcases hl u (b.symm g (List.mem_of_getElem? hu)) with q | q
    · rw [q] at lt
      exact lex_asym lt lt
    · exact lex_asym lt q
  · intro z
    rcases hl t .here with q | q
    · rw [q]
    · obtain ⟨j, hj⟩ := List.mem_iff_getElem?.mp (hc.told g ht)
      rcases Nat.lt_trichotomy j i with h | h | h
      · exact absurd (hc.symm g ht) (z j c h hj)
      · subst h
        rw [Option.some.inj (hj.symm.trans hi)]
      · exact absurd (told_lex g h hi hj) (lex_asym q)
/-! ### by labels -/
def tk (m : Nat) (ts : List Tie) (k : Int) : Tie := (toldT m ts).getD k.toNat (0, 0)
theorem tk_at {m : Nat} {ts : List Tie} {k : Nat} (h : k < (toldT m ts).length) : (toldT m ts)[k]? = some (tk m ts k) := by
  unfold tk
  rw [Int.toNat_natCast, List.getD_eq_getElem?_getD, List.getElem?_eq_getElem h]
  rfl
theorem tk_map (m : Nat) (ts : List Tie) : (pts (toldT m ts).length).map (tk m ts) = toldT m ts := by
  refine List.ext_getElem? fun i => ?_
  by_cases h : i < (toldT m ts).length
  · rw [List.getElem?_map, pts_at h, tk_at h]
    rfl
  · rw [List.getElem?_eq_none (by rw [List.length_map, pts_len]; omega), List.getElem?_eq_none (by omega)]
/-- what is merged: of each two ties with a common point whether a going without the point leads from the one to the other -/
structure Edges (m : Nat) (ts : List Tie) (E : List Tie) : Prop where
  rng : ∀ e ∈ E, 0 ≤ e.1 ∧ e.1 < (toldT m ts).length ∧ 0 ≤ e.2 ∧ e.2 < (toldT m ts).length
  iff : ∀ k j : Nat, k < (toldT m ts).length → j < (toldT m ts).length → (((k : Int), (j : Int)) ∈ E ↔ tk m ts j ∈ nbT m ts (tk m ts k))
theorem edge_conn {m : Nat} {ts E : List Tie} (g : Good m ts) (h : Edges m ts E) {k : Nat} (hk : k < (toldT m ts).length) : (∀ j : Int, Rch E none k j → ∃ jn : Nat, j = jn ∧ jn < (toldT m ts).length ∧ Blk m ts (tk m ts k) (tk m ts jn)) ∧
    (∀ u, Blk m ts (tk m ts k) u → ∀ j : Nat, (toldT m ts)[j]? = some u → Rch E none k j) := by
  constructor
  · intro j r
    induction r with
    | here => exact ⟨k, rfl, hk, .here⟩
    | @step p q _ a _ ih =>
      obtain ⟨pn, rfl, hp, b⟩ := ih
      have hpm := List.mem_of_getElem? (tk_at hp)
      rcases a with a | a
      · obtain ⟨_, _, q0, q1⟩ := h.rng _ a
        obtain ⟨qn, rfl⟩ : ∃ qn : Nat, q = qn := ⟨q.toNat, by have : 0 ≤ q := q0; omega⟩
        have hq : qn < (toldT m ts).length := by have : ((qn : Int) < (toldT m ts).length) := q1; omega
        exact ⟨qn, rfl, hq, .step b ((h.iff pn qn hp hq).mp a)⟩
      · obtain ⟨q0, q1, _, _⟩ := h.rng _ a
        obtain ⟨qn, rfl⟩ : ∃ qn : Nat, q = qn := ⟨q.toNat, by have : 0 ≤ q := q0; omega⟩
        have hq : qn < (toldT m ts).length := by have : ((qn : Int) < (toldT m ts).length) := q1; omega
        exact ⟨qn, rfl, hq, .step b (nbT_symm g (List.mem_of_getElem? (tk_at hq)) ((h.iff qn pn hq hp).mp a))⟩
  · intro u b
    induction b with
    | here =>
      intro j hj
      rw [told_inj g hj (tk_at hk)]
      exact .here
    | @step u v b a ih =>
      intro j hj
      have hu := b.told g (List.mem_of_getElem? (tk_at hk))
      obtain ⟨i, hi⟩ := List.mem_iff_getElem?.mp hu
      have hi2 := (List.getElem?_eq_some_iff.mp hi).1
      have hj2 := (List.getElem?_eq_some_iff.mp hj).1
      refine .step (ih i hi) (.inl ((h.iff i j hi2 hj2).mpr ?_)) (by simp)
      rw [← Option.some.inj (hi.symm.trans (tk_at hi2)), ← Option.some.inj (hj.symm.trans (tk_at hj2))]
      exact a
theorem edge_blk {m : Nat} {ts E : List Tie} (g : Good m ts) (h : Edges m ts E) {k j : Nat} (hk : k < (toldT m ts).length) (hj : j < (toldT m ts).length) : labF E k = labF E j ↔ Blk m ts (tk m ts k) (tk m ts j) := by
  have L := lab_okE E.length rfl h.rng
  rw [L.same k j (by omega) (by omega) (by omega) (by omega)]
  obtain ⟨c1, c2⟩ := edge_conn g h hk
  constructor
  · intro r
    obtain ⟨jn, e, _, b⟩ := c1 _ r
    have : j = jn := by omega
    subst this
    exact b
  · exact fun b => c2 _ b j (tk_at hj)
theorem edge_head {m : Nat} {ts E : List Tie} (g : Good m ts) (h : Edges m ts E) {k : Nat} (hk : k < (toldT m ts).length) : headT m ts (tk m ts k) = true ↔ labF E k = k := by
  have L := lab_okE E.length rfl h.rng
  rw [head_iff g (tk_at hk)]
  constructor
  · intro z
    have lo := L.low k
    obtain ⟨jn, e, hj, b⟩ := (edge_conn g h hk).1 _ (L.own k (by omega) (by omega))
    rw [e] at lo ⊢
    rcases Nat.lt_or_ge jn k with c | c
    · exact absurd (b.symm g (List.mem_of_getElem? (tk_at hk))) (z jn _ c (tk_at hj))
    · omega
  · intro z j u hj hu b
    have hj2 := (List.getElem?_eq_some_iff.mp hu).1
    rw [Option.some.inj (hu.symm.trans (tk_at hj2))] at b
    have e := (edge_blk g h hj2 hk).mpr b
    have lo := L.low j
    omega
noncomputable def rowT (m : Nat) (ts E : List Tie) (l : Int) : List Tie := ((pts (toldT m ts).length).filter fun k => decide (labF E k = l)).map (tk m ts)
theorem rowT_eq {m : Nat} {ts E : List Tie} (g : Good m ts) (h : Edges m ts E) {l : Nat} (hl : l < (toldT m ts).length) : (rowT m ts E l ≠ [] ↔ headT m ts (tk m ts l) = true) ∧ (headT m ts (tk m ts l) = true → rowT m ts E l = blkL m ts (tk m ts l)) := by
  have L := lab_okE E.length rfl h.rng
  constructor
  · rw [edge_head g h hl]
    constructor
    · intro z
      obtain ⟨u, hu⟩ := List.exists_mem_of_ne_nil _ z
      obtain ⟨k, hk, _⟩ := List.mem_map.mp hu
      rw [List.mem_filter, decide_eq_true_iff, mem_pts] at hk
      obtain ⟨⟨k0, k1⟩, e⟩ := hk
      have r := L.own k k0 k1
      rw [e] at r
      have q := (L.same k l k0 k1 (by omega) (by omega)).mpr r
      omega
    · intro e z
      have : tk m ts l ∈ rowT m ts E l := List.mem_map.mpr ⟨l, by rw [List.mem_filter, decide_eq_true_iff, mem_pts]; exact ⟨by omega, e⟩, rfl⟩
      rw [z] at this
      cases this
  · intro z
    have e := (edge_head g h hl).mp z
    have q : blkL m ts (tk m ts l) = ((pts (toldT m ts).length).map (tk m ts)).filter fun u => @decide (Blk m ts (tk m ts l) u) (Classical.propDecidable _) := by
      rw [tk_map]
      rfl
    rw [q, List.filter_map]
    unfold rowT
    refine congrArg _ (List.filter_congr fun k hk => ?_)
    obtain ⟨k0, k1⟩ := mem_pts.mp hk
    obtain ⟨kn, rfl⟩ : ∃ kn : Nat, k = kn := ⟨k.toNat, by omega⟩
    rw [Bool.eq_iff_iff, decide_eq_true_iff]
    show _ ↔ @decide _ (Classical.propDecidable _) = true
    rw [@decide_eq_true_iff _ (Classical.propDecidable _), ← edge_blk g h hl (by omega), e]
    exact ⟨fun z => z.symm, fun z => z.symm⟩
theorem due_blocks {m : Nat} {ts E : List Tie} (g : Good m ts) (h : Edges m ts E) : ((pts (toldT m ts).length).map (rowT m ts E)).filter (fun r => decide (r ≠ [])) = blocksL m ts := by
  have go : ∀ l : List Int, (∀ x ∈ l, 0 ≤ x ∧ x < (toldT m ts).length) → (l.map (rowT m ts E)).filter (fun r => decide (r ≠ [])) = ((l.map (tk m ts)).filter (headT m ts)).map (blkL m ts) := fun l hl => by
    induction l with
    | nil => rfl
    | cons x l ih =>
      obtain ⟨x0, x1⟩ := hl x List.mem_cons_self
      have ih := ih fun y hy => hl y (List.mem_cons_of_mem _ hy)
      obtain ⟨xn, rfl⟩ : ∃ xn : Nat, x = xn := ⟨x.toNat, by omega⟩
      obtain ⟨d1, d2⟩ := rowT_eq g h (l := xn) (by omega)
      rw [List.map_cons, List.map_cons]
      by_cases c : headT m ts (tk m ts xn) = true
      · rw [List.filter_cons, List.filter_cons, if_pos (show decide (rowT m ts E xn ≠ []) = true from decide_eq_true (d1.mpr c)), if_pos c, List.map_cons, ih, d2 c]
      · rw [List.filter_cons, List.filter_cons, if_neg (show ¬ decide (rowT m ts E xn ≠ []) = true from fun z => c (d1.mp (of_decide_eq_true z))), if_neg c, ih]
  rw [go _ fun x hx => mem_pts.mp hx, tk_map]
  rfl
end Fd
namespace Fd
open PySem PySem.Spec PyProof.Rows L2
/-! ### going on from what is found -/
structure Gr {α : Type} (R : α → α → Prop) (ok : α → Prop) (s : α) (F : List α) (i : Nat) : Prop where
  nd : F.Nodup
  rch : ∀ x ∈ F, ok x
  has : s ∈ F
  le : i ≤ F.length
  done : ∀ (j : Nat) (x y : α), j < i → F[j]? = some x → R x y → y ∈ F
structure GrT {α : Type} (ok : α → Prop) (F G M : List α) : Prop where
  nd : (F ++ G).Nodup
  rch : ∀ y ∈ F ++ G, ok y
  took : ∀ y ∈ M, y ∈ F ++ G
section
variable {α : Type} {R : α → α → Prop} {ok : α → Prop} {s x y : α} {F G M : List α} {i : Nat}
theorem Gr.start (h : ok s) : Gr R ok s [s] 0 := ⟨by simp, fun x hx => by rw [List.mem_singleton.mp hx]; exact h, by simp, Nat.zero_le _, fun j x y h => by omega⟩
theorem Gr.turn (h : Gr R ok s F i) : GrT ok F [] [] := ⟨by rw [List.append_nil]; exact h.nd, by rw [List.append_nil]; exact h.rch, fun q hq => by cases hq⟩
theorem GrT.skip (h : GrT ok F G M) (hy : y ∈ F ++ G) : GrT ok F G (M ++ [y]) := ⟨h.nd, h.rch, fun q hq => (List.mem_append.mp hq).elim (h.took q) fun z => by rw [List.mem_singleton.mp z]; exact hy⟩
theorem GrT.more (h : GrT ok F G M) (hy : y ∉ F ++ G) (r : ok y) : GrT ok F (G ++ [y]) (M ++ [y]) := by
  refine ⟨?_, fun q hq => ?_, fun q hq => ?_⟩
  · rw [← List.append_assoc]
    refine List.nodup_append.mpr ⟨h.nd, by simp, fun u hu v hv z => ?_⟩
    rw [List.mem_singleton.mp hv] at z
    exact hy (z ▸ hu)
  · rw [← List.append_assoc] at hq
    rcases List.mem_append.mp hq with hq | hq
    · exact h.rch q hq
    · rw [List.mem_singleton.mp hq]
      exact r
  · rw [← List.append_assoc]
    rcases List.mem_append.mp hq with hq | hq
    · exact List.mem_append_left _ (h.took q hq)
    · exact List.mem_append_right _ hq
theorem Gr.next (h0 : Gr R ok s F i) (ex : F[i]? = some x) (h : GrT ok F G M) (all : ∀ y, R x y → y ∈ M) : Gr R ok s (F ++ G) (i + 1) := by
  have hi : i < F.length := (List.getElem?_eq_some_iff.mp ex).1
  refine ⟨h.nd, h.rch, List.mem_append_left _ h0.has, by rw [List.length_append]; omega, fun j u q hj eu a => ?_⟩
  have hjF : j < F.length := by omega
  rw [List.getElem?_append_left hjF] at eu
  by_cases e : j = i
  · subst e
    cases Option.some.inj (eu.symm.trans ex)
    exact h.took q (all q a)
  · exact List.mem_append_left _ (h0.done j u q (by omega) eu a)
theorem Gr.closed (h : Gr R ok s F F.length) {u v : α} (hu : u ∈ F) (r : R u v) : v ∈ F := by
  obtain ⟨j, hj⟩ := List.mem_iff_getElem?.mp hu
  exact h.done j u v (List.getElem?_eq_some_iff.mp hj).1 hj r
end
theorem paired_perm {α β : Type} {F : α → β → Prop} {ys xs : List α} (h : ys.Perm xs) : ∀ {us : List β}, Paired F xs us → ∃ vs, Paired F ys vs ∧ vs.Perm us := by
  induction h with
  | nil => exact fun p => ⟨_, p, List.Perm.refl _⟩
  | cons x _ ih =>
    intro us p
    cases p with
    | cons r t =>
      obtain ⟨vs, p1, p2⟩ := ih t
      exact ⟨_, .cons r p1, p2.cons _⟩
  | swap x y l =>
    intro us p
    cases p with
    | cons r t =>
      cases t with
      | cons r2 t2 => exact ⟨_, .cons r2 (.cons r t2), List.Perm.swap _ _ _⟩
  | trans _ _ ih1 ih2 =>
    intro us p
    obtain ⟨vs, p1, p2⟩ := ih2 p
    obtain ⟨zs, p3, p4⟩ := ih1 p1
    exact ⟨zs, p3, p4.trans p2⟩
theorem tupI_pair {K : PySem.W.Frag} {H : Hp} {x : V} {t : Tie} (h : PairAt H x t) : TupI K H x [t.1, t.2] := by
  obtain ⟨a, e, k⟩ := h
  exact ⟨a, e, SqT.of k⟩
theorem paired_pw {α β : Type} {F : α → β → Prop} {A : α → α → Prop} {B : β → β → Prop} (ab : ∀ x y u v, F x u → F y v → A x y → B u v) : ∀ {xs : List α} {us : List β}, Paired F xs us → xs.Pairwise A → us.Pairwise B
  | _, _, .nil, _ => .nil
  | _, _, .cons r t, h => by
    obtain ⟨h1, h2⟩ := List.pairwise_cons.mp h
    refine List.pairwise_cons.mpr ⟨fun v hv => ?_, paired_pw ab t h2⟩
    obtain ⟨j, hj⟩ := List.mem_iff_getElem?.mp hv
    obtain ⟨y, hy, ry⟩ := paired_get' t hj
    exact ab _ _ _ _ r ry (h1 y (List.mem_of_getElem? hy))
/-- sorted pairs -/
theorem sort_pairs {K : PySem.W.Frag} {H : Hp} {xs ys : List V} {us : List Tie} (p : PairsAt H xs us) (perm : ys.Perm xs) (srt : ys.Pairwise (fun x y => ∀ n m, TupI K H x n → TupI K H y m → TS.code 64 n ≤ TS.code 64 m)) (nd : us.Nodup) (b : ∀ t ∈ us, 0 ≤ t.1 ∧ t.1 < 64 ∧ 0 ≤ t.2 ∧ t.2 < 64) :
    ∃ vs, PairsAt H ys vs ∧ vs.Perm us ∧ vs.Pairwise lexT := by
  obtain ⟨vs, p1, p2⟩ := paired_perm perm p
  refine ⟨vs, p1, p2, ?_⟩
  have h1 : vs.Pairwise fun t u => TS.code 64 [t.1, t.2] ≤ TS.code 64 [u.1, u.2] := paired_pw (fun x y u v hx hy h => h _ _ (tupI_pair hx) (tupI_pair hy)) p1 srt
  have h2 : vs.Nodup := p2.nodup_iff.mpr nd
  refine List.Pairwise.imp_of_mem (fun {t u} ht hu h => ?_) (h1.and h2)
  obtain ⟨a1, a2, a3, a4⟩ := b t (p2.mem_iff.mp ht)
  obtain ⟨b1, b2, b3, b4⟩ := b u (p2.mem_iff.mp hu)
  refine pair_lt h.1 (fun e => h.2 ?_) ⟨a1, a2⟩ ⟨a3, a4⟩ ⟨b1, b2⟩ ⟨b3, b4⟩
  injection e with e1 e2
  injection e2 with e2 _
  exact Prod.ext e1 e2
end Fd
namespace Fd
open PySem PySem.Spec PyProof.Rows L2
def rMin2 : List V → Hp → VK → Prop := fun xs H Q => ∃ i j, xs = [.int i, .int j] ∧ Q (.int (if j < i then j else i)) H
def rMax2 : List V → Hp → VK → Prop := fun xs H Q => ∃ i j, xs = [.int i, .int j] ∧ Q (.int (if j > i then j else i)) H
theorem min_eq (i j : Int) : (if j < i then j else i) = min i j := by split <;> omega
theorem max_eq (i j : Int) : (if j > i then j else i) = max i j := by split <;> omega
structure BTxt (K : PySem.W.Frag) (mg : Str → Option Value) (C : Addr) : Prop where
  min : mg "min" = none
  max : mg "max" = none
  set : mg "set" = none
  fR : FnR K mg
  fRinged : Fn K mg "_ringed" sRinged ["rows", "hub", "end"]
  fBlock : Fn K mg "_block" sBlock ["rows", "first"]
  fBlocks : Fn K mg "blocks" sBlocks ["web"]
def spRinged (K : PySem.W.Frag) : Sp := fun vs H Q _ => ∃ (R : Addr) (as : List Addr) (m : Nat) (ts : List Tie) (hub fin : Nat), vs = [.ref R, .int hub, .int fin] ∧ RdRows H R as (rowsOf m ts) ∧ Good m ts ∧ m ≤ 16 ∧ hub < m ∧ fin < m ∧
  ∀ (H' : Hp) (D : Addr) (ws : List V), Same H H' → H D = none → H' D = some (.lst ws) → PairsAt H' ws (ringL m ts hub fin) → Q (.ref D) H'
section
variable {P : Program} {w : World} {K : PySem.W.Frag} {mg : Str → Option Value} {base : Heap} {C : Addr}
abbrev nRinged : List Str := ["rows", "hub", "end", "near", "point"]
theorem scRinged : FnScope ["rows", "hub", "end", "near", "point"] ["rows", "hub", "end"] (defScope sRinged) := ⟨rfl, rfl, rfl, by decide +kernel, rfl, by decide +kernel, by decide +kernel⟩
theorem c_ringed (T : WTxt K mg C) (B : BTxt K mg C) : C8.Cal P w K mg base 2 "_ringed" (spRinged K) [] := by
  refine cal_of B.fRinged scRinged (fun vs H Q E h => ?_) (fun f cdv A outer s H vs Q E hr h => ?_)
  · obtain ⟨R, as, m, ts, hub, fin, rfl, _⟩ := h
    rfl
  · obtain ⟨R, as, m, ts, hub, fin, rfl, hR, g, m16, hh, hf, k⟩ := h
    obtain ⟨B0, hB0, _, cR⟩ := c_reached (P := P) (w := w) (base := base) T B.fR
    refine ⟨_, pss_cons (ps_set (i := 3) scRinged.nd rfl (Or.inr rfl) (C8.pe_c cR hr (by decide) (by rfl) (pa_cons (pv 0) (pa_cons (pv 2) (pa_cons (pe_lst (pa_cons (pv 1) pa_nil)) pa_nil)))))
      (pss_one (ps_ret (pe_lc (own := [("point", 4)]) (g := gName 4) (tt := tTest (tOp (rIn K false) (tVar 4) (tVar 3))) (te := tTup (tCons (tCB rMin2 (tCons (tVar 1) (tCons (tVar 4) tNil))) (tCons (tCB rMax2 (tCons (tVar 1) (tCons (tVar 4) tNil))) tNil)))
        (by rfl) scRinged.nd (pi_list (pe_ix ix_list (pv 0) (pv 1) (fun _ _ => rfl)))
        (blkOk_by (own := [("point", 4)]) (N := nRinged) (sc := defScope sRinged) (by decide +kernel)) (fun _ _ _ _ _ => pg_name (i := 4) scRinged.nd rfl (Or.inl rfl))
        (fun _ _ _ _ _ => pts_one (pt_cmpR op_in_seq (pv 4) (pv 3) (by rfl)))
        (fun _ _ _ _ _ => pe_tup (pa_cons (pe_callB (id := "min") (r := rMin2) (call_min2 rfl) (by rfl) B.min (by decide +kernel) (pa_cons (pv 1) (pa_cons (pv 4) pa_nil))) (pa_cons (pe_callB (id := "max") (r := rMax2) (call_max2 rfl) (by rfl) B.max (by decide +kernel) (pa_cons (pv 1) (pa_cons (pv 4) pa_nil))) pa_nil)))))), ?_⟩
    refine ⟨_, rfl, _, rfl, _, rfl, by show 1 ≤ sizeLine; decide, fun B1 hB1 => ?_⟩
    refine ⟨R, as, m, ts, fin, some (hub : Int), B1, rfl, .inl upd_same, hR.same (Same.put hB1), g, m16, hf, fun H1 D1 s1 hD1 d1 => ?_⟩
    replace s1 := (Same.put hB1).trans s1
    have R1 := hR.same s1
    obtain ⟨b, eb, ebr, hb⟩ := R1.get (rowsOf_at (ts := ts) hh)
    refine ⟨_, rfl, _, rfl, R, as.map V.ref, (hub : Int), .ref b, rfl, rfl, SqL.of R1.top, atI_nat ebr, b, rfl, ⟨_, SqL.of hb⟩, fun D hD => ?_⟩
    have tak : ∀ (i : Nat) (q : Int), (rowOf m ts hub)[i]? = some q → ((rowOf m ts hub).take (i + 1)).filter (fun q => decide (q ∈ reachL m ts (some (hub : Int)) fin)) = ((rowOf m ts hub).take i).filter (fun q => decide (q ∈ reachL m ts (some (hub : Int)) fin)) ++ (if q ∈ reachL m ts (some (hub : Int)) fin then [q] else []) := fun i q e => by
      rw [take_next e, List.filter_append]
      by_cases c : q ∈ reachL m ts (some (hub : Int)) fin
      · rw [if_pos c]
        simp [c]
      · rw [if_neg c]
        simp [c]
    refine lc_list (K := K) (a := b) (xs := iL (rowOf m ts hub)) (fun i H2 => Same H1 H2 ∧ ∃ ws, H2 D = some (.lst ws) ∧ PairsAt H2 ws ((((rowOf m ts hub).take i).filter fun q => decide (q ∈ reachL m ts (some (hub : Int)) fin)).map fun q => norm ((hub : Int), q)))
      ⟨Same.put hD, [], upd_same, .nil⟩ (fun i H2 _ ⟨s2, _⟩ => SqL.of (s2 _ _ hb)) (fun i x H2 hi ⟨s2, ws, d2, p2⟩ => ?_) (fun H2 ⟨s2, ws, d2, p2⟩ => ?_)
    · obtain ⟨z, ez, rfl⟩ := iL_at hi
      refine ⟨rfl, ?_⟩
      refine ⟨_, rfl, _, rfl, D1, iL (reachL m ts (some (hub : Int)) fin), rfl, .inl (SqL.of (s2 _ _ d1)), rfl, flat_ints _, _, rfl, ?_⟩
      have ein := inV_ints (reachL m ts (some (hub : Int)) fin) z
      rw [tak i z ez]
      by_cases c : z ∈ reachL m ts (some (hub : Int)) fin
      · refine yep_ (show inV (.int z) (iL (reachL m ts (some (hub : Int)) fin)) = true by rw [ein, decide_eq_true c]) ?_
        refine ⟨_, rfl, _, rfl, _, _, rfl, _, rfl, _, rfl, _, _, rfl, by show 2 ≤ sizeLine; decide, fun t ht => ?_⟩
        rw [min_eq, max_eq, if_pos c]
        have l2 := p2.length
        have lr := rowOf_len m ts hub
        have lf := List.length_filter_le (fun q => decide (q ∈ reachL m ts (some (hub : Int)) fin)) ((rowOf m ts hub).take i)
        rw [List.length_map] at l2
        rw [List.length_take] at lf
        refine ⟨ws, (Same.put ht) _ _ d2, small (by omega), Same.write (Same.step s2 ht) hD, ws ++ [.ref t], upd_same, ?_⟩
        rw [List.map_append]
        exact PairsAt.more d2 p2 ht
      · refine no_ (show inV (.int z) (iL (reachL m ts (some (hub : Int)) fin)) = false by rw [ein, decide_eq_false c]) ?_
        rw [if_neg c, List.append_nil]
        exact ⟨s2, ws, d2, p2⟩
    · have e : (rowOf m ts hub).take (iL (rowOf m ts hub)).length = rowOf m ts hub := by
        rw [List.length_map]
        exact List.take_length
      rw [e] at p2
      exact k H2 D ws (s1.trans s2) (s1.free hD) d2 p2
end
end Fd
namespace Fd
open PySem PySem.Spec PyProof.Rows L2
theorem PairsAt.over {H : Hp} {D : Addr} {xs ys ws : List V} {ts : List Tie} (hD : H D = some (.lst xs)) (h : PairsAt H ws ts) : PairsAt (upd H D (.lst ys)) ws ts :=
  Paired.mono (fun v u ⟨a, e, k⟩ => ⟨a, e, by rw [upd_ne (ne_of k hD (by intro z; cases z))]; exact k⟩) h
theorem paired_app {α β : Type} {F : α → β → Prop} {ys : List α} {vs : List β} : ∀ {xs : List α} {us : List β}, Paired F xs us → Paired F ys vs → Paired F (xs ++ ys) (us ++ vs)
  | _, _, .nil, h => h
  | _, _, .cons a b, h => .cons a (paired_app b h)
def muT (n : Nat) (σ : L2.St) : Nat := match σ[3]? with
  | some (some (V.int z)) => ((n : Int) - z).toNat
  | _ => 0
abbrev stepB (m : Nat) (ts : List Tie) : Tie → Tie → Prop := fun x y => y ∈ nbT m ts x
theorem gr_len {m : Nat} {ts : List Tie} {t : Tie} {F : List Tie} (g : Good m ts) (ht : t ∈ toldT m ts) (nd : F.Nodup) (rch : ∀ x ∈ F, Blk m ts t x) : F.length ≤ ts.length := by
  have h := nd.length_le_of_subset (l₂ := toldT m ts) fun x hx => (rch x hx).told g ht
  rw [toldT_len g] at h
  exact h
def spBlock (K : PySem.W.Frag) : Sp := fun vs H Q _ => ∃ (R : Addr) (as : List Addr) (m : Nat) (ts : List Tie) (x : V) (t : Tie), vs = [.ref R, x] ∧ RdRows H R as (rowsOf m ts) ∧ Good m ts ∧ m ≤ 16 ∧ ts.length ≤ 40 ∧ PairAt H x t ∧ t ∈ toldT m ts ∧
  ∀ (H' : Hp) (D : Addr) (ws : List V), Same H H' → H D = none → H' D = some (.lst ws) → PairsAt H' ws (blkL m ts t) → Q (.ref D) H'
section
variable {P : Program} {w : World} {K : PySem.W.Frag} {mg : Str → Option Value} {base : Heap} {C : Addr}
theorem scBlock : FnScope ["rows", "first", "block", "at", "low", "high", "tie"] ["rows", "first"] (defScope sBlock) := ⟨rfl, rfl, rfl, by decide +kernel, rfl, by decide +kernel, by decide +kernel⟩
theorem c_block (T : WTxt K mg C) (B : BTxt K mg C) : C8.Cal P w K mg base 3 "_block" (spBlock K) [] := by
  refine cal_of B.fBlock scBlock (fun vs H Q E h => ?_) (fun f cdv A outer s H vs Q E hr h => ?_)
  · obtain ⟨R, as, m, ts, x, t, rfl, _⟩ := h
    rfl
  · obtain ⟨R, as, m, ts, x0, t, rfl, hR, g, m16, tl, hx0, ht, k⟩ := h
    refine ⟨_, pss_cons (ps_set (i := 2) scBlock.nd rfl (Or.inl rfl) (pe_lst (pa_cons (pv 1) pa_nil)))
      (pss_cons (ps_set (i := 3) scBlock.nd rfl (Or.inl rfl) pe_int)
      (pss_cons (ps_while PassesOwn.never (pt_cmpR op_lt (pv 3) (pe_callB call_len_seq (by rfl) T.len PySem.boot_len (pa_cons (pv 2) pa_nil)) (nomark _))
        (pss_cons (ps_asg (pe_ix ix_list (pv 2) (pv 3) (fun _ _ => rfl)) (pg_tup (by rfl) (pgs_cons (pg_name (i := 4) scBlock.nd rfl (.inl rfl)) (pgs_cons (pg_name (i := 5) scBlock.nd rfl (.inl rfl)) pgs_nil))))
        (pss_cons (ps_for PassesOwn.never rfl (pi_list (pe_op op_cat (C8.pe_c (c_ringed T B) hr (by decide) (by rfl) (pa_cons (pv 0) (pa_cons (pv 4) (pa_cons (pv 5) pa_nil)))) (C8.pe_c (c_ringed T B) hr (by decide) (by rfl) (pa_cons (pv 0) (pa_cons (pv 5) (pa_cons (pv 4) pa_nil)))))) (pg_name (i := 6) scBlock.nd rfl (Or.inl rfl))
          (pss_one (ps_if (pt_cmpR (op_notInD (hu65 hr)) (pv 6) (pv 2) (by rfl))
            (pss_one (ps_expr (pe_bm PySem.F.plainAttrs_list PySem.F.slot_list_append PySem.F.type_list_append mt_append (pv 2) (pa_cons (pv 6) pa_nil)))) pss_nil)))
        (pss_one (ps_aug (i := 3) scBlock.nd rfl (.inl rfl) pe_int ip_add)))))
      (pss_one (ps_ret (pe_callB (id := "sorted") (r := rSortU K 2 64) (cr_sortT (by decide)) (by rfl) T.sorted (by decide +kernel) (pa_cons (pv 2) pa_nil)))))), ?_⟩
    refine ⟨_, rfl, by show 1 ≤ sizeLine; decide, fun D hD => ?_⟩
    refine while_by (fun σ H1 => ∃ (i : Nat) (F : List Tie) (ws : List V) (v4 v5 v6 : Option V), σ = [some (.ref R), some x0, some (.ref D), some (.int i), v4, v5, v6] ∧ Same H H1 ∧ H1 D = some (.lst ws) ∧ PairsAt H1 ws F ∧ Gr (stepB m ts) (Blk m ts t) t F i) (fun σ _ => muT ts.length σ)
      ⟨0, [t], [x0], none, none, none, rfl, Same.put hD, upd_same, .cons (PairAt.same (Same.put hD) hx0) .nil, Gr.start .here⟩ ?_ ?_
    · rintro σ H1 ⟨i, F, ws, v4, v5, v6, rfl, s1, d1, p1, fn⟩
      refine ⟨_, rfl, _, rfl, D, ws, rfl, .inl (SqL.of d1), (i : Int), _, rfl, rfl, _, rfl, ?_⟩
      have hlen := gr_len g ht fn.nd fn.rch
      have wl := p1.length
      by_cases hi : i < F.length
      · refine yep_ (decide_eq_true (by omega)) ?_
        have ex : F[i]? = some F[i] := List.getElem?_eq_getElem hi
        generalize F[i] = u at ex
        obtain ⟨v, ev, ⟨b, rfl, hb⟩⟩ := paired_get' p1 ex
        have uF : u ∈ F := List.mem_of_getElem? ex
        have hu := (fn.rch u uF).told g ht
        have ru := told_rng g hu
        obtain ⟨p, q⟩ := u
        obtain ⟨r1, r2, r3, _⟩ := ru
        obtain ⟨p, rfl⟩ : ∃ n : Nat, p = n := ⟨p.toNat, by have : 0 ≤ p := r1; omega⟩
        obtain ⟨q, rfl⟩ : ∃ n : Nat, q = n := ⟨q.toNat, by have : 0 ≤ (p : Int) := r1; have : (p : Int) < q := r2; omega⟩
        have hq : q < m := by have : (q : Int) < m := r3; omega
        have hp : p < m := by have : (p : Int) < q := r2; omega
        have R1 := hR.same s1
        refine ⟨_, rfl, _, rfl, D, ws, (i : Int), .ref b, rfl, rfl, SqL.of d1, atI_nat ev, b, [.int p, .int q], rfl, SqT.of hb, rfl, _, _, rfl, _, _, rfl, rfl, ?_⟩
        refine ⟨_, rfl, _, rfl, _, rfl, R, as, m, ts, p, q, rfl, R1, g, m16, hp, hq, fun H2 D2 ws2 s2 hD2 d2 p2 => ?_⟩
        refine ⟨_, rfl, _, rfl, _, rfl, R, as, m, ts, q, p, rfl, R1.same s2, g, m16, hq, hp, fun H3 D3 ws3 s3 hD3 d3 p3 => ?_⟩
        have l2 := p2.length
        have l3 := p3.length
        have b2 := ringL_len m ts p q
        have b3 := ringL_len m ts q p
        refine ⟨D2, D3, ws2, ws3, rfl, rfl, s3 _ _ d2, d3, smalle (by omega), fun D4 hD4 => ?_⟩
        have s34 : Same H3 (upd H3 D4 (.lst (ws2 ++ ws3))) := Same.put hD4
        have d4 : (upd H3 D4 (.lst (ws2 ++ ws3))) D4 = some (.lst (ws2 ++ ws3)) := upd_same
        have s14 := s2.trans (s3.trans s34)
        have p4 : PairsAt (upd H3 D4 (.lst (ws2 ++ ws3))) (ws2 ++ ws3) (nbT m ts ((p : Int), (q : Int))) := paired_app (PairsAt.same (s3.trans s34) p2) (PairsAt.same s34 p3)
        have nD : D4 ≠ D := fun e => by
          have := s2.trans s3 _ _ d1
          rw [← e, hD4] at this
          cases this
        generalize upd H3 D4 (.lst (ws2 ++ ws3)) = H4 at s14 d4 p4 ⊢
        generalize ws2 ++ ws3 = ws4 at d4 p4 ⊢
        refine ⟨D4, rfl, ⟨_, SqL.of d4⟩, for_list (K := K) (a := D4) (xs := ws4)
          (fun n σ H5 => ∃ (G : List Tie) (zs : List V) (v6 : Option V), σ = [some (.ref R), some x0, some (.ref D), some (.int i), some (.int p), some (.int q), v6] ∧ Same H H5 ∧ H5 D = some (.lst zs) ∧ PairsAt H5 zs (F ++ G) ∧ H5 D4 = some (.lst ws4) ∧ PairsAt H5 ws4 (nbT m ts ((p : Int), (q : Int))) ∧
            GrT (Blk m ts t) F G ((nbT m ts ((p : Int), (q : Int))).take n))
          ⟨[], ws, v6, rfl, s1.trans s14, s14 _ _ d1, by rw [List.append_nil]; exact p1.same s14, d4, p4, fn.turn⟩ (fun n σ H5 _ ⟨_, _, _, _, _, _, _, d, _⟩ => SqL.of d) ?_ ?_⟩
        · rintro n y σ H5 hn ⟨G, zs, v6, rfl, s5, d5, p5, e5, n5, ft⟩
          obtain ⟨z, ez, pz⟩ := paired_get n5 hn
          refine ⟨_, rfl, _, rfl, prd z, (F ++ G).map prd, dp_pair pz, dp_pairs (SqL.of d5) p5, prd_shaped _, prds_shaped _, _, rfl, ?_⟩
          rw [prds_any]
          by_cases c2 : z ∈ F ++ G
          · refine no_ (by rw [decide_eq_true c2]; rfl) ?_
            refine ⟨G, zs, _, rfl, s5, d5, p5, e5, n5, ?_⟩
            rw [take_next ez]
            exact ft.skip c2
          · refine yep_ (by rw [decide_eq_false c2]; rfl) ?_
            have okz : Blk m ts t z := .step (fn.rch _ uF) (List.mem_of_getElem? ez)
            have ll := gr_len g ht ft.nd ft.rch
            have l5 := p5.length
            refine ⟨_, rfl, .inl ⟨rfl, _, SqL.of d5⟩, _, rfl, D, _, _, rfl, rfl, d5, small (by omega), ?_⟩
            refine ⟨G ++ [z], zs ++ [y], _, rfl, Same.write s5 hD, upd_same, ?_, by rw [upd_ne nD]; exact e5, PairsAt.over d5 n5, ?_⟩
            · rw [← List.append_assoc]
              exact Paired.snoc (PairsAt.over d5 p5) (by
                obtain ⟨c, ec, hc⟩ := pz
                exact ⟨c, ec, by rw [upd_ne (ne_of hc d5 (by intro z; cases z))]; exact hc⟩)
            · rw [take_next ez]
              exact ft.more c2 okz
        · rintro σ H5 ⟨G, zs, v6, rfl, s5, d5, p5, e5, n5, ft⟩
          have l4 := p4.length
          rw [List.take_of_length_le (by omega)] at ft
          refine ⟨_, rfl, (i : Int), 1, rfl, rfl, ⟨i + 1, F ++ G, zs, _, _, _, rfl, s5, d5, p5, fn.next ex ft fun y hy => hy⟩, ?_⟩
          show ((ts.length : Int) - ((i : Int) + 1)).toNat < ((ts.length : Int) - (i : Int)).toNat
          omega
      · refine no_ (decide_eq_false (by omega)) ?_
        have ei : i = F.length := by
          have := fn.le
          omega
        subst ei
        have rg : ∀ u ∈ F, 0 ≤ u.1 ∧ u.1 < 64 ∧ 0 ≤ u.2 ∧ u.2 < 64 := fun u hu => by
          obtain ⟨r1, r2, r3, _⟩ := told_rng g ((fn.rch u hu).told g ht)
          omega
        refine ⟨_, rfl, D, ws, rfl, SqL.of d1, by omega, fun x hx => ?_, fun ys p perm srt hp => ?_⟩
        · obtain ⟨j, hj⟩ := List.mem_iff_getElem?.mp hx
          obtain ⟨u, eu, pu⟩ := paired_get p1 hj
          obtain ⟨r1, r2, r3, r4⟩ := rg u (List.mem_of_getElem? eu)
          refine ⟨_, tupI_pair pu, rfl, fun n hn => ?_⟩
          rcases List.mem_cons.mp hn with rfl | hn
          · exact ⟨r1, r2⟩
          · rw [List.mem_singleton.mp hn]
            exact ⟨r3, r4⟩
        · obtain ⟨vs, pv, pm, ps⟩ := sort_pairs p1 perm srt fn.nd rg
          have all : ∀ u, Blk m ts t u → u ∈ F := fun u hu => by
            induction hu with
            | here => exact fn.has
            | step _ a ih => exact fn.closed ih a
          have e : vs = blkL m ts t := strict_uniq (lt := lexT) (fun a b => lex_asym) ps (blkL_strict g t) fun u => by
            rw [pm.mem_iff, mem_blkL g ht]
            exact ⟨fn.rch u, all u⟩
          subst e
          exact k _ p ys (Same.step s1 hp) (s1.free hp) upd_same (PairsAt.same (Same.put hp) pv)
    · rintro σ H1 Q1 Q2 hq ⟨v, e1, u, e2, p, ys, e3, h1, i, j, e4, e5, c, e6, q⟩
      exact ⟨v, e1, u, e2, p, ys, e3, h1, i, j, e4, e5, c, e6, hq _ _ q⟩
end
end Fd
namespace Fd
open PySem PySem.Spec PyProof.Rows L2
def kOf (t : Tie) : List Int := [t.1, t.2]
theorem kOf_inj {t u : Tie} (h : kOf t = kOf u) : t = u := by
  injection h with e1 e2
  injection e2 with e2 _
  exact Prod.ext e1 e2
/-- a list of lists of ties, all the lists new behind H0 -/
structure FoundAt (H0 H : Hp) (D : Addr) (as : List Addr) (bss : List (List Tie)) : Prop where
  top : H D = some (.lst (as.map V.ref))
  new : H0 D = none
  out : D ∉ as
  row : Paired (fun a bs => H0 a = none ∧ ∃ ws, H a = some (.lst ws) ∧ PairsAt H ws bs) as bss
/-- an object that is no list and no tuple is written -/
def NoSeqAt (H : Hp) (S : Addr) : Prop := ∃ o, H S = some o ∧ (∀ xs, o ≠ .lst xs) ∧ ∀ xs, o ≠ .tup xs
theorem NoSeqAt.lst {H : Hp} {S D : Addr} {xs : List V} {o : HO} (h : NoSeqAt H S) (d : H D = some (.lst xs)) : (upd H S o) D = some (.lst xs) := by
  obtain ⟨q, h1, h2, _⟩ := h
  rw [upd_ne (fun e => by subst e; exact h2 xs (Option.some.inj (h1.symm.trans d)))]
  exact d
theorem NoSeqAt.tup {H : Hp} {S D : Addr} {xs : List V} {o : HO} (h : NoSeqAt H S) (d : H D = some (.tup xs)) : (upd H S o) D = some (.tup xs) := by
  obtain ⟨q, h1, _, h2⟩ := h
  rw [upd_ne (fun e => by subst e; exact h2 xs (Option.some.inj (h1.symm.trans d)))]
  exact d
theorem NoSeqAt.pairs {H : Hp} {S : Addr} {o : HO} {ws : List V} {ts : List Tie} (h : NoSeqAt H S) (p : PairsAt H ws ts) : PairsAt (upd H S o) ws ts := Paired.mono (fun _ _ ⟨a, e, k⟩ => ⟨a, e, h.tup k⟩) p
theorem NoSeqAt.found {H0 H : Hp} {S D : Addr} {o : HO} {as : List Addr} {bss : List (List Tie)} (h : NoSeqAt H S) (f : FoundAt H0 H D as bss) : FoundAt H0 (upd H S o) D as bss :=
  ⟨h.lst f.top, f.new, f.out, Paired.mono (fun _ _ ⟨n, ws, d, p⟩ => ⟨n, ws, h.lst d, h.pairs p⟩) f.row⟩
theorem noSeq_set {P : Program} {w : World} {H : Hp} {S : Addr} {L : List (Addr × List Int)} (h : H S = some (SetTO P w S L)) : NoSeqAt H S := ⟨_, h, fun xs z => HO.noConfusion (show HO.ext _ = HO.lst xs from z), fun xs z => HO.noConfusion (show HO.ext _ = HO.tup xs from z)⟩
theorem FoundAt.same {H0 H H' : Hp} {D : Addr} {as : List Addr} {bss : List (List Tie)} (f : FoundAt H0 H D as bss) (s : Same H H') : FoundAt H0 H' D as bss :=
  ⟨s _ _ f.top, f.new, f.out, Paired.mono (fun _ _ ⟨n, ws, d, p⟩ => ⟨n, ws, s _ _ d, PairsAt.same s p⟩) f.row⟩
theorem FoundAt.more {H0 H : Hp} {D q : Addr} {as : List Addr} {bss : List (List Tie)} {ws : List V} {bs : List Tie} (f : FoundAt H0 H D as bss) (ne : q ≠ D) (hq : H0 q = none) (d : H q = some (.lst ws)) (p : PairsAt H ws bs) : FoundAt H0 (upd H D (.lst (as.map V.ref ++ [.ref q]))) D (as ++ [q]) (bss ++ [bs]) := by
  have row : ∀ {a : Addr} {cs : List Tie}, a ≠ D → (H0 a = none ∧ ∃ ws, H a = some (.lst ws) ∧ PairsAt H ws cs) → H0 a = none ∧ ∃ ws, (upd H D (.lst (as.map V.ref ++ [.ref q]))) a = some (.lst ws) ∧ PairsAt (upd H D (.lst (as.map V.ref ++ [.ref q]))) ws cs := fun n ⟨h, ws, d, p⟩ =>
    ⟨h, ws, by rw [upd_ne n]; exact d, PairsAt.over f.top p⟩
  refine ⟨by rw [upd_same, List.map_append]; rfl, f.new, fun hm => ?_, Paired.snoc ?_ (row ne ⟨hq, ws, d, p⟩)⟩
  · rcases List.mem_append.mp hm with z | z
    · exact f.out z
    · exact ne (List.mem_singleton.mp z).symm
  · have go : ∀ {xs : List Addr} {ys : List (List Tie)}, Paired (fun a bs => H0 a = none ∧ ∃ ws, H a = some (.lst ws) ∧ PairsAt H ws bs) xs ys → D ∉ xs → Paired (fun a bs => H0 a = none ∧ ∃ ws, (upd H D (.lst (as.map V.ref ++ [.ref q]))) a = some (.lst ws) ∧ PairsAt (upd H D (.lst (as.map V.ref ++ [.ref q]))) ws bs) xs ys := fun h => by
      induction h with
      | nil => exact fun _ => .nil
      | cons r t ih => exact fun n => .cons (row (fun e => n (e ▸ List.mem_cons_self)) r) (ih fun z => n (List.mem_cons_of_mem _ z))
    exact go f.row f.out
/-- a set of ties, by its items -/
structure PlacedAt (P : Program) (w : World) (H : Hp) (S : Addr) (L : List (Addr × List Int)) (U : List Tie) : Prop where
  at_ : H S = some (SetTO P w S L)
  tups : ∀ p ∈ L, H p.1 = some (.tup (p.2.map V.int))
  perm : (L.map (·.2)).Perm (U.map kOf)
  nd : U.Nodup
theorem PlacedAt.mem {P : Program} {w : World} {H : Hp} {S : Addr} {L : List (Addr × List Int)} {U : List Tie} (h : PlacedAt P w H S L U) {t : Tie} : kOf t ∈ L.map (·.2) ↔ t ∈ U := by
  rw [h.perm.mem_iff]
  constructor
  · intro z
    obtain ⟨u, hu, e⟩ := List.mem_map.mp z
    exact kOf_inj e ▸ hu
  · exact fun z => List.mem_map.mpr ⟨t, z, rfl⟩
theorem PlacedAt.len {P : Program} {w : World} {H : Hp} {S : Addr} {L : List (Addr × List Int)} {U : List Tie} (h : PlacedAt P w H S L U) : L.length = U.length := by
  have := h.perm.length_eq
  rw [List.length_map, List.length_map] at this
  exact this
theorem PlacedAt.same {P : Program} {w : World} {H H' : Hp} {S : Addr} {L : List (Addr × List Int)} {U : List Tie} (h : PlacedAt P w H S L U) (s : Same H H') : PlacedAt P w H' S L U := ⟨s _ _ h.at_, fun p hp => s _ _ (h.tups p hp), h.perm, h.nd⟩
theorem PlacedAt.over {P : Program} {w : World} {H : Hp} {S D : Addr} {L : List (Addr × List Int)} {U : List Tie} {xs ys : List V} (h : PlacedAt P w H S L U) (d : H D = some (.lst xs)) : PlacedAt P w (upd H D (.lst ys)) S L U := by
  refine ⟨?_, fun p hp => ?_, h.perm, h.nd⟩
  · rw [upd_ne (fun e => by subst e; exact HO.noConfusion (show HO.ext _ = HO.lst xs from Option.some.inj (h.at_.symm.trans d)))]
    exact h.at_
  · rw [upd_ne (ne_of (h.tups p hp) d (by intro z; cases z))]
    exact h.tups p hp
theorem PlacedAt.add {P : Program} {w : World} {H : Hp} {S c : Addr} {L L' : List (Addr × List Int)} {U : List Tie} {u : Tie} (h : PlacedAt P w H S L U) (hc : H c = some (.tup [.int u.1, .int u.2])) (c1 : kOf u ∈ L.map (·.2) → L' = L) (c2 : kOf u ∉ L.map (·.2) → L'.Perm ((c, kOf u) :: L)) :
    ∃ U', PlacedAt P w (upd H S (SetTO P w S L')) S L' U' ∧ ∀ v, v ∈ U' ↔ v ∈ U ∨ v = u := by
  have ns := noSeq_set h.at_
  by_cases m : kOf u ∈ L.map (·.2)
  · rw [c1 m]
    exact ⟨U, ⟨upd_same, fun p hp => ns.tup (h.tups p hp), h.perm, h.nd⟩, fun v => ⟨.inl, fun z => z.elim id fun e => e ▸ h.mem.mp m⟩⟩
  · have pm := c2 m
    refine ⟨u :: U, ⟨upd_same, fun p hp => ?_, (pm.map _).trans (h.perm.cons _), List.nodup_cons.mpr ⟨fun z => m (h.mem.mpr z), h.nd⟩⟩, fun v => ?_⟩
    · rcases List.mem_cons.mp (pm.mem_iff.mp hp) with e | z
      · rw [e]
        exact ns.tup hc
      · exact ns.tup (h.tups p z)
    · rw [List.mem_cons]
      exact ⟨fun z => z.elim .inr .inl, fun z => z.elim .inr .inl⟩
theorem PlacedAt.tupsAt {P : Program} {w : World} {K : PySem.W.Frag} {H : Hp} {S : Addr} {L : List (Addr × List Int)} {U : List Tie} (h : PlacedAt P w H S L U) : TupsAt K H L := fun p hp => SqT.of (h.tups p hp)
end Fd
namespace Fd
open PySem PySem.Spec PyProof.Rows L2
theorem flat_len {m : Nat} {ts : List Tie} {i : Nat} (hi : i ≤ 16) (hm : m ≤ 16) : ((pts i).flatMap (pickT m ts)).length ≤ 16 * 16 := by
  have h : ∀ l : List Int, (l.flatMap (pickT m ts)).length ≤ 16 * l.length := fun l => by
    induction l with
    | nil => simp
    | cons a l ih =>
      have h1 : (pickT m ts a).length ≤ 16 := by
        unfold pickT
        rw [List.length_map]
        have h2 := List.length_filter_le (fun y => decide (a < y)) (rowOf m ts a)
        have h3 := rowOf_len m ts a
        omega
      rw [List.flatMap_cons, List.length_append, List.length_cons]
      omega
  have h2 := h (pts i)
  rw [pts_len] at h2
  omega
/-! ### a web in the heap -/
def wF (m : Nat) (R : Addr) : List (Str × V) := [("many", .int m), ("_rows", .ref R)]
theorem lkHere {k : Str} {v : V} {r : List (Str × V)} : List.lookup k ((k, v) :: r) = some v := by simp [List.lookup]
theorem lkPast {k g : Str} {v : V} {r : List (Str × V)} (h : (k == g) = false) : List.lookup k ((g, v) :: r) = List.lookup k r := by simp [List.lookup, h]
theorem wF_many (m : Nat) (R : Addr) : (wF m R).lookup ("many" : Str) = some (.int m) := lkHere
theorem wF_rows (m : Nat) (R : Addr) : (wF m R).lookup ("_rows" : Str) = some (.ref R) := (lkPast (by decide +kernel)).trans lkHere
theorem wF_no (m : Nat) (R : Addr) {x : Str} (h1 : (x == ("many" : Str)) = false) (h2 : (x == ("_rows" : Str)) = false) : (wF m R).lookup x = none := (lkPast h1).trans ((lkPast h2).trans rfl)
theorem wF_new (m : Nat) (R : Addr) : putF "_rows" (.ref R) (putF "many" (.int m) []) = wF m R := by
  show (if ("many" : Str) = "_rows" then _ else (("many" : Str), V.int m) :: putF "_rows" (.ref R) []) = wF m R
  rw [if_neg (by decide +kernel)]
  rfl
structure WebAt (C : Addr) (H0 H : Hp) (p : Addr) (m : Nat) (ts : List Tie) : Prop where
  new : H0 p = none
  ex : ∃ (dx R : Addr) (as : List Addr), H p = some (.ins C dx (wF m R)) ∧ RowsAt H0 H R as (rowsOf m ts)
theorem WebAt.same {C p : Addr} {H0 H H' : Hp} {m : Nat} {ts : List Tie} (h : WebAt C H0 H p m ts) (s : Same H H') : WebAt C H0 H' p m ts := by
  obtain ⟨n, dx, R, as, h1, h2⟩ := h
  exact ⟨n, dx, R, as, s _ _ h1, h2.same s⟩
theorem WebAt.apart {C p : Addr} {H0 H H' : Hp} {m : Nat} {ts : List Tie} (h : WebAt C H0 H p m ts) (s : ∀ b o, H b = some o → H0 b = none → H' b = some o) : WebAt C H0 H' p m ts := by
  obtain ⟨n, dx, R, as, h1, h2⟩ := h
  exact ⟨n, dx, R, as, s _ _ h1 n, h2.apart s⟩
theorem WebAt.older {C p : Addr} {H0 H1 H : Hp} {m : Nat} {ts : List Tie} (h : WebAt C H1 H p m ts) (s : Same H0 H1) : WebAt C H0 H p m ts := by
  obtain ⟨n, dx, R, as, h1, h2⟩ := h
  exact ⟨s.free n, dx, R, as, h1, h2.older s⟩
def spInit (C : Addr) (K : PySem.W.Frag) : Sp := fun vs H Q _ => ∃ (H0 : Hp) (p dx : Addr) (m : Nat) (a : Addr) (ws : List V) (ts : List Tie), vs = [.ref p, .int m, .ref a] ∧ H p = some (.ins C dx []) ∧ Same H0 H ∧ H0 p = none ∧
  SqL K H0 a ws ∧ PairsAt H0 ws ts ∧ Good m ts ∧ 1 ≤ m ∧ m ≤ 16 ∧ ts.length ≤ 40 ∧
  ∀ H' : Hp, (∀ b o, H b = some o → b ≠ p → H' b = some o) → WebAt C H0 H' p m ts → Q .non H'
def spCheck (C : Addr) : Sp := fun vs H Q _ => ∃ (H0 : Hp) (p : Addr) (m : Nat) (ts : List Tie) (j : Nat), vs = [.ref p, .int j] ∧ WebAt C H0 H p m ts ∧ j < m ∧ Q .non H
def spBeside (C : Addr) : Sp := fun vs H Q _ => ∃ (H0 : Hp) (p : Addr) (m : Nat) (ts : List Tie) (j : Nat), vs = [.ref p, .int j] ∧ WebAt C H0 H p m ts ∧ j < m ∧
  ∀ D, H D = none → Q (.ref D) (upd H D (.lst (iL (rowOf m ts j))))
def spTied (C : Addr) : Sp := fun vs H Q _ => ∃ (H0 : Hp) (p : Addr) (m : Nat) (ts : List Tie) (i j : Nat), vs = [.ref p, .int i, .int j] ∧ WebAt C H0 H p m ts ∧ i < m ∧ j < m ∧
  Q (.bl (decide ((j : Int) ∈ rowOf m ts i))) H
def spTies (C : Addr) : Sp := fun vs H Q _ => ∃ (H0 : Hp) (p : Addr) (m : Nat) (ts : List Tie), vs = [.ref p] ∧ WebAt C H0 H p m ts ∧ Good m ts ∧ m ≤ 16 ∧
  ∀ (H' : Hp) (D : Addr) (ws : List V), Same H H' → H D = none → H' D = some (.lst ws) → PairsAt H' ws (toldT m ts) → Q (.ref D) H'
end Fd
namespace Fd
open PySem PySem.Spec PyProof.Rows L2
section
variable {P : Program} {w : World} {K : PySem.W.Frag} {mg : Str → Option Value} {base : Heap} {C : Addr}
theorem scInit : FnScope ["self", "many", "ties"] ["self", "many", "ties"] (defScope sWebInit) := ⟨rfl, rfl, rfl, by decide +kernel, rfl, by decide +kernel, by decide +kernel⟩
theorem c_init (T : WTxt K mg C) : C8.Mak P w K mg base 5 "Web" C (spInit C K) [] := by
  obtain ⟨tP, gP⟩ := T.mostP
  obtain ⟨tT, gT⟩ := T.mostT
  refine mak_of T.gWeb T.fInit scInit (fun vs H Q E h => ?_) (fun f cdv A outer s H vs Q E hr h => ?_)
  · obtain ⟨H0, p, dx, m, a, ws, ts, rfl, _⟩ := h
    rfl
  · obtain ⟨H0, p, dx, m, a, ws, ts, rfl, hp, s0, p0, hS, hP, g, m1, m16, ht, k⟩ := h
    refine ⟨_, pss_cons (ps_if (PW.pt (pw_or (pt_not (pt_val (C8.pe_c (c_num T) hr (by decide) (by rfl) (pa_cons (pv 1) pa_nil))))
        (pw_or1 (pt_not (pt_chain op_le op_le pe_int (pv 1) (pe_glob (v := .int 16) (by rfl) gP ⟨_, rfl⟩)))))) (pss_one ps_never) pss_nil)
      (pss_cons (ps_if (PW.pt (pw_or (pt_cmpR op_neTy (pe_callTy call_type1 (by rfl) T.type (by decide +kernel) (pa_cons (pv 2) pa_nil)) (pe_bltn (v := .ty "list") (by rfl) T.list (by decide +kernel) rfl) (nomark _))
        (pw_or1 (pt_cmpR op_gt (pe_callB call_len_seq (by rfl) T.len PySem.boot_len (pa_cons (pv 2) pa_nil)) (pe_glob (v := .int 40) (by rfl) gT ⟨_, rfl⟩) (nomark _))))) (pss_one ps_never) pss_nil)
      (pss_cons (ps_fld (pv 0) (pv 1) rfl)
      (pss_one (ps_fld (pv 0) (C8.pe_c (c_joined T) hr (by decide) (by rfl) (pa_cons (pv 1) (pa_cons (pv 2) pa_nil))) rfl)))), ?_⟩
    have hS' : SqL K H a ws := s0.seq hS
    have hl := hP.length
    -- if not _is_number(many) or not 1 <= many <= MOST_POINTS
    refine ⟨_, rfl, .int m, "int", rfl, .int _, true, rfl, ?_⟩
    refine iteF ?_
    refine ⟨_, rfl, 1, (m : Int), rfl, rfl, _, rfl, ?_⟩
    refine yep_ (decide_eq_true (by omega)) ?_
    refine ⟨(m : Int), 16, rfl, rfl, _, rfl, ?_⟩
    refine no_ (by rw [Bool.not_eq_false']; exact decide_eq_true (by omega)) ?_
    -- if type(ties) != list or len(ties) > MOST_TIES
    refine ⟨_, rfl, .ref a, "list", rfl, .lst hS', "list", "list", rfl, rfl, by decide, by decide, _, rfl, ?_⟩
    refine iteF ?_
    refine ⟨_, rfl, a, ws, rfl, .inl hS', _, 40, rfl, rfl, _, rfl, ?_⟩
    refine no_ (decide_eq_false (by omega)) ?_
    -- self.many = many
    refine ⟨_, rfl, _, rfl, p, C, dx, [], rfl, hp, T.cl, T.nMany, by show 0 < 1000; decide, ?_⟩
    -- self._rows = _joined(many, ties)
    have s1 : Same H0 (upd H p (.ins C dx (putF "many" (.int m) []))) := Same.write s0 p0
    refine ⟨_, rfl, _, rfl, m, a, ws, ts, rfl, s1.seq hS, hP.same s1, g, m16, ht, fun H' R as s' r' => ?_⟩
    have hp' : H' p = some (.ins C dx (putF "many" (.int m) [])) := s' _ _ upd_same
    refine ⟨_, rfl, p, C, dx, _, rfl, hp', T.cl, T.nRows, by show 1 < 1000; decide, ?_⟩
    refine k _ (fun b o e hb => ?_) ⟨p0, dx, R, as, by rw [upd_same, wF_new], ?_⟩
    · rw [upd_ne hb]
      exact s' _ _ (by rw [upd_ne hb]; exact e)
    · refine (r'.apart fun b o e hb => ?_).older s1
      rw [upd_ne (ne_of_none upd_same hb).symm]
      exact e
end
end Fd
namespace Fd
open PySem PySem.Spec PyProof.Rows L2
section
variable {P : Program} {w : World} {K : PySem.W.Frag} {mg : Str → Option Value} {base : Heap} {C : Addr}
theorem scCheck : FnScope ["self", "thing"] ["self", "thing"] (defScope sWebCheckPoint) := ⟨rfl, rfl, rfl, by decide +kernel, rfl, by decide +kernel, by decide +kernel⟩
theorem c_check (T : WTxt K mg C) (FC : FnM K C "_check_point" "Web._check_point" sWebCheckPoint ["self", "thing"]) : C8.Met P w K mg base 3 C "_check_point" (spCheck C) [] := by
  refine met_of T.cl FC scCheck (fun vs H Q E h => ?_) (fun f cdv A outer s H vs Q E hr h => ?_)
  · obtain ⟨H0, p, m, ts, j, rfl, _⟩ := h
    rfl
  · obtain ⟨H0, p, m, ts, j, rfl, ⟨p0, dx, R, as, hp, r⟩, hj, k⟩ := h
    refine ⟨_, pss_one (ps_if (pt_not (pt_val (C8.pe_c (c_point T) hr (by decide) (by rfl) (pa_cons (pe_fld (pv 0) rfl) (pa_cons (pv 1) pa_nil))))) (pss_one ps_never) pss_nil), ?_⟩
    refine ⟨_, rfl, p, C, dx, _, _, rfl, hp, T.cl, T.nMany, wF_many _ _, _, rfl, (m : Int), .int j, "int", rfl, .int _, _, rfl, no_ ?_ k⟩
    rw [Bool.not_eq_false']
    show (decide ((0 : Int) ≤ j) && decide ((j : Int) < m)) = true
    rw [decide_eq_true (by omega), decide_eq_true (by omega), Bool.and_self]
theorem scBeside : FnScope ["self", "point"] ["self", "point"] (defScope sWebBeside) := ⟨rfl, rfl, rfl, by decide +kernel, rfl, by decide +kernel, by decide +kernel⟩
theorem c_beside (T : WTxt K mg C) (FC : FnM K C "_check_point" "Web._check_point" sWebCheckPoint ["self", "thing"]) (FB : FnM K C "beside" "Web.beside" sWebBeside ["self", "point"]) : C8.Met P w K mg base 4 C "beside" (spBeside C) [] := by
  refine met_of T.cl FB scBeside (fun vs H Q E h => ?_) (fun f cdv A outer s H vs Q E hr h => ?_)
  · obtain ⟨H0, p, m, ts, j, rfl, _⟩ := h
    rfl
  · obtain ⟨H0, p, m, ts, j, rfl, W, hj, k⟩ := h
    obtain ⟨p0, dx, R, as, hp, r⟩ := id W
    refine ⟨_, pss_cons (ps_expr (C8.pe_mt (c_check T FC) hr (by decide) (pv 0) (pa_cons (pv 1) pa_nil)))
      (pss_one (ps_ret (pe_callTy call_list_of (by rfl) T.list (by decide +kernel) (pa_cons (pe_ix ix_list (pe_fld (pv 0) rfl) (pv 1) (fun _ _ => rfl)) pa_nil)))), ?_⟩
    obtain ⟨b, eb, ebr, _, hb⟩ := r.get (rowsOf_at (ts := ts) hj)
    refine ⟨_, rfl, p, dx, _, rfl, hp, wF_no _ _ (by decide +kernel) (by decide +kernel), _, rfl, H0, p, m, ts, j, rfl, W, hj, ?_⟩
    exact ⟨_, rfl, p, C, dx, _, _, rfl, hp, T.cl, T.nRows, wF_rows _ _, _, rfl, R, _, (j : Int), .ref b, rfl, rfl, SqL.of r.top, atI_nat ebr, b, _, rfl, .inl (SqL.of hb), k⟩
end
end Fd
namespace Fd
open PySem PySem.Spec PyProof.Rows L2
section
variable {P : Program} {w : World} {K : PySem.W.Frag} {mg : Str → Option Value} {base : Heap} {C : Addr}
theorem scTies : FnScope ["self", "one", "other"] ["self"] (defScope sWebTies) := ⟨rfl, rfl, rfl, by decide +kernel, rfl, by decide +kernel, by decide +kernel⟩
theorem c_ties (T : WTxt K mg C) (FT : FnM K C "ties" "Web.ties" sWebTies ["self"]) : C8.Met P w K mg base 1 C "ties" (spTies C) [] := by
  refine met_of T.cl FT scTies (fun vs H Q E h => ?_) (fun f cdv A outer s H vs Q E hr h => ?_)
  · obtain ⟨H0, p, m, ts, rfl, _⟩ := h
    rfl
  · obtain ⟨H0, p, m, ts, rfl, W, g, m16, k⟩ := h
    obtain ⟨p0, dx, R, as, hp, r⟩ := id W
    refine ⟨_, pss_one (ps_ret (pe_lc2 (own := [("one", 1), ("other", 2)]) (vs1 := [2]) (g := gName 1) (g1 := gName 2) (tt := tYes) (wi1 := iList K (tOp (rIxL K) (tFld K (tVar 0) "_rows") (tVar 1))) (by rfl) scTies.nd (pi_range1 (by rfl) T.range (pa_cons (pe_fld (pv 0) rfl) pa_nil))
      (blkOk_by (own := [("one", 1), ("other", 2)]) (N := ["self", "one", "other"]) (sc := defScope sWebTies) (by decide +kernel)) (by simp)
      (fun _ _ _ _ _ => pg_name (i := 1) scTies.nd rfl (Or.inl rfl)) (fun _ _ _ _ _ => pts_nil)
      (fun _ _ _ _ _ => pi_list (pe_ix ix_list (pe_fld (pv 0) rfl) (pv 1) (fun _ _ => rfl)))
      (fun _ _ _ _ _ => pg_name (i := 2) scTies.nd rfl (Or.inl rfl)) (fun _ _ _ _ _ => pts_one (pt_cmpR op_lt (pv 1) (pv 2) (nomark _)))
      (fun _ _ _ _ _ => pe_tup (pa_cons (pv 1) (pa_cons (pv 2) pa_nil))))), ?_⟩
    refine ⟨_, rfl, p, C, dx, _, _, rfl, hp, T.cl, T.nMany, wF_many _ _, (m : Int), rfl, by omega, by omega, fun D hD => ?_⟩
    refine ⟨fun i n H1 => n = m - i ∧ i ≤ m ∧ Same H H1 ∧ ∃ ws, H1 D = some (.lst ws) ∧ PairsAt H1 ws ((pts i).flatMap (pickT m ts)), ⟨_, rfl, Nat.zero_le _, Same.put hD, [], upd_same, .nil⟩, ?_⟩
    rintro i n H1 ⟨rfl, him, s1, ws, hDw, hw⟩
    by_cases hi : i < m
    · refine .inr ⟨by show i < (m : Int).toNat; omega, fun H2 => i + 1 ≤ m ∧ Same H H2 ∧ ∃ ws, H2 D = some (.lst ws) ∧ PairsAt H2 ws ((pts (i + 1)).flatMap (pickT m ts)), fun H2 q => ⟨m - (i + 1), by omega, rfl, q⟩, ?_⟩
      rintro x H2 ⟨rfl, rfl⟩
      refine ⟨rfl, ?_⟩
      refine yes_ ?_
      refine iteT ?_
      obtain ⟨b, eb, ebr, _, hb⟩ := r.get (rowsOf_at (ts := ts) hi)
      -- for other in self._rows[one]
      refine ⟨_, rfl, p, C, dx, _, _, rfl, s1 _ _ hp, T.cl, T.nRows, wF_rows _ _, _, rfl, R, _, (0 + (i : Int)), .ref b, rfl, rfl, SqL.of (s1 _ _ r.top), by rw [Int.zero_add]; exact atI_nat ebr, b, rfl, ⟨_, SqL.of (s1 _ _ hb)⟩, ?_⟩
      refine ⟨fun j n H2 => n = (rowOf m ts i).length - j ∧ j ≤ (rowOf m ts i).length ∧ Same H H2 ∧ ∃ ws, H2 D = some (.lst ws) ∧ PairsAt H2 ws ((pts i).flatMap (pickT m ts) ++ (((rowOf m ts i).take j).filter fun y => decide ((i : Int) < y)).map fun y => ((i : Int), y)),
        ⟨_, rfl, Nat.zero_le _, s1, ws, hDw, by rw [List.take_zero, List.filter_nil, List.map_nil, List.append_nil]; exact hw⟩, ?_⟩
      rintro j n H3 ⟨rfl, hjl, s3, us, hDu, hu⟩
      by_cases hj : j < (rowOf m ts i).length
      · have ej : (rowOf m ts i)[j]? = some (rowOf m ts i)[j] := List.getElem?_eq_getElem hj
        refine .inr ⟨⟨_, _, SqL.of (s3 _ _ hb), iL_get ej⟩, fun H4 => j + 1 ≤ (rowOf m ts i).length ∧ Same H H4 ∧ ∃ ws, H4 D = some (.lst ws) ∧ PairsAt H4 ws ((pts i).flatMap (pickT m ts) ++ (((rowOf m ts i).take (j + 1)).filter fun y => decide ((i : Int) < y)).map fun y => ((i : Int), y)), fun H4 q => ⟨_, by show (rowOf m ts i).length - (j + 1) < _; omega, rfl, q⟩, ?_⟩
        rintro x H4 ⟨rfl, hx⟩
        obtain rfl : x = .int (rowOf m ts i)[j] := Option.some.inj ((hx _ (SqL.of (s3 _ _ hb))).symm.trans (iL_get ej))
        generalize hy : (rowOf m ts i)[j] = y at ej ⊢
        refine ⟨rfl, ?_⟩
        -- if one < other
        refine ⟨_, rfl, _, rfl, (0 + (i : Int)), y, rfl, rfl, _, rfl, ?_⟩
        rw [Int.zero_add]
        refine ite2 (fun c => ?_) (fun c => ?_)
        · refine ⟨_, rfl, _, rfl, by show 2 ≤ sizeLine; decide, fun q hq => ?_⟩
          have qD : D ≠ q := ne_of_none hDu hq
          have l1 : us.length < sizeLine := by
            rw [hu.length, List.length_append, List.length_map]
            have h1 := List.length_filter_le (fun y => decide ((i : Int) < y)) ((rowOf m ts i).take (j + 1 - 1))
            have h2 := rowOf_len m ts i
            have h3 : ((pts i).flatMap (pickT m ts)).length ≤ 16 * 16 := flat_len (by omega) m16
            rw [List.length_take] at h1
            exact small (by simp only [Nat.add_sub_cancel] at h1; omega)
          refine ⟨us, by rw [upd_ne qD]; exact hDu, l1, by omega, Same.write (Same.step s3 hq) hD, _, upd_same, ?_⟩
          rw [take_next ej, List.filter_append, List.map_append, ← List.append_assoc]
          have e1 : (([y] : List Int).filter fun z => decide ((i : Int) < z)).map (fun z => ((i : Int), z)) = [((i : Int), y)] := by
            simp [of_decide_eq_true c]
          rw [e1]
          refine Paired.snoc ?_ ⟨q, rfl, by rw [upd_ne qD.symm, upd_same]⟩
          refine Paired.mono (fun v t ⟨a, e, h⟩ => ⟨a, e, ?_⟩) hu
          have a1 : a ≠ q := ne_of_none h hq
          have a2 : a ≠ D := ne_of h hDu (by intro z; cases z)
          rw [upd_ne a2, upd_ne a1]
          exact h
        · refine ⟨by omega, s3, us, hDu, ?_⟩
          rw [take_next ej, List.filter_append]
          have e1 : (([y] : List Int).filter fun z => decide ((i : Int) < z)) = [] := by
            simp [show ¬ ((i : Int) < y) from fun h => c (decide_eq_true h)]
          rw [e1, List.append_nil]
          exact hu
      · have e : j = (rowOf m ts i).length := by omega
        subst e
        refine .inl ⟨⟨_, SqL.of (s3 _ _ hb), by rw [List.length_map]; exact Nat.le_refl _⟩, by omega, s3, us, hDu, ?_⟩
        rw [List.take_length] at hu
        rw [pts_succ, List.flatMap_append, List.flatMap_singleton]
        exact hu
    · have e : i = m := by omega
      subst e
      exact .inl ⟨by show (i : Int).toNat ≤ i; omega, k H1 D ws s1 hD hDw hw⟩
end
end Fd
namespace Fd
open PySem PySem.Spec PyProof.Rows L2
def spBlocks (C : Addr) : Sp := fun vs H Q _ => ∃ (H0 : Hp) (p : Addr) (m : Nat) (ts : List Tie), vs = [.ref p] ∧ WebAt C H0 H p m ts ∧ Good m ts ∧ m ≤ 16 ∧ ts.length ≤ 40 ∧
  ∀ (H' : Hp) (D : Addr) (as : List Addr), Same H H' → FoundAt H H' D as (blocksL m ts) → Q (.ref D) H'
theorem seen_len {m : Nat} {ts U : List Tie} (g : Good m ts) (nd : U.Nodup) (h : ∀ u ∈ U, u ∈ toldT m ts) : U.length ≤ ts.length := by
  have := nd.length_le_of_subset (l₂ := toldT m ts) h
  rw [toldT_len g] at this
  exact this
structure Web4 (K : PySem.W.Frag) (C : Addr) : Prop where
  fC : FnM K C "_check_point" "Web._check_point" sWebCheckPoint ["self", "thing"]
  fB : FnM K C "beside" "Web.beside" sWebBeside ["self", "point"]
  fT : FnM K C "ties" "Web.ties" sWebTies ["self"]
section
variable {P : Program} {w : World} {K : PySem.W.Frag} {mg : Str → Option Value} {base : Heap} {C : Addr}
abbrev nBlocks : List Str := ["web", "rows", "found", "placed", "tie", "block", "each", "point"]
theorem scBlocks : FnScope ["web", "rows", "found", "placed", "tie", "block", "each", "point"] ["web"] (defScope sBlocks) := ⟨rfl, rfl, rfl, by decide +kernel, rfl, by decide +kernel, by decide +kernel⟩
theorem c_blocks (T : WTxt K mg C) (B : BTxt K mg C) (W4 : Web4 K C) : C8.Cal P w K mg base 5 "blocks" (spBlocks C) [] := by
  refine cal_of B.fBlocks scBlocks (fun vs H Q E h => ?_) (fun f cdv A outer s H vs Q E hr h => ?_)
  · obtain ⟨H0, p, m, ts, rfl, _⟩ := h
    rfl
  · obtain ⟨H0, p, m, ts, rfl, W, g, m16, tl, k⟩ := h
    obtain ⟨p0, dx, Rw, aw, hp, _⟩ := id W
    refine ⟨_, pss_cons (ps_setLc (i := 1) (own := [("point", 7)]) (g := gName 7) (tt := tYes) (te := tMeth C "beside" (spBeside C) [] C8.E0 (tVar 0) (tCons (tVar 7) tNil))
        (by rfl) scBlocks.nd rfl rfl (sw_true rfl rfl rfl (by decide +kernel)) (pi_range1 (by rfl) T.range (pa_cons (pe_fld (pv 0) rfl) pa_nil))
        (blkOk_by (own := [("point", 7)]) (N := nBlocks) (sc := defScope sBlocks) (by decide +kernel)) (fun _ _ _ _ _ => pg_name (i := 7) scBlocks.nd rfl (Or.inl rfl)) (fun _ _ _ _ _ => pts_nil)
        (fun _ _ _ _ _ => C8.pe_mt (c_beside T W4.fC W4.fB) hr (by decide) (pv 0) (pa_cons (pv 7) pa_nil)))
      (pss_cons (ps_set (i := 2) scBlocks.nd rfl (Or.inl rfl) (pe_lst pa_nil))
      (pss_cons (ps_set (i := 3) scBlocks.nd rfl (Or.inl rfl) (pe_callTy0 cr_newT (by rfl) B.set (by decide +kernel)))
      (pss_cons (ps_for PassesOwn.never rfl (pi_list (C8.pe_mt0 (c_ties T W4.fT) hr (by decide) (pv 0))) (pg_name (i := 4) scBlocks.nd rfl (Or.inl rfl))
        (pss_one (ps_if (pt_cmpR (op_notInT (hu65 hr)) (pv 4) (pv 3) (by rfl))
          (pss_cons (ps_set (i := 5) scBlocks.nd rfl (Or.inl rfl) (C8.pe_c (c_block T B) hr (by decide) (by rfl) (pa_cons (pv 1) (pa_cons (pv 4) pa_nil))))
          (pss_cons (ps_expr (pe_bm PySem.F.plainAttrs_list PySem.F.slot_list_append PySem.F.type_list_append mt_append (pv 2) (pa_cons (pv 5) pa_nil)))
          (pss_one (ps_for PassesOwn.never rfl (pi_list (pv 5)) (pg_name (i := 6) scBlocks.nd rfl (Or.inl rfl))
            (pss_one (ps_expr (pe_addT (hu65 hr) (pv 3) (pa_cons (pv 6) pa_nil)))))))) pss_nil)))
      (pss_one (ps_ret (pv 2)))))), ?_⟩
    -- rows = [web.beside(point) for point in range(web.many)]
    refine ⟨_, rfl, p, C, dx, _, _, rfl, hp, T.cl, T.nMany, wF_many _ _, (m : Int), rfl, by omega, by omega, fun R hR => ?_⟩
    refine lc_range (lo := 0) (n := (m : Int).toNat) (fun i H1 => Same H H1 ∧ ∃ bs, RowsAt H H1 R bs ((pts i).map (rowOf m ts))) ⟨Same.put hR, [], RowsAt.start hR⟩ (fun i H1 hi ⟨s1, bs, r1⟩ => ?_) (fun H1 ⟨s1, bs, r1⟩ => ?_)
    · rw [Int.toNat_natCast] at hi
      rw [Int.zero_add]
      refine ⟨rfl, ?_⟩
      refine yes_ ?_
      refine iteT ?_
      refine ⟨_, rfl, p, dx, _, rfl, s1 _ _ hp, wF_no _ _ (by decide +kernel) (by decide +kernel), _, rfl, H0, p, m, ts, i, rfl, W.same s1, hi, fun D hD => ?_⟩
      have RD : R ≠ D := ne_of_none r1.top hD
      refine ⟨bs.map V.ref, by rw [upd_ne RD]; exact r1.top, ?_, ?_⟩
      · rw [List.length_map, r1.len, List.length_map, pts_len]
        exact small (by omega)
      · refine ⟨Same.write (Same.step s1 hD) hR, bs ++ [D], ?_⟩
        rw [pts_succ, List.map_append]
        exact r1.more s1 hD
    · rw [Int.toNat_natCast] at r1
      have r1 : RowsAt H H1 R bs (rowsOf m ts) := r1
      -- found = []; placed = set()
      refine ⟨Nat.zero_le _, fun Fa hFa => ?_⟩
      have s2 := Same.put (o := .lst []) hFa
      have f2 : (upd H1 Fa (.lst [])) Fa = some (.lst []) := upd_same
      generalize upd H1 Fa (.lst []) = H2 at s2 f2 ⊢
      refine ⟨rfl, fun S hS => ?_⟩
      have nFS : Fa ≠ S := ne_of_none f2 hS
      have S1 : H1 S = none := s2.free hS
      have s3 : Same H2 (upd H2 S (SetTO P w S [])) := Same.put hS
      have pl : PlacedAt P w (upd H2 S (SetTO P w S [])) S [] [] := ⟨upd_same, fun p hp => (by cases hp), List.Perm.refl _, List.nodup_nil⟩
      have f3 := s3 _ _ f2
      have s13 := s2.trans s3
      -- for tie in web.ties()
      refine ⟨_, rfl, p, dx, _, rfl, s13 _ _ (s1 _ _ hp), wF_no _ _ (by decide +kernel) (by decide +kernel), H0, p, m, ts, rfl, W.same (s1.trans s13), g, m16, fun H4 D4 ws4 s34 hD4 d4 p4 => ?_⟩
      have nDF : D4 ≠ Fa := fun e => by
        have z := hD4
        rw [e] at z
        exact absurd (f3.symm.trans z) (fun q => by cases q)
      refine ⟨D4, rfl, ⟨_, SqL.of d4⟩, for_list (K := K) (a := D4) (xs := ws4)
        (fun n σ H5 => ∃ (as : List Addr) (L : List (Addr × List Int)) (U : List Tie) (v4 v5 v6 : Option V), σ = [some (.ref p), some (.ref R), some (.ref Fa), some (.ref S), v4, v5, v6, none] ∧ Same H1 H5 ∧ H5 D4 = some (.lst ws4) ∧ PairsAt H5 ws4 (toldT m ts) ∧
          FoundAt H H5 Fa as ((((toldT m ts).take n).filter (headT m ts)).map (blkL m ts)) ∧ PlacedAt P w H5 S L U ∧ ∀ u, u ∈ U ↔ ∃ (j : Nat) (v : Tie), j < n ∧ (toldT m ts)[j]? = some v ∧ Blk m ts v u)
        ⟨[], [], [], none, none, none, rfl, s13.trans s34, d4, p4, ⟨s34 _ _ f3, s1.free hFa, by simp, .nil⟩, pl.same s34, fun u => ⟨fun z => (by cases z), fun ⟨j, _, z, _⟩ => absurd z (Nat.not_lt_zero _)⟩⟩ (fun n σ H5 _ ⟨_, _, _, _, _, _, _, _, d, _⟩ => SqL.of d) ?_ ?_⟩
      · rintro n x σ H5 hn ⟨as, L, U, v4, v5, v6, rfl, s5, e5, n5, f5, pl5, hU⟩
        obtain ⟨t, et, ⟨b, rfl, hb⟩⟩ := paired_get n5 hn
        have ht := List.mem_of_getElem? et
        refine ⟨_, rfl, _, rfl, b, S, kOf t, L, rfl, rfl, SqT.of hb, pl5.at_, pl5.tupsAt, _, rfl, ?_⟩
        have hd := head_iff g et
        rw [take_next et]
        by_cases c : t ∈ U
        · refine no_ (by rw [decide_eq_true (pl5.mem.mpr c)]; rfl) ?_
          obtain ⟨j, v, j1, j2, j3⟩ := (hU t).mp c
          have hf : headT m ts t = false := Bool.eq_false_iff.mpr fun z => hd.mp z j v j1 j2 j3
          refine ⟨as, L, U, _, _, _, rfl, s5, e5, n5, ?_, pl5, fun u => ?_⟩
          · rw [List.filter_append, show ([t].filter (headT m ts)) = [] by simp [hf], List.append_nil]
            exact f5
          · rw [hU u]
            constructor
            · rintro ⟨i, y, i1, i2, i3⟩
              exact ⟨i, y, by omega, i2, i3⟩
            · rintro ⟨i, y, i1, i2, i3⟩
              rcases Nat.lt_or_ge i n with z | z
              · exact ⟨i, y, z, i2, i3⟩
              · have ei : i = n := by omega
                subst ei
                cases Option.some.inj (i2.symm.trans et)
                exact ⟨j, v, j1, j2, j3.trans i3⟩
        · refine yep_ (by rw [decide_eq_false (fun z => c (pl5.mem.mp z))]; rfl) ?_
          have hf : headT m ts t = true := hd.mpr fun j v j1 j2 j3 => c ((hU t).mpr ⟨j, v, j1, j2, j3⟩)
          -- block = _block(rows, tie)
          refine ⟨_, rfl, _, rfl, R, bs, m, ts, .ref b, t, rfl, r1.rd.same s5, g, m16, tl, ⟨b, rfl, hb⟩, ht, fun H6 D6 ws6 s56 hD6 d6 p6 => ?_⟩
          have f6 := f5.same s56
          have pl6 := pl5.same s56
          have e6 := s56 _ _ e5
          have n6 := PairsAt.same s56 n5
          have n6F : D6 ≠ Fa := fun e => by
            rw [e, f5.top] at hD6
            cases hD6
          have H6n : H D6 = none := (s1.trans s5).free hD6
          have s6 := s5.trans s56
          have al := f6.row.length
          have al2 : ((((toldT m ts).take n).filter (headT m ts)).map (blkL m ts)).length ≤ 40 := by
            rw [List.length_map]
            have h1 := List.length_filter_le (headT m ts) ((toldT m ts).take n)
            rw [List.length_take] at h1
            have h2 := toldT_len g
            omega
          -- found.append(block)
          refine ⟨_, rfl, .inl ⟨rfl, _, SqL.of f6.top⟩, _, rfl, Fa, _, _, rfl, rfl, f6.top, by rw [List.length_map]; exact small (by omega), ?_⟩
          have f7 := f6.more n6F H6n d6 p6
          have pl7 := pl6.over (ys := as.map V.ref ++ [.ref D6]) f6.top
          have d7 : (upd H6 Fa (.lst (as.map V.ref ++ [.ref D6]))) D6 = some (.lst ws6) := by rw [upd_ne n6F]; exact d6
          have p7 := PairsAt.over (ys := as.map V.ref ++ [.ref D6]) f6.top p6
          have e7 : (upd H6 Fa (.lst (as.map V.ref ++ [.ref D6]))) D4 = some (.lst ws4) := by rw [upd_ne nDF]; exact e6
          have n7 := PairsAt.over (ys := as.map V.ref ++ [.ref D6]) f6.top n6
          have s7 : Same H1 (upd H6 Fa (.lst (as.map V.ref ++ [.ref D6]))) := Same.write s6 hFa
          generalize upd H6 Fa (.lst (as.map V.ref ++ [.ref D6])) = H7 at f7 pl7 d7 p7 e7 n7 s7 ⊢
          -- for each in block: placed.add(each)
          refine ⟨_, rfl, D6, rfl, ⟨_, SqL.of d7⟩, for_list (K := K) (a := D6) (xs := ws6)
            (fun q σ H8 => ∃ (L2 : List (Addr × List Int)) (U2 : List Tie) (v6 : Option V), σ = [some (.ref p), some (.ref R), some (.ref Fa), some (.ref S), some (.ref b), some (.ref D6), v6, none] ∧ Same H1 H8 ∧ H8 D4 = some (.lst ws4) ∧ PairsAt H8 ws4 (toldT m ts) ∧
              FoundAt H H8 Fa (as ++ [D6]) ((((toldT m ts).take n).filter (headT m ts)).map (blkL m ts) ++ [blkL m ts t]) ∧ PlacedAt P w H8 S L2 U2 ∧ H8 D6 = some (.lst ws6) ∧ PairsAt H8 ws6 (blkL m ts t) ∧ ∀ u, u ∈ U2 ↔ u ∈ U ∨ u ∈ (blkL m ts t).take q)
            ⟨L, U, _, rfl, s7, e7, n7, f7, pl7, d7, p7, fun u => ⟨.inl, fun z => z.elim id fun z => (by simp at z)⟩⟩ (fun q σ H8 _ ⟨_, _, _, _, _, _, _, _, _, d, _⟩ => SqL.of d) ?_ ?_⟩
          · rintro q y σ H8 hq ⟨L2, U2, v6, rfl, s8, e8, n8, f8, pl8, d8, p8, hU2⟩
            obtain ⟨u, eu, ⟨c2, rfl, hc2⟩⟩ := paired_get p8 hq
            have um := List.mem_of_getElem? eu
            have sub : ∀ v ∈ U2, v ∈ toldT m ts := fun v hv => by
              rcases (hU2 v).mp hv with z | z
              · obtain ⟨j, y, _, j2, j3⟩ := (hU v).mp z
                exact j3.told g (List.mem_of_getElem? j2)
              · exact ((mem_blkL g ht).mp (List.mem_of_mem_take z)).told g ht
            have ll := seen_len g pl8.nd sub
            have l2 := pl8.len
            refine ⟨_, rfl, ⟨S, L2, rfl, pl8.at_⟩, _, rfl, S, c2, kOf u, L2, rfl, rfl, SqT.of hc2, pl8.at_, pl8.tupsAt, by omega, fun L' k1 k2 => ?_⟩
            obtain ⟨U', pl9, hU'⟩ := pl8.add hc2 k1 k2
            have ns := noSeq_set pl8.at_
            refine ⟨L', U', _, rfl, Same.write s8 S1, ns.lst e8, ns.pairs n8, ns.found f8, pl9, ns.lst d8, ns.pairs p8, fun v => ?_⟩
            rw [hU' v, hU2 v, take_next eu, List.mem_append, List.mem_singleton, or_assoc]
          · rintro σ H8 ⟨L2, U2, v6, rfl, s8, e8, n8, f8, pl8, d8, p8, hU2⟩
            have l6 := p8.length
            rw [List.take_of_length_le (by omega)] at hU2
            refine ⟨as ++ [D6], L2, U2, _, _, _, rfl, s8, e8, n8, ?_, pl8, fun u => ?_⟩
            · rw [List.filter_append, show ([t].filter (headT m ts)) = [t] by simp [hf], List.map_append]
              exact f8
            · rw [hU2 u, hU u, mem_blkL g ht]
              constructor
              · rintro (⟨i, y, i1, i2, i3⟩ | z)
                · exact ⟨i, y, by omega, i2, i3⟩
                · exact ⟨n, t, by omega, et, z⟩
              · rintro ⟨i, y, i1, i2, i3⟩
                rcases Nat.lt_or_ge i n with z | z
                · exact .inl ⟨i, y, z, i2, i3⟩
                · have ei : i = n := by omega
                  subst ei
                  cases Option.some.inj (i2.symm.trans et)
                  exact .inr i3
      · rintro σ H5 ⟨as, L, U, v4, v5, v6, rfl, s5, e5, n5, f5, pl5, hU⟩
        have l4 := p4.length
        rw [List.take_of_length_le (by omega)] at f5
        exact ⟨_, rfl, k H5 Fa as (s1.trans s5) f5⟩
end
end Fd
namespace Fd
open PySem PySem.Spec PyProof.Rows L2
abbrev oMod : R2 := rI (fun _ j => 0 < j) fun i j => .int (i % j)
abbrev oAdd : R2 := rI0 fun i j => .int (i + j)
abbrev oSub : R2 := rI0 fun i j => .int (i - j)
theorem rg_get {f n j : Nat} (h : j < n) : (rgV (f : Int) ((f : Int) + n))[j]? = some (.int (f + j)) := by
  unfold rgV
  rw [List.getElem?_map, List.getElem?_range (by omega)]
  rfl
theorem rg_at {f n j : Nat} (h : j < n) : atI (rgV (f : Int) ((f : Int) + n)) (j : Int) = some (.int (f + j)) := atI_nat (rg_get h)
theorem rg_last {f n : Nat} (h : 1 ≤ n) : atI (rgV (f : Int) ((f : Int) + n)) (-1) = some (.int (f + (n - 1 : Nat))) := by
  unfold atI ixN
  have l : (rgV (f : Int) ((f : Int) + n)).length = n := by
    rw [rgV_length]
    omega
  rw [l, if_neg (by decide), if_pos (by omega)]
  show (rgV (f : Int) ((f : Int) + n))[(-1 + (n : Int)).toNat]? = _
  rw [show (-1 + (n : Int)).toNat = n - 1 by omega]
  exact rg_get (by omega)
/-- ties told the lesser point first, all below m, each once -/
structure Low (m : Nat) (ts : List Tie) : Prop where
  rng : ∀ t ∈ ts, 0 ≤ t.1 ∧ t.1 < t.2 ∧ t.2 < m
  nd : ts.Nodup
theorem Low.good {m : Nat} {ts : List Tie} (h : Low m ts) : Good m ts := by
  refine ⟨fun t ht => ?_, ?_⟩
  · have := h.rng t ht
    omega
  · refine List.Pairwise.imp_of_mem (fun {t u} ht hu ne => ⟨ne, fun e => ?_⟩) h.nd
    have h1 := h.rng t ht
    have h2 := h.rng u hu
    rw [e] at h1
    have h1 : u.2 < u.1 := h1.2.1
    omega
theorem Low.nil (m : Nat) : Low m [] := ⟨fun t h => (by cases h), List.nodup_nil⟩
theorem Low.snoc {m : Nat} {ts : List Tie} {t : Tie} (h : Low m ts) (r : 0 ≤ t.1 ∧ t.1 < t.2 ∧ t.2 < m) (n : t ∉ ts) : Low m (ts ++ [t]) := by
  refine ⟨fun u hu => ?_, List.nodup_append.mpr ⟨h.nd, by simp, fun u hu v hv e => ?_⟩⟩
  · rcases List.mem_append.mp hu with z | z
    · exact h.rng u z
    · rw [List.mem_singleton.mp z]
      exact r
  · rw [List.mem_singleton.mp hv] at e
    exact n (e ▸ hu)
/-- the path of a ring from f on -/
def chain (f i : Nat) : List Tie := (List.range i).map fun k : Nat => (((f : Int) + k), ((f : Int) + (k + 1 : Nat)))
theorem chain_succ (f i : Nat) : chain f (i + 1) = chain f i ++ [(((f : Int) + i), ((f : Int) + (i + 1 : Nat)))] := by
  unfold chain
  rw [List.range_succ, List.map_append]
  rfl
theorem mem_chain {f i : Nat} {t : Tie} (h : t ∈ chain f i) : ∃ k : Nat, k < i ∧ t = (((f : Int) + k), ((f : Int) + (k + 1 : Nat))) := by
  obtain ⟨k, hk, e⟩ := List.mem_map.mp h
  exact ⟨k, List.mem_range.mp hk, e.symm⟩
theorem chain_len (f i : Nat) : (chain f i).length = i := by simp [chain]
theorem chain_low {m f : Nat} {ts : List Tie} (h : Low m ts) (below : ∀ t ∈ ts, t.2 ≤ f) : ∀ i : Nat, f + i < m → Low m (ts ++ chain f i)
  | 0, _ => by
    rw [show chain f 0 = [] from rfl, List.append_nil]
    exact h
  | i + 1, hi => by
    rw [chain_succ, ← List.append_assoc]
    refine (chain_low h below i (by omega)).snoc ⟨by show (0 : Int) ≤ (f : Int) + i; omega, by show (f : Int) + i < (f : Int) + (i + 1 : Nat); omega, by show (f : Int) + (i + 1 : Nat) < m; omega⟩ fun hm => ?_
    rcases List.mem_append.mp hm with z | z
    · have q : (f : Int) + (i + 1 : Nat) ≤ f := below _ z
      omega
    · obtain ⟨k, hk, e⟩ := mem_chain z
      have q : (f : Int) + i = (f : Int) + k := congrArg Prod.fst e
      omega
/-- a ring of n points from f on -/
theorem ring_low {m f n : Nat} {ts : List Tie} (h : Low m ts) (below : ∀ t ∈ ts, t.2 ≤ f) (n3 : 3 ≤ n) (hn : f + n ≤ m) : Low m (ts ++ chain f (n - 1) ++ [((f : Int), (f : Int) + (n - 1 : Nat))]) ∧ ∀ t ∈ ts ++ chain f (n - 1) ++ [((f : Int), (f : Int) + (n - 1 : Nat))], t.2 ≤ (f + (n - 1) : Nat) := by
  constructor
  · refine (chain_low h below (n - 1) (by omega)).snoc ⟨by show (0 : Int) ≤ f; omega, by show (f : Int) < (f : Int) + (n - 1 : Nat); omega, by show (f : Int) + (n - 1 : Nat) < m; omega⟩ fun hm => ?_
    rcases List.mem_append.mp hm with z | z
    · have q : (f : Int) + (n - 1 : Nat) ≤ f := below _ z
      omega
    · obtain ⟨k, hk, e⟩ := mem_chain z
      have q1 : (f : Int) = (f : Int) + k := congrArg Prod.fst e
      have q2 : (f : Int) + (n - 1 : Nat) = (f : Int) + (k + 1 : Nat) := congrArg Prod.snd e
      omega
  · intro t ht
    rcases List.mem_append.mp ht with ht | ht
    · rcases List.mem_append.mp ht with z | z
      · have := below t z
        omega
      · obtain ⟨k, hk, e⟩ := mem_chain z
        rw [e]
        show (f : Int) + (k + 1 : Nat) ≤ _
        omega
    · rw [List.mem_singleton.mp ht]
      show (f : Int) + (n - 1 : Nat) ≤ _
      omega
def muG (m : Nat) (σ : L2.St) : Nat := match σ[3]? with
  | some (some (V.int z)) => ((m : Int) - z).toNat
  | _ => 0
def spRings : Sp := fun vs H Q _ => ∃ (c : Int) (m : Nat), vs = [.int c, .int m] ∧ 1 ≤ m ∧ m ≤ 16 ∧
  ∀ (H' : Hp) (D : Addr) (ws : List V) (ts : List Tie), Same H H' → H D = none → H' D = some (.lst ws) → PairsAt H' ws ts → Low m ts → ts.length ≤ 30 → Q (.ref D) H'
section
variable {P : Program} {w : World} {K : PySem.W.Frag} {mg : Str → Option Value} {base : Heap} {C : Addr}
abbrev nRings : List Str := ["_law_cell", "_law_many_here", "_law_made", "_law_first", "_law_size", "_law_row", "_law_k"]
theorem scRings : FnScope nRings ["_law_cell", "_law_many_here"] (defScope sLawRings) := ⟨rfl, rfl, rfl, by decide +kernel, rfl, by decide +kernel, by decide +kernel⟩
theorem c_rings (T : WTxt K mg C) (L : LTxt K mg) (FR : Fn K mg "_law_rings" sLawRings ["_law_cell", "_law_many_here"]) : C8.Cal P w K mg base 1 "_law_rings" spRings [] := by
  refine cal_of FR scRings (fun vs H Q E h => ?_) (fun f cdv A outer s H vs Q E hr h => ?_)
  · obtain ⟨c, m, rfl, _⟩ := h
    rfl
  · obtain ⟨c, m, rfl, m1, m16, k⟩ := h
    refine ⟨_, pss_cons (ps_set (i := 2) scRings.nd rfl (Or.inl rfl) (pe_lst pa_nil))
      (pss_cons (ps_set (i := 3) scRings.nd rfl (Or.inl rfl) pe_int)
      (pss_cons (ps_while PassesOwn.never (pt_cmpR op_lt (pe_op op_add (pv 3) pe_int) (pv 1) (nomark _))
        (pss_cons (ps_set (i := 4) scRings.nd rfl (Or.inl rfl) (pe_callB (id := "min") (r := rMin2) (call_min2 rfl) (by rfl) L.min (by decide +kernel) (pa_cons (pe_op op_add pe_int (pe_op op_mod (pv 0) pe_int)) (pa_cons (pe_op op_sub (pv 1) (pv 3)) pa_nil))))
        (pss_cons (ps_set (i := 0) scRings.nd rfl (Or.inl rfl) (pe_op op_fdiv (pv 0) pe_int))
        (pss_cons (ps_set (i := 5) scRings.nd rfl (Or.inr rfl) (pe_listRg rfl (by rfl) T.list (prg_2 (by rfl) T.range (pv 3) (pe_op op_add (pv 3) (pv 4)))))
        (pss_cons (ps_set (i := 2) scRings.nd rfl (Or.inl rfl) (pe_op op_cat (pe_op op_cat (pv 2)
            (pe_lc (own := [("_law_k", 6)]) (g := gName 6) (tt := tYes) (te := tTup (tCons (tOp (rIxL K) (tVar 5) (tOp oSub (tVar 6) (tC (.int 1)))) (tCons (tOp (rIxL K) (tVar 5) (tVar 6)) tNil)))
              (by rfl) scRings.nd (pi_range2 (by rfl) T.range (pa_cons pe_int (pa_cons (pv 4) pa_nil)))
              (blkOk_by (own := [("_law_k", 6)]) (N := nRings) (sc := defScope sLawRings) (by decide +kernel)) (fun _ _ _ _ _ => pg_name (i := 6) scRings.nd rfl (Or.inl rfl)) (fun _ _ _ _ _ => pts_nil)
              (fun _ _ _ _ _ => pe_tup (pa_cons (pe_ix ix_list (pv 5) (pe_op op_sub (pv 6) pe_int) (fun _ _ => rfl)) (pa_cons (pe_ix ix_list (pv 5) (pv 6) (fun _ _ => rfl)) pa_nil)))))
            (pe_lst (pa_cons (pe_tup (pa_cons (pe_ix ix_list (pv 5) pe_int (fun _ _ => rfl)) (pa_cons (pe_ix ix_list (pv 5) (pe_un un_neg pe_int) (fun _ _ => rfl)) pa_nil))) pa_nil))))
        (pss_one (ps_set (i := 3) scRings.nd rfl (Or.inl rfl) (pe_op op_sub (pe_op op_add (pv 3) (pv 4)) pe_int))))))))
      (pss_one (ps_ret (pv 2))))), ?_⟩
    refine ⟨Nat.zero_le _, fun D0 hD0 => ?_⟩
    refine while_by (fun σ H1 => ∃ (c : Int) (D : Addr) (fi : Nat) (ws : List V) (ts : List Tie) (v4 v5 : Option V), σ = [some (.int c), some (.int m), some (.ref D), some (.int fi), v4, v5, none] ∧ Same H H1 ∧ H D = none ∧ H1 D = some (.lst ws) ∧ PairsAt H1 ws ts ∧ Low m ts ∧ (∀ t ∈ ts, t.2 ≤ (fi : Int)) ∧ fi < m ∧ ts.length ≤ 2 * fi) (fun σ _ => muG m σ)
      ⟨c, D0, 0, [], [], none, none, rfl, Same.put hD0, hD0, upd_same, .nil, Low.nil m, fun t h => (by cases h), by omega, Nat.zero_le _⟩ ?_ ?_
    · rintro σ H1 ⟨c, D, fi, ws, ts, v4, v5, rfl, s1, hD, d1, p1, lo, be, fm, tl⟩
      refine ⟨_, rfl, _, _, rfl, rfl, _, rfl, _, _, rfl, rfl, _, rfl, ?_⟩
      have wl := p1.length
      by_cases hi : fi + 2 < m
      · refine yep_ (decide_eq_true (by omega)) ?_
        have c0 := Int.emod_nonneg c (show (3 : Int) ≠ 0 by decide)
        have c1 := Int.emod_lt_of_pos c (show (0 : Int) < 3 by decide)
        obtain ⟨n, en, n3, n5, nm⟩ : ∃ n : Nat, (if (m : Int) - (fi : Int) < 3 + c % 3 then (m : Int) - (fi : Int) else 3 + c % 3) = n ∧ 3 ≤ n ∧ n ≤ 5 ∧ fi + n ≤ m := by
          refine ⟨(if (m : Int) - (fi : Int) < 3 + c % 3 then (m : Int) - (fi : Int) else 3 + c % 3).toNat, ?_, ?_, ?_, ?_⟩ <;> split <;> omega
        -- size = min(3 + cell % 3, many - first); cell = cell // 3
        refine ⟨_, rfl, _, _, rfl, rfl, by show (0 : Int) < 3; decide, _, _, rfl, rfl, _, rfl, _, rfl, _, _, rfl, rfl, _, _, rfl, ?_⟩
        dsimp only [gName, tSeq, tAsg]
        rw [en]
        refine ⟨_, rfl, _, _, rfl, rfl, ⟨by decide, by decide⟩, ?_⟩
        -- row = list(range(first, first + size))
        refine ⟨_, rfl, _, rfl, _, rfl, _, _, rfl, rfl, (fi : Int), (fi : Int) + n, rfl, rfl, RgOk.of_le (by omega) (by omega) (by omega) (by omega), fun Rr hRr => ?_⟩
        have s2 : Same H1 (upd H1 Rr (.lst (rgV (fi : Int) ((fi : Int) + n)))) := Same.put hRr
        have r2 : (upd H1 Rr (.lst (rgV (fi : Int) ((fi : Int) + n)))) Rr = some (.lst (rgV (fi : Int) ((fi : Int) + n))) := upd_same
        generalize upd H1 Rr (.lst (rgV (fi : Int) ((fi : Int) + n))) = H2 at s2 r2 ⊢
        -- the path
        refine ⟨_, rfl, _, rfl, 1, (n : Int), rfl, ⟨by omega, by omega, by omega, by omega⟩, fun q hq => ?_⟩
        refine lc_range (lo := 1) (n := ((n : Int) - 1).toNat) (fun i H3 => Same H2 H3 ∧ ∃ vs, H3 q = some (.lst vs) ∧ PairsAt H3 vs (chain fi i)) ⟨Same.put hq, [], upd_same, .nil⟩ (fun i H3 hin ⟨s3, vs, d3, p3⟩ => ?_) (fun H3 ⟨s3, vs, d3, p3⟩ => ?_)
        · have hin' : i + 1 < n := by omega
          refine ⟨rfl, ?_⟩
          refine yes_ ?_
          refine iteT ?_
          have l3 := p3.length
          rw [chain_len] at l3
          have a1 : atI (rgV (fi : Int) ((fi : Int) + n)) (1 + (i : Int) - 1) = some (.int ((fi : Int) + i)) := by
            rw [show (1 : Int) + (i : Int) - 1 = (i : Nat) by omega]
            exact rg_at (by omega)
          have a2 : atI (rgV (fi : Int) ((fi : Int) + n)) (1 + (i : Int)) = some (.int ((fi : Int) + (i + 1 : Nat))) := by
            rw [show (1 : Int) + (i : Int) = ((i + 1 : Nat) : Int) by omega]
            exact rg_at hin'
          refine ⟨_, rfl, _, rfl, _, _, rfl, rfl, Rr, _, _, _, rfl, rfl, SqL.of (s3 _ _ r2), a1, _, rfl, _, rfl, Rr, _, _, _, rfl, rfl, SqL.of (s3 _ _ r2), a2, by show 2 ≤ sizeLine; decide, fun t ht => ?_⟩
          refine ⟨vs, (Same.put ht) _ _ d3, small (by omega), Same.write (Same.step s3 ht) hq, vs ++ [.ref t], upd_same, ?_⟩
          rw [chain_succ]
          exact PairsAt.more d3 p3 ht
        · have en1 : ((n : Int) - 1).toNat = n - 1 := by omega
          rw [en1] at p3
          have l3 := p3.length
          rw [chain_len] at l3
          -- made + path
          refine ⟨D, q, ws, vs, rfl, rfl, s3 _ _ (s2 _ _ d1), d3, smalle (by omega), fun q4 hq4 => ?_⟩
          have s4 : Same H3 (upd H3 q4 (.lst (ws ++ vs))) := Same.put hq4
          have d4 : (upd H3 q4 (.lst (ws ++ vs))) q4 = some (.lst (ws ++ vs)) := upd_same
          have p4 : PairsAt (upd H3 q4 (.lst (ws ++ vs))) (ws ++ vs) (ts ++ chain fi (n - 1)) := paired_app (PairsAt.same (s2.trans (s3.trans s4)) p1) (PairsAt.same s4 p3)
          have s14 := s2.trans (s3.trans s4)
          have r4 := (s3.trans s4) _ _ r2
          generalize upd H3 q4 (.lst (ws ++ vs)) = H4 at s14 d4 p4 r4 ⊢
          have l4 := p4.length
          -- [(row[0], row[-1])]
          have a0 : atI (rgV (fi : Int) ((fi : Int) + n)) 0 = some (.int (fi : Int)) := by
            have := rg_at (f := fi) (n := n) (j := 0) (by omega)
            rw [show ((0 : Nat) : Int) = 0 from rfl, Int.add_zero] at this
            exact this
          refine ⟨_, rfl, Rr, _, _, _, rfl, rfl, SqL.of r4, a0, _, rfl, _, rfl, Rr, _, _, _, rfl, rfl, SqL.of r4, rg_last (by omega), by show 2 ≤ sizeLine; decide, fun t ht => ?_⟩
          refine ⟨by show 1 ≤ sizeLine; decide, fun q5 hq5 => ?_⟩
          have s45 := Same.put (o := .tup [.int (fi : Int), .int ((fi : Int) + (n - 1 : Nat))]) ht
          have s56 := Same.put (o := .lst [.ref t]) hq5
          have s46 := s45.trans s56
          have ht6 := s56 _ _ (upd_same (H := H4) (a := t) (o := .tup [.int (fi : Int), .int ((fi : Int) + (n - 1 : Nat))]))
          have d6 : (upd (upd H4 t (.tup [.int (fi : Int), .int ((fi : Int) + (n - 1 : Nat))])) q5 (.lst [.ref t])) q5 = some (.lst [.ref t]) := upd_same
          generalize upd (upd H4 t (.tup [.int (fi : Int), .int ((fi : Int) + (n - 1 : Nat))])) q5 (.lst [.ref t]) = H6 at s46 ht6 d6 ⊢
          rw [List.length_append, List.length_append, chain_len] at l4
          refine ⟨q4, q5, _, _, rfl, rfl, s46 _ _ d4, d6, smalle (by rw [List.length_append]; show _ + 1 ≤ 1000; omega), fun q7 hq7 => ?_⟩
          have s67 := Same.put (o := .lst (ws ++ vs ++ [.ref t])) hq7
          have p7 : PairsAt (upd H6 q7 (.lst (ws ++ vs ++ [.ref t]))) (ws ++ vs ++ [.ref t]) (ts ++ chain fi (n - 1) ++ [((fi : Int), (fi : Int) + (n - 1 : Nat))]) :=
            paired_app (PairsAt.same (s46.trans s67) p4) (.cons ⟨t, rfl, s67 _ _ ht6⟩ .nil)
          obtain ⟨lo7, be7⟩ := ring_low lo be n3 nm
          have s17 : Same H (upd H6 q7 (.lst (ws ++ vs ++ [.ref t]))) := s1.trans (s14.trans (s46.trans s67))
          refine ⟨_, rfl, _, rfl, _, _, rfl, rfl, _, _, rfl, rfl, ⟨c / 3, q7, fi + (n - 1), _, _, some (.int n), some (.ref Rr), ?_, s17, (s1.trans (s14.trans s46)).free hq7, upd_same, p7, lo7, be7, by omega, ?_⟩, ?_⟩
          · show [some (V.int (c / 3)), some (V.int m), some (V.ref q7), some (V.int ((fi : Int) + (n : Int) - 1)), some (V.int n), some (V.ref Rr), none] = _
            rw [show (fi : Int) + (n : Int) - 1 = ((fi + (n - 1) : Nat) : Int) by omega]
          · rw [List.length_append, List.length_append, chain_len, List.length_singleton]
            omega
          · show ((m : Int) - ((fi : Int) + (n : Int) - 1)).toNat < ((m : Int) - (fi : Int)).toNat
            omega
      · refine no_ (decide_eq_false (by omega)) ?_
        exact ⟨_, rfl, k H1 D ws ts s1 hD d1 p1 lo (by omega)⟩
    · rintro σ H1 Q1 Q2 hq ⟨v, e1, i, j, e2, e3, u, e4, i2, j2, e5, e6, c, e7, q⟩
      exact ⟨v, e1, i, j, e2, e3, u, e4, i2, j2, e5, e6, c, e7, hq _ _ q⟩
end
end Fd
namespace Fd
open PySem PySem.Spec PyProof.Rows L2
theorem cut_len2 (xs : List V) {e : Int} (h0 : 0 ≤ e) (h1 : e ≤ 42) : (cutV xs (some 2) (some e)).length ≤ 40 := by
  unfold cutV
  rw [List.length_take]
  obtain ⟨k, rfl⟩ : ∃ k : Nat, e = k := ⟨e.toNat, by omega⟩
  have e1 : HT.sIx xs.length 0 (some 2) = min 2 xs.length := HT.sIx_nat _ _ 2
  have e2 : HT.sIx xs.length xs.length (some (k : Int)) = min k xs.length := HT.sIx_nat _ _ k
  rw [e1, e2]
  omega
theorem cut_take (xs : List V) (k : Nat) : cutV xs none (some (k : Int)) = xs.take k := by
  unfold cutV
  have e2 : HT.sIx xs.length xs.length (some (k : Int)) = min k xs.length := HT.sIx_nat _ _ k
  have e1 : HT.sIx xs.length 0 none = 0 := rfl
  rw [e1, e2, List.drop_zero, Nat.sub_zero]
  rcases Nat.le_total k xs.length with h | h
  · rw [Nat.min_eq_left h]
  · rw [Nat.min_eq_right h, List.take_length, List.take_of_length_le h]
/-- sorted ties are told as they stand -/
theorem told_self {m : Nat} {ts : List Tie} (h : Low m ts) (s : ts.Pairwise lexT) : toldT m ts = ts := by
  refine strict_uniq (lt := lexT) (fun a b => lex_asym) (toldT_strict h.good) s fun t => ?_
  rw [mem_toldT h.good]
  constructor
  · rintro ⟨l, a | a⟩
    · exact a
    · have := (h.rng _ a).2.1
      have : t.2 < t.1 := this
      omega
  · exact fun ht => ⟨(h.rng t ht).2.1, .inl ht⟩
def spLTies4 (K : PySem.W.Frag) : Sp := fun vs H Q _ => ∃ (a : Addr) (ns : List Int) (m : Nat), vs = [.ref a, .int m] ∧ SqL K H a (iL ns) ∧ 1 ≤ m ∧ m ≤ 16 ∧
  ∀ (H' : Hp) (D : Addr) (ws : List V) (ts : List Tie), Same H H' → H D = none → H' D = some (.lst ws) → PairsAt H' ws ts → Low m ts → toldT m ts = ts → ts.length ≤ 40 → Q (.ref D) H'
section
variable {P : Program} {w : World} {K : PySem.W.Frag} {mg : Str → Option Value} {base : Heap} {C : Addr}
abbrev nLTies : List Str := ["_law_script", "_law_many_here", "_law_made", "_law_cell", "_law_one", "_law_other"]
theorem scLTies : FnScope nLTies ["_law_script", "_law_many_here"] (defScope sLawTies) := ⟨rfl, rfl, rfl, by decide +kernel, rfl, by decide +kernel, by decide +kernel⟩
theorem c_lties (T : WTxt K mg C) (L : LTxt K mg) (FR : Fn K mg "_law_rings" sLawRings ["_law_cell", "_law_many_here"]) (FT : Fn K mg "_law_ties" sLawTies ["_law_script", "_law_many_here"]) : C8.Cal P w K mg base 2 "_law_ties" (spLTies4 K) [] := by
  refine cal_of FT scLTies (fun vs H Q E h => ?_) (fun f cdv A outer s H vs Q E hr h => ?_)
  · obtain ⟨a, ns, m, rfl, _⟩ := h
    rfl
  · obtain ⟨a, ns, m, rfl, hS, m1, m16, k⟩ := h
    -- the ties by the cells, and the end
    obtain ⟨tr, hrest, sem⟩ : ∃ t, PSs (cxOf L2.CX0 P w K mg base nLTies "_law_ties" (defScope sLawTies) f cdv A outer s H E).nox ((defBody sLawTies).drop 2) t ∧
        ∀ (H1 : Hp) (D : Addr) (ws : List V) (ts : List Tie), Same H H1 → H D = none → H1 D = some (.lst ws) → PairsAt H1 ws ts → Low m ts → ts.length ≤ 30 →
          t { nx := fun _ H' => Q .non H', rt := Q } [some (.ref a), some (.int m), some (.ref D), none, none, none] H1 := by
      refine ⟨_, pss_cons (ps_for PassesOwn.never rfl (pi_list (pe_slice sl_list (pv 0) (po_some pe_int) (po_some (pe_op op_add pe_int (pe_op op_mod (C8.pe_c (c_cell T L) hr (by decide) (by rfl) (pa_cons (pv 0) (pa_cons pe_int pa_nil))) pe_int))))) (pg_name (i := 3) scLTies.nd rfl (Or.inl rfl))
          (pss_cons (ps_set (i := 4) scLTies.nd rfl (Or.inl rfl) (pe_op op_mod (pv 3) (pv 1)))
          (pss_cons (ps_set (i := 5) scLTies.nd rfl (Or.inl rfl) (pe_op op_mod (pe_op op_add (pe_op op_add (pv 4) pe_int)
              (pe_op op_mod (pe_op op_fdiv (pv 3) (pv 1)) (pe_callB (call_max2 rfl) (by rfl) L.max (by decide +kernel) (pa_cons pe_int (pa_cons (pe_op op_sub (pv 1) pe_int) pa_nil))))) (pv 1)))
          (pss_one (ps_if (PW.pt (pw_and (pt_cmpR op_ne (pv 4) (pv 5) (nomark _)) (pw_and (pt_cmpR (op_notInD (hu65 hr)) (pe_tup (pa_cons (pv 4) (pa_cons (pv 5) pa_nil))) (pv 2) (by rfl))
              (pw_and1 (pt_cmpR (op_notInD (hu65 hr)) (pe_tup (pa_cons (pv 5) (pa_cons (pv 4) pa_nil))) (pv 2) (by rfl))))))
            (pss_one (ps_expr (pe_bm PySem.F.plainAttrs_list PySem.F.slot_list_append PySem.F.type_list_append mt_append (pv 2) (pa_cons (pe_tup (pa_cons (pe_callB (id := "min") (r := rMin2) (call_min2 rfl) (by rfl) L.min (by decide +kernel) (pa_cons (pv 4) (pa_cons (pv 5) pa_nil)))
              (pa_cons (pe_callB (id := "max") (r := rMax2) (call_max2 rfl) (by rfl) L.max (by decide +kernel) (pa_cons (pv 4) (pa_cons (pv 5) pa_nil))) pa_nil))) pa_nil)))) pss_nil)))))
        (pss_one (ps_ret (pe_callB (id := "sorted") (r := rSortU K 2 64) (cr_sortT (by decide)) (by rfl) T.sorted (by decide +kernel) (pa_cons (pe_slice sl_list (pv 2) po_none (po_some pe_int)) pa_nil)))), fun H1 D ws ts s1 hD d1 p1 lo tl => ?_⟩
      have c0 := Int.emod_nonneg (cellAt ns 1) (show (21 : Int) ≠ 0 by decide)
      have c1 := Int.emod_lt_of_pos (cellAt ns 1) (show (0 : Int) < 21 by decide)
      obtain ⟨ms, em, _⟩ := cut_iL ns (some 2) (some (2 + cellAt ns 1 % 21))
      have m40 : ms.length ≤ 40 := by
        have := cut_len2 (iL ns) (show 0 ≤ 2 + cellAt ns 1 % 21 by omega) (show 2 + cellAt ns 1 % 21 ≤ 42 by omega)
        rw [em, List.length_map] at this
        exact this
      refine ⟨_, rfl, 2, rfl, _, rfl, a, ns, 1, rfl, s1.seq hS, _, _, rfl, rfl, by show (0 : Int) < 21; decide, _, _, rfl, rfl, _, rfl, a, iL ns, rfl, s1.seq hS, fun p hp => ?_⟩
      rw [em]
      have pD : D ≠ p := ne_of_none d1 hp
      refine ⟨p, rfl, ⟨_, SqL.of upd_same⟩, for_list (K := K) (a := p) (xs := iL ms) (fun i σ H2 => ∃ (v1 v2 v3 : Option V) (ws : List V) (ts : List Tie), σ = [some (.ref a), some (.int m), some (.ref D), v1, v2, v3] ∧
          H2 p = some (.lst (iL ms)) ∧ Same H H2 ∧ H2 D = some (.lst ws) ∧ PairsAt H2 ws ts ∧ Low m ts ∧ ts.length ≤ 30 + i)
        ⟨none, none, none, ws, ts, rfl, upd_same, Same.step s1 hp, by rw [upd_ne pD]; exact d1, p1.same (Same.put hp), lo, tl⟩ (fun i σ H2 _ ⟨_, _, _, _, _, _, h, _⟩ => SqL.of h) ?_ ?_⟩
      · rintro i x σ H2 hi ⟨v1, v2, v3, ws, ts, rfl, hp2, s2, hD2, hw, g, hl⟩
        obtain ⟨z, hz, rfl⟩ := iL_at hi
        have hi40 : i < 40 := by
          have := (List.getElem?_eq_some_iff.mp hz).1
          omega
        have m0 : (0 : Int) < (m : Int) := by omega
        have x0 : (0 : Int) < (if ((m : Int) - 1) > 1 then ((m : Int) - 1) else 1) := by
          split <;> omega
        refine ⟨_, rfl, _, rfl, _, _, rfl, rfl, m0, ?_⟩
        refine ⟨_, rfl, _, _, rfl, rfl, _, rfl, _, rfl, _, _, rfl, rfl, ⟨m0, by omega⟩, _, rfl, _, _, rfl, rfl, _, _, rfl, _, _, rfl, rfl, x0, _, _, rfl, rfl, _, rfl, _, _, rfl, rfl, m0, ?_⟩
        dsimp only
        generalize ho : z % (m : Int) = o
        generalize hq : (o + 1 + z / (m : Int) % (if ((m : Int) - 1) > 1 then ((m : Int) - 1) else 1)) % (m : Int) = q
        have o0 : 0 ≤ o := by rw [← ho]; exact Int.emod_nonneg _ (by omega)
        have o1 : o < m := by rw [← ho]; exact Int.emod_lt_of_pos _ m0
        have q0 : 0 ≤ q := by rw [← hq]; exact Int.emod_nonneg _ (by omega)
        have q1 : q < m := by rw [← hq]; exact Int.emod_lt_of_pos _ m0
        refine ⟨_, rfl, _, rfl, rfl, _, rfl, ?_⟩
        have stay : ∀ H3, Same H2 H3 → ∃ (v1 v2 v3 : Option V) (ws : List V) (ts : List Tie), [some (V.ref a), some (.int m), some (.ref D), some (.int z), some (.int o), some (.int q)] = [some (V.ref a), some (.int m), some (.ref D), v1, v2, v3] ∧
            H3 p = some (.lst (iL ms)) ∧ Same H H3 ∧ H3 D = some (.lst ws) ∧ PairsAt H3 ws ts ∧ Low m ts ∧ ts.length ≤ 30 + (i + 1) := fun H3 s3 =>
          ⟨_, _, _, ws, ts, rfl, s3 _ _ hp2, s2.trans s3, s3 _ _ hD2, hw.same s3, g, by omega⟩
        by_cases c1 : o = q
        · refine no_ (by rw [decide_eq_true (by rw [c1])]; rfl) ?_
          refine iteF ?_
          exact stay H2 (Same.refl _)
        · refine yep_ (by rw [decide_eq_false (fun e => c1 (V.int.inj e))]; rfl) ?_
          refine ⟨_, rfl, _, rfl, by show 2 ≤ sizeLine; decide, fun t ht => ?_⟩
          have s3 : Same H2 (upd H2 t (.tup [.int o, .int q])) := Same.put ht
          refine ⟨_, rfl, prd (o, q), ts.map prd, dp_pair ⟨t, rfl, upd_same⟩, dp_pairs (SqL.of (s3 _ _ hD2)) (hw.same s3), prd_shaped _, prds_shaped _, _, rfl, ?_⟩
          rw [prds_any]
          by_cases c2 : (o, q) ∈ ts
          · refine no_ (by rw [decide_eq_true c2]; rfl) ?_
            refine iteF ?_
            exact stay _ s3
          · refine yep_ (by rw [decide_eq_false c2]; rfl) ?_
            refine ⟨_, rfl, _, rfl, by show 2 ≤ sizeLine; decide, fun t' ht' => ?_⟩
            have s4 : Same H2 (upd (upd H2 t (.tup [.int o, .int q])) t' (.tup [.int q, .int o])) := Same.step s3 ht'
            refine ⟨_, rfl, prd (q, o), ts.map prd, dp_pair ⟨t', rfl, upd_same⟩, dp_pairs (SqL.of (s4 _ _ hD2)) (hw.same s4), prd_shaped _, prds_shaped _, _, rfl, ?_⟩
            rw [prds_any]
            by_cases c3 : (q, o) ∈ ts
            · refine no_ (by rw [decide_eq_true c3]; rfl) ?_
              exact stay _ s4
            · refine yep_ (by rw [decide_eq_false c3]; rfl) ?_
              refine ⟨_, rfl, .inl ⟨rfl, _, SqL.of (s4 _ _ hD2)⟩, _, rfl, _, rfl, _, _, rfl, _, rfl, _, rfl, _, _, rfl, by show 2 ≤ sizeLine; decide, fun u hu => ?_⟩
              rw [min_eq, max_eq] at *
              have s5 := Same.put (o := .tup [.int (min o q), .int (max o q)]) hu
              have hD5 := s5 _ _ (s4 _ _ hD2)
              refine ⟨D, _, _, rfl, rfl, hD5, by rw [hw.length]; exact small (by omega), ?_⟩
              have q5 := PairsAt.more (o := min o q) (q := max o q) (s4 _ _ hD2) (hw.same s4) hu
              refine ⟨_, _, _, _, ts ++ [(min o q, max o q)], rfl, ?_, Same.write (s2.trans (s4.trans s5)) hD, upd_same, q5, g.snoc ⟨by show 0 ≤ min o q; omega, by show min o q < max o q; omega, by show max o q < m; omega⟩ ?_, by rw [List.length_append, List.length_singleton]; omega⟩
              · have pD2 : p ≠ D := fun e => by
                  subst e
                  exact pD rfl
                rw [upd_ne pD2]
                exact s5 _ _ (s4 _ _ hp2)
              · rcases norm_cases (o, q) with e | e
                · exact fun hm => c2 (e ▸ hm)
                · exact fun hm => c3 (e ▸ hm)
      · rintro σ H2 ⟨v1, v2, v3, ws, ts, rfl, hp2, s2, hD2, hw, g, hl⟩
        rw [List.length_map] at hl
        -- sorted(made[:40])
        refine ⟨_, rfl, _, rfl, D, ws, rfl, SqL.of hD2, fun q hq => ?_⟩
        have ec : cutV ws none (some 40) = ws.take 40 := cut_take ws 40
        rw [ec]
        have s3 := Same.put (o := .lst (ws.take 40)) hq
        have pt := PairsAt.same s3 (paired_take hw 40)
        have lot : Low m (ts.take 40) := ⟨fun t ht => g.rng t (List.mem_of_mem_take ht), g.nd.sublist (List.take_sublist _ _)⟩
        have rg : ∀ u ∈ ts.take 40, 0 ≤ u.1 ∧ u.1 < 64 ∧ 0 ≤ u.2 ∧ u.2 < 64 := fun u hu => by
          have := lot.rng u hu
          omega
        refine ⟨q, ws.take 40, rfl, SqL.of upd_same, by rw [List.length_take]; omega, fun x hx => ?_, fun ys r perm srt hr' => ?_⟩
        · obtain ⟨j, hj⟩ := List.mem_iff_getElem?.mp hx
          obtain ⟨u, eu, pu⟩ := paired_get pt hj
          obtain ⟨r1, r2, r3, r4⟩ := rg u (List.mem_of_getElem? eu)
          refine ⟨_, tupI_pair pu, rfl, fun n hn => ?_⟩
          rcases List.mem_cons.mp hn with rfl | hn
          · exact ⟨r1, r2⟩
          · rw [List.mem_singleton.mp hn]
            exact ⟨r3, r4⟩
        · obtain ⟨vs, pv, pm, ps⟩ := sort_pairs pt perm srt lot.nd rg
          have lov : Low m vs := ⟨fun t ht => lot.rng t (pm.mem_iff.mp ht), pm.nodup_iff.mpr lot.nd⟩
          refine k _ r ys vs ((s2.trans s3).trans (Same.put hr')) ((s2.trans s3).free hr') upd_same (PairsAt.same (Same.put hr') pv) lov (told_self lov ps) ?_
          rw [pm.length_eq, List.length_take]
          omega
    refine ⟨_, pss_cons (ps_set (i := 2) scLTies.nd rfl (Or.inl rfl) (pe_lst pa_nil))
      (pss_cons (ps_if (pt_cmpR op_eq (pe_op op_mod (pe_op op_fdiv (C8.pe_c (c_cell T L) hr (by decide) (by rfl) (pa_cons (pv 0) (pa_cons pe_int pa_nil))) pe_int) pe_int) pe_int (nomark _))
        (pss_one (ps_set (i := 2) scLTies.nd rfl (Or.inl rfl) (C8.pe_c (c_rings T L FR) hr (by decide) (by rfl) (pa_cons (pe_op op_fdiv (C8.pe_c (c_cell T L) hr (by decide) (by rfl) (pa_cons (pv 0) (pa_cons pe_int pa_nil))) pe_int) (pa_cons (pv 1) pa_nil))))) pss_nil) hrest), ?_⟩
    refine ⟨Nat.zero_le _, fun D hD => ?_⟩
    have s0 : Same H (upd H D (.lst [])) := Same.put hD
    have d0 : (upd H D (.lst [])) D = some (.lst []) := upd_same
    generalize upd H D (.lst []) = H0 at s0 d0 ⊢
    refine ⟨_, rfl, a, ns, 1, rfl, s0.seq hS, _, _, rfl, rfl, ⟨by decide, by decide⟩, _, _, rfl, rfl, by show (0 : Int) < 2; decide, rfl, _, rfl, ?_⟩
    refine ite2 (fun _ => ?_) (fun _ => ?_)
    · refine ⟨_, rfl, a, ns, 1, rfl, s0.seq hS, _, _, rfl, rfl, ⟨by decide, by decide⟩, _, rfl, _, m, rfl, m1, m16, fun H1 D1 ws ts s1 hD1 d1 p1 lo tl => ?_⟩
      exact sem H1 D1 ws ts (s0.trans s1) (s0.free hD1) d1 p1 lo tl
    · exact sem H0 D [] [] s0 hD d0 .nil (Low.nil m) (by decide)
end
end Fd
namespace Fd
open PySem PySem.Spec PyProof.Rows L2
theorem rch_ne {ts : List Tie} {s o x : Int} (h : Rch ts (some o) s x) (hs : s ≠ o) : x ≠ o := (h.symmB hs).2
def condG (o x : Int) (t : Tie) : Bool := decide (x ∈ [t.1, t.2]) && !decide (o ∈ [t.1, t.2])
def candG (ts : List Tie) (o x : Int) : List Int := (ts.filter (condG o x)).map fun t => oth t x
theorem candG_yes {ts : List Tie} {o x : Int} {n : Nat} {t : Tie} (e : ts[n]? = some t) (c : condG o x t = true) : candG (ts.take (n + 1)) o x = candG (ts.take n) o x ++ [oth t x] := by
  unfold candG
  rw [take_next e, List.filter_append, List.map_append]
  simp [c]
theorem candG_no {ts : List Tie} {o x : Int} {n : Nat} {t : Tie} (e : ts[n]? = some t) (c : condG o x t = false) : candG (ts.take (n + 1)) o x = candG (ts.take n) o x := by
  unfold candG
  rw [take_next e, List.filter_append]
  simp [c]
theorem cond_adj {ts : List Tie} {o x : Int} {t : Tie} (ht : t ∈ ts) (c : condG o x t = true) : Adj ts x (oth t x) ∧ oth t x ≠ o := by
  obtain ⟨p, q⟩ := t
  unfold condG at c
  rw [Bool.and_eq_true, Bool.not_eq_true', decide_eq_true_iff, decide_eq_false_iff_not] at c
  obtain ⟨c1, c2⟩ := c
  have c3 : ¬ (o = p ∨ o = q) := fun z => c2 (by simpa using z)
  have c4 : x = p ∨ x = q := by simpa using c1
  unfold oth
  rcases c4 with rfl | rfl
  · rw [show (x, q).1 + (x, q).2 - x = q by show x + q - x = q; omega]
    exact ⟨.inl ht, fun e => c3 (.inr e.symm)⟩
  · rw [show (p, x).1 + (p, x).2 - x = p by show p + x - x = p; omega]
    exact ⟨.inr ht, fun e => c3 (.inl e.symm)⟩
theorem cond_all {ts : List Tie} {o x y : Int} (hx : x ≠ o) (a : Adj ts x y) (hy : y ≠ o) : y ∈ candG ts o x := by
  unfold candG
  rw [List.mem_map]
  rcases a with a | a
  · refine ⟨_, List.mem_filter.mpr ⟨a, ?_⟩, by show x + y - x = y; omega⟩
    unfold condG
    rw [decide_eq_true (by simp), decide_eq_false (by simp; omega)]
    rfl
  · refine ⟨_, List.mem_filter.mpr ⟨a, ?_⟩, by show y + x - x = y; omega⟩
    unfold condG
    rw [decide_eq_true (by simp), decide_eq_false (by simp; omega)]
    rfl
def muS (m : Nat) (σ : L2.St) : Nat := match σ[4]? with
  | some (some (V.int z)) => ((m : Int) - z).toNat
  | _ => 0
def spGrown : Sp := fun vs H Q _ => ∃ (a : Addr) (m : Nat) (ws : List V) (ts : List Tie) (s o : Int), vs = [.ref a, .int s, .int o] ∧ H a = some (.lst ws) ∧ PairsAt H ws ts ∧ Good m ts ∧ m ≤ 16 ∧ 0 ≤ s ∧ s < m ∧ s ≠ o ∧
  ∀ (H' : Hp) (D : Addr) (F : List Int), Same H H' → H D = none → H' D = some (.lst (iL F)) → (∀ q, q ∈ F ↔ Rch ts (some o) s q) → Q (.ref D) H'
section
variable {P : Program} {w : World} {K : PySem.W.Frag} {mg : Str → Option Value} {base : Heap} {C : Addr}
theorem scGrown : FnScope ["_law_ties_here", "_law_start", "_law_out", "_law_seen", "_law_at", "_law_tie"] ["_law_ties_here", "_law_start", "_law_out"] (defScope sLawGrown) := ⟨rfl, rfl, rfl, by decide +kernel, rfl, by decide +kernel, by decide +kernel⟩
theorem c_grown (T : WTxt K mg C) (FG : Fn K mg "_law_grown" sLawGrown ["_law_ties_here", "_law_start", "_law_out"]) : C8.Cal P w K mg base 1 "_law_grown" spGrown [] := by
  refine cal_of FG scGrown (fun vs H Q E h => ?_) (fun f cdv A outer s H vs Q E hr h => ?_)
  · obtain ⟨a, m, ws, ts, st, o, rfl, _⟩ := h
    rfl
  · obtain ⟨a, m, ws, ts, st, o, rfl, ha, pw, g, m16, st0, st1, so, k⟩ := h
    refine ⟨_, pss_cons (ps_set (i := 3) scGrown.nd rfl (Or.inl rfl) (pe_lst (pa_cons (pv 1) pa_nil)))
      (pss_cons (ps_set (i := 4) scGrown.nd rfl (Or.inl rfl) pe_int)
      (pss_cons (ps_while PassesOwn.never (pt_cmpR op_lt (pv 4) (pe_callB call_len_seq (by rfl) T.len PySem.boot_len (pa_cons (pv 3) pa_nil)) (nomark _))
        (pss_cons (ps_for PassesOwn.never rfl (pi_list (pv 0)) (pg_name (i := 5) scGrown.nd rfl (Or.inl rfl))
          (pss_one (ps_if (PW.pt (pw_and (pt_cmpR op_in_seq (pe_ix ix_list (pv 3) (pv 4) (fun _ _ => rfl)) (pv 5) (by rfl)) (pw_and (pt_cmpR op_notIn_seq (pv 2) (pv 5) (by rfl))
              (pw_and1 (pt_cmpR op_notIn_seq (pe_op op_sub (pe_op op_add (pe_ix ix_tup (pv 5) pe_int (fun _ _ => rfl)) (pe_ix ix_tup (pv 5) pe_int (fun _ _ => rfl))) (pe_ix ix_list (pv 3) (pv 4) (fun _ _ => rfl))) (pv 3) (by rfl))))))
            (pss_one (ps_expr (pe_bm PySem.F.plainAttrs_list PySem.F.slot_list_append PySem.F.type_list_append mt_append (pv 3) (pa_cons (pe_op op_sub (pe_op op_add (pe_ix ix_tup (pv 5) pe_int (fun _ _ => rfl)) (pe_ix ix_tup (pv 5) pe_int (fun _ _ => rfl))) (pe_ix ix_list (pv 3) (pv 4) (fun _ _ => rfl))) pa_nil)))) pss_nil)))
        (pss_one (ps_set (i := 4) scGrown.nd rfl (Or.inl rfl) (pe_op op_add (pv 4) pe_int)))))
      (pss_one (ps_ret (pv 3))))), ?_⟩
    refine ⟨_, rfl, by show 1 ≤ sizeLine; decide, fun D hD => ?_⟩
    refine while_by (fun σ H1 => ∃ (i : Nat) (F : List Int) (v5 : Option V), σ = [some (.ref a), some (.int st), some (.int o), some (.ref D), some (.int i), v5] ∧ Same H H1 ∧ H1 D = some (.lst (iL F)) ∧ Gr (fun x y => Adj ts x y ∧ y ≠ o) (Rch ts (some o) st) st F i) (fun σ _ => muS m σ)
      ⟨0, [st], none, rfl, Same.put hD, upd_same, Gr.start .here⟩ ?_ ?_
    · rintro σ H1 ⟨i, F, v5, rfl, s1, d1, fn⟩
      refine ⟨_, rfl, _, rfl, D, iL F, rfl, .inl (SqL.of d1), (i : Int), _, rfl, rfl, _, rfl, ?_⟩
      rw [List.length_map]
      have flen : ∀ {L : List Int}, L.Nodup → (∀ x ∈ L, Rch ts (some o) st x) → L.length ≤ m := fun nd rch => by
        have hp := nd.length_le_of_subset (l₂ := pts m) fun x hx => mem_pts.mpr ((rch x hx).inside g ⟨st0, st1⟩)
        rw [pts_len] at hp
        exact hp
      have hlen := flen fn.nd fn.rch
      by_cases hi : i < F.length
      · refine yep_ (decide_eq_true (by omega)) ?_
        have ex : F[i]? = some F[i] := List.getElem?_eq_getElem hi
        generalize F[i] = x at ex
        have xF : x ∈ F := List.mem_of_getElem? ex
        have xo := rch_ne (fn.rch x xF) so
        have exA : ∀ G : List Int, atI (iL (F ++ G)) (i : Int) = some (.int x) := fun G => atI_nat (iL_get (by rw [List.getElem?_append_left hi]; exact ex))
        refine ⟨_, rfl, a, rfl, ⟨_, SqL.of (s1 _ _ ha)⟩, for_list (K := K) (a := a) (xs := ws)
          (fun n σ H2 => ∃ (G : List Int) (v5 : Option V), σ = [some (.ref a), some (.int st), some (.int o), some (.ref D), some (.int i), v5] ∧ Same H H2 ∧ H2 D = some (.lst (iL (F ++ G))) ∧ GrT (Rch ts (some o) st) F G (candG (ts.take n) o x))
          ⟨[], _, rfl, s1, by rw [List.append_nil]; exact d1, fn.turn⟩ (fun n σ H2 _ ⟨_, _, _, s2, _⟩ => SqL.of (s2 _ _ ha)) ?_ ?_⟩
        · rintro n y σ H2 hn ⟨G, v5, rfl, s2, d2, ft⟩
          obtain ⟨t, et, pt⟩ := paired_get (PairsAt.same s2 pw) hn
          obtain ⟨b, rfl, hb⟩ := pt
          have tm := List.mem_of_getElem? et
          have hbi : SqT K H2 b (iL [t.1, t.2]) := SqT.of hb
          have i1 := inV_ints [t.1, t.2] x
          have i2 := inV_ints [t.1, t.2] o
          have i3 := inV_ints (F ++ G) (oth t x)
          have skip : condG o x t = false → ∃ (G : List Int) (v5 : Option V), [some (V.ref a), some (.int st), some (.int o), some (.ref D), some (.int i), some (.ref b)] = [some (.ref a), some (.int st), some (.int o), some (.ref D), some (.int i), v5] ∧ Same H H2 ∧ H2 D = some (.lst (iL (F ++ G))) ∧ GrT (Rch ts (some o) st) F G (candG (ts.take (n + 1)) o x) := fun c =>
            ⟨G, _, rfl, s2, d2, by rw [candG_no et c]; exact ft⟩
          refine ⟨_, rfl, _, rfl, D, _, (i : Int), _, rfl, rfl, SqL.of d2, exA G, _, rfl, b, _, rfl, .inr hbi, rfl, flat_ints _, _, rfl, ?_⟩
          by_cases c1 : x ∈ [t.1, t.2]
          · refine yep_ (show inV (.int x) (iL [t.1, t.2]) = true by rw [i1, decide_eq_true c1]) ?_
            refine ⟨_, rfl, _, rfl, b, _, rfl, .inr hbi, rfl, flat_ints _, _, rfl, ?_⟩
            by_cases c2 : o ∈ [t.1, t.2]
            · refine no_ (show (!inV (.int o) (iL [t.1, t.2])) = false by rw [i2, decide_eq_true c2]; rfl) ?_
              refine iteF ?_
              refine skip ?_
              unfold condG
              rw [decide_eq_true c1, decide_eq_true c2]
              rfl
            · refine yep_ (show (!inV (.int o) (iL [t.1, t.2])) = true by rw [i2, decide_eq_false c2]; rfl) ?_
              have cy : condG o x t = true := by
                unfold condG
                rw [decide_eq_true c1, decide_eq_false c2]
                rfl
              obtain ⟨ad, no⟩ := cond_adj tm cy
              refine ⟨_, rfl, b, _, 0, _, rfl, rfl, hbi, rfl, _, rfl, b, _, 1, _, rfl, rfl, hbi, rfl, _, _, rfl, rfl, _, rfl, _, rfl, D, _, (i : Int), _, rfl, rfl, SqL.of d2, exA G, _, _, rfl, rfl, _, rfl, ?_⟩
              refine ⟨D, _, rfl, .inl (SqL.of d2), rfl, flat_ints _, _, rfl, ?_⟩
              have ye : (t.1 + t.2 - x) = oth t x := rfl
              by_cases c3 : oth t x ∈ F ++ G
              · refine no_ (show (!inV (.int (oth t x)) (iL (F ++ G))) = false by rw [i3, decide_eq_true c3]; rfl) ?_
                refine ⟨G, _, rfl, s2, d2, ?_⟩
                rw [candG_yes et cy]
                exact ft.skip c3
              · refine yep_ (show (!inV (.int (oth t x)) (iL (F ++ G))) = true by rw [i3, decide_eq_false c3]; rfl) ?_
                have okz : Rch ts (some o) st (oth t x) := .step (fn.rch x xF) ad fun z => no (Option.some.inj z)
                have ll := flen ft.nd ft.rch
                refine ⟨_, rfl, .inl ⟨rfl, _, SqL.of d2⟩, _, rfl, b, _, 0, _, rfl, rfl, hbi, rfl, _, rfl, b, _, 1, _, rfl, rfl, hbi, rfl, _, _, rfl, rfl, _, rfl, _, rfl, D, _, (i : Int), _, rfl, rfl, SqL.of d2, exA G, _, _, rfl, rfl, D, _, _, rfl, rfl, d2, by rw [List.length_map]; exact small (by omega), ?_⟩
                refine ⟨G ++ [oth t x], _, rfl, Same.write s2 hD, ?_, ?_⟩
                · rw [upd_same, ← List.append_assoc]
                  unfold iL
                  rw [List.map_append (l₁ := F ++ G)]
                  rfl
                · rw [candG_yes et cy]
                  exact ft.more c3 okz
          · refine no_ (show inV (.int x) (iL [t.1, t.2]) = false by rw [i1, decide_eq_false c1]) ?_
            refine iteF ?_
            refine skip ?_
            unfold condG
            rw [decide_eq_false c1, Bool.false_and]
        · rintro σ H2 ⟨G, v5, rfl, s2, d2, ft⟩
          have wl := pw.length
          rw [List.take_of_length_le (by omega)] at ft
          refine ⟨_, rfl, _, _, rfl, rfl, ⟨i + 1, F ++ G, _, rfl, s2, d2, fn.next ex ft fun y hy => cond_all xo hy.1 hy.2⟩, ?_⟩
          show ((m : Int) - ((i : Int) + 1)).toNat < ((m : Int) - (i : Int)).toNat
          omega
      · refine no_ (decide_eq_false (by omega)) ?_
        have ei : i = F.length := by
          have := fn.le
          omega
        subst ei
        refine ⟨_, rfl, k H1 D F s1 hD d1 fun q => ⟨fn.rch q, fun r => ?_⟩⟩
        induction r with
        | here => exact fn.has
        | step _ ad no ih => exact fn.closed ih ⟨ad, fun e => no (by rw [e])⟩
    · rintro σ H1 Q1 Q2 hq ⟨v, e1, u, e2, p, ys, e3, h1, i, j, e4, e5, c, e6, q⟩
      exact ⟨v, e1, u, e2, p, ys, e3, h1, i, j, e4, e5, c, e6, hq _ _ q⟩
end
end Fd
namespace Fd
open PySem PySem.Spec PyProof.Rows L2
/-- of two ties: p is an end of both, and without p one comes from the other end of the one to that of the other -/
def Val (m : Nat) (ts : List Tie) (p : Int) (k j : Nat) : Prop := hasP (tk m ts k) p ∧ hasP (tk m ts j) p ∧ Rch ts (some p) (oth (tk m ts k) p) (oth (tk m ts j) p)
structure LabI (m : Nat) (ts E : List Tie) (Pv : Int → Nat → Nat → Prop) : Prop where
  sound : ∀ e ∈ E, ∃ (p : Int) (k j : Nat), e = ((k : Int), (j : Int)) ∧ k < (toldT m ts).length ∧ j < (toldT m ts).length ∧ Val m ts p k j
  cov : ∀ (p : Int) (k j : Nat), k < (toldT m ts).length → j < (toldT m ts).length → Pv p k j → Val m ts p k j → ((k : Int), (j : Int)) ∈ E
theorem LabI.weak {m : Nat} {ts E : List Tie} {A B : Int → Nat → Nat → Prop} (h : LabI m ts E A) (ab : ∀ p k j, k < (toldT m ts).length → j < (toldT m ts).length → Val m ts p k j → B p k j → A p k j) : LabI m ts E B :=
  ⟨h.sound, fun p k j hk hj b v => h.cov p k j hk hj (ab p k j hk hj v b) v⟩
theorem LabI.no {m : Nat} {ts E : List Tie} {A : Int → Nat → Nat → Prop} (h : LabI m ts E A) {p : Int} {k j : Nat} (nv : ¬ Val m ts p k j) : LabI m ts E (fun p' k' j' => A p' k' j' ∨ (p' = p ∧ k' = k ∧ j' = j)) :=
  h.weak fun p' k' j' _ _ v z => z.elim id fun ⟨e1, e2, e3⟩ => by
    subst e1
    subst e2
    subst e3
    exact absurd v nv
theorem LabI.more {m : Nat} {ts E : List Tie} {A : Int → Nat → Nat → Prop} (h : LabI m ts E A) {p : Int} {k j : Nat} (hk : k < (toldT m ts).length) (hj : j < (toldT m ts).length) (v : Val m ts p k j) : LabI m ts (E ++ [((k : Int), (j : Int))]) (fun p' k' j' => A p' k' j' ∨ (p' = p ∧ k' = k ∧ j' = j)) := by
  refine ⟨fun e he => ?_, fun p' k' j' hk' hj' z v' => ?_⟩
  · rcases List.mem_append.mp he with he | he
    · exact h.sound e he
    · exact ⟨p, k, j, List.mem_singleton.mp he, hk, hj, v⟩
  · rcases z with z | ⟨_, rfl, rfl⟩
    · exact List.mem_append_left _ (h.cov p' k' j' hk' hj' z v')
    · exact List.mem_append_right _ (by simp)
theorem LabI.edges {m : Nat} {ts E : List Tie} (g : Good m ts) (h : LabI m ts E (fun p _ _ => 0 ≤ p ∧ p < m)) : Edges m ts E := by
  refine ⟨fun e he => ?_, fun k j hk hj => ?_⟩
  · obtain ⟨p, k, j, rfl, hk, hj, _⟩ := h.sound e he
    exact ⟨by show (0 : Int) ≤ k; omega, by show (k : Int) < _; omega, by show (0 : Int) ≤ j; omega, by show (j : Int) < _; omega⟩
  · rw [mem_nbT g (List.mem_of_getElem? (tk_at hk))]
    constructor
    · intro he
      obtain ⟨p, k', j', e, _, _, v⟩ := h.sound _ he
      have ek : k = k' := by have := congrArg Prod.fst e; simp at this; omega
      have ej : j = j' := by have := congrArg Prod.snd e; simp at this; omega
      subst ek
      subst ej
      exact ⟨List.mem_of_getElem? (tk_at hj), p, v.1, v.2.1, v.2.2⟩
    · rintro ⟨_, p, h1, h2, h3⟩
      refine h.cov p k j hk hj ?_ ⟨h1, h2, h3⟩
      obtain ⟨r1, r2, r3, _⟩ := told_rng g (List.mem_of_getElem? (tk_at hk))
      unfold hasP at h1
      omega
theorem hasP_iff {t : Tie} {p : Int} : hasP t p ↔ p ∈ [t.1, t.2] := by
  unfold hasP
  simp only [List.mem_cons, List.not_mem_nil, or_false]
  constructor
  · rintro (h | h)
    · exact .inl h.symm
    · exact .inr h.symm
  · rintro (h | h)
    · exact .inl h.symm
    · exact .inr h.symm
def ownL (m : Nat) (ts : List Tie) (p : Int) (i : Nat) : List Int := (pts i).filter fun k => decide (p ∈ [(tk m ts k).1, (tk m ts k).2])
theorem own_at {m : Nat} {ts : List Tie} {p : Int} {n i : Nat} {z : Int} (h : (ownL m ts p n)[i]? = some z) : ∃ k : Nat, z = k ∧ k < n ∧ hasP (tk m ts k) p := by
  have hm := List.mem_of_getElem? h
  unfold ownL at hm
  rw [List.mem_filter, decide_eq_true_iff, mem_pts] at hm
  obtain ⟨⟨z0, z1⟩, h2⟩ := hm
  obtain ⟨k, rfl⟩ : ∃ k : Nat, z = k := ⟨z.toNat, by omega⟩
  exact ⟨k, rfl, by omega, hasP_iff.mpr h2⟩
theorem own_mem {m : Nat} {ts : List Tie} {p : Int} {n k : Nat} (hk : k < n) (h : hasP (tk m ts k) p) : (k : Int) ∈ ownL m ts p n := by
  unfold ownL
  rw [List.mem_filter, decide_eq_true_iff, mem_pts]
  exact ⟨by omega, hasP_iff.mp h⟩
theorem ownL_len (m : Nat) (ts : List Tie) (p : Int) (n : Nat) : (ownL m ts p n).length ≤ n := by
  have := List.length_filter_le (fun k : Int => decide (p ∈ [(tk m ts k).1, (tk m ts k).2])) (pts n)
  rw [pts_len] at this
  exact this
theorem oth_rng {m : Nat} {ts : List Tie} (g : Good m ts) {t : Tie} (ht : t ∈ toldT m ts) {p : Int} (h : hasP t p) : 0 ≤ oth t p ∧ oth t p < m ∧ oth t p ≠ p := by
  obtain ⟨r1, r2, r3, _⟩ := told_rng g ht
  rcases oth_cases h with ⟨e1, e2⟩ | ⟨e1, e2⟩ <;> omega
def spLabels4 : Sp := fun vs H Q _ => ∃ (a : Addr) (m : Nat) (ws : List V) (ts : List Tie), vs = [.ref a, .int m] ∧ H a = some (.lst ws) ∧ PairsAt H ws ts ∧ Low m ts ∧ toldT m ts = ts ∧ m ≤ 16 ∧ ts.length ≤ 40 ∧
  ∀ (H' : Hp) (D : Addr) (E : List Tie), Same H H' → H D = none → H' D = some (.lst (iL ((pts ts.length).map (labF E)))) → Edges m ts E → Q (.ref D) H'
theorem rgV_pts (m : Nat) : rgV 0 (m : Int) = iL (pts m) := by
  simp [rgV, iL, pts]
theorem lab_at {m : Nat} {f : Int → Int} {p : Nat} (h : p < m) : ((pts m).map f)[p]? = some (f p) := by
  rw [List.getElem?_map, pts_at h]
  rfl
section
variable {P : Program} {w : World} {K : PySem.W.Frag} {mg : Str → Option Value} {base : Heap} {C : Addr}
abbrev nLabels : List Str := ["_law_ties_here", "_law_many_here", "_law_labels_here", "_law_point", "_law_k", "_law_own", "_law_reached", "_law_j", "_law_low", "_law_high", "_law_label"]
theorem scLabels : FnScope nLabels ["_law_ties_here", "_law_many_here"] (defScope sLawLabels) := ⟨rfl, rfl, rfl, by decide +kernel, rfl, by decide +kernel, by decide +kernel⟩
theorem c_labels (T : WTxt K mg C) (L : LTxt K mg) (FG : Fn K mg "_law_grown" sLawGrown ["_law_ties_here", "_law_start", "_law_out"]) (FL : Fn K mg "_law_labels" sLawLabels ["_law_ties_here", "_law_many_here"]) : C8.Cal P w K mg base 2 "_law_labels" spLabels4 [] := by
  refine cal_of FL scLabels (fun vs H Q E h => ?_) (fun f cdv A outer s H vs Q E hr h => ?_)
  · obtain ⟨a, m, ws, ts, rfl, _⟩ := h
    rfl
  · obtain ⟨a, m, ws, ts, rfl, ha, pw, lo, hts, m16, tl, k⟩ := h
    have g := lo.good
    refine ⟨_, pss_cons (ps_set (i := 2) scLabels.nd rfl (Or.inl rfl) (pe_listRg rfl (by rfl) T.list (prg_1 (by rfl) T.range (pe_callB call_len_seq (by rfl) T.len PySem.boot_len (pa_cons (pv 0) pa_nil)))))
      (pss_cons (ps_for PassesOwn.never rfl (pi_range1 (by rfl) T.range (pa_cons (pv 1) pa_nil)) (pg_name (i := 3) scLabels.nd rfl (Or.inr rfl))
        (pss_cons (ps_setLc (i := 5) (own := [("_law_k", 4)]) (g := gName 4) (tt := tTest (tOp (rIn K false) (tVar 3) (tOp (rIxL K) (tVar 0) (tVar 4)))) (te := tVar 4)
          (by rfl) scLabels.nd rfl rfl (sw_true rfl rfl rfl (by decide +kernel)) (pi_range1 (by rfl) T.range (pa_cons (pe_callB call_len_seq (by rfl) T.len PySem.boot_len (pa_cons (pv 0) pa_nil)) pa_nil))
          (blkOk_by (own := [("_law_k", 4)]) (N := nLabels) (sc := defScope sLawLabels) (by decide +kernel)) (fun _ _ _ _ _ => pg_name (i := 4) scLabels.nd rfl (Or.inl rfl))
          (fun _ _ _ _ _ => pts_one (pt_cmpR op_in_seq (pv 3) (pe_ix ix_list (pv 0) (pv 4) (fun _ _ => rfl)) (by rfl))) (fun _ _ _ _ _ => pv 4))
        (pss_one (ps_for PassesOwn.never rfl (pi_list (pv 5)) (pg_name (i := 4) scLabels.nd rfl (Or.inl rfl))
          (pss_cons (ps_set (i := 6) scLabels.nd rfl (Or.inl rfl) (C8.pe_c (c_grown T FG) hr (by decide) (by rfl) (pa_cons (pv 0) (pa_cons (pe_op op_sub (pe_op op_add (pe_ix ix_tup (pe_ix ix_list (pv 0) (pv 4) (fun _ _ => rfl)) pe_int (fun _ _ => rfl)) (pe_ix ix_tup (pe_ix ix_list (pv 0) (pv 4) (fun _ _ => rfl)) pe_int (fun _ _ => rfl))) (pv 3)) (pa_cons (pv 3) pa_nil)))))
          (pss_one (ps_for PassesOwn.never rfl (pi_list (pv 5)) (pg_name (i := 7) scLabels.nd rfl (Or.inl rfl))
            (pss_one (ps_if (pt_cmpR op_in_seq (pe_op op_sub (pe_op op_add (pe_ix ix_tup (pe_ix ix_list (pv 0) (pv 7) (fun _ _ => rfl)) pe_int (fun _ _ => rfl)) (pe_ix ix_tup (pe_ix ix_list (pv 0) (pv 7) (fun _ _ => rfl)) pe_int (fun _ _ => rfl))) (pv 3)) (pv 6) (by rfl))
              (pss_cons (ps_set (i := 8) scLabels.nd rfl (Or.inr rfl) (pe_callB (id := "min") (r := rMin2) (call_min2 rfl) (by rfl) L.min (by decide +kernel) (pa_cons (pe_ix ix_list (pv 2) (pv 4) (fun _ _ => rfl)) (pa_cons (pe_ix ix_list (pv 2) (pv 7) (fun _ _ => rfl)) pa_nil))))
              (pss_cons (ps_set (i := 9) scLabels.nd rfl (Or.inr rfl) (pe_callB (id := "max") (r := rMax2) (call_max2 rfl) (by rfl) L.max (by decide +kernel) (pa_cons (pe_ix ix_list (pv 2) (pv 4) (fun _ _ => rfl)) (pa_cons (pe_ix ix_list (pv 2) (pv 7) (fun _ _ => rfl)) pa_nil))))
              (pss_one (ps_setLc (i := 2) (own := [("_law_label", 10)]) (g := gName 10) (tt := tYes) (te := tIf (tTest (tOp rEq (tVar 10) (tVar 9))) (tVar 8) (tVar 10))
                (by rfl) scLabels.nd rfl rfl (sw_true rfl rfl rfl (by decide +kernel)) (pi_list (pv 2))
                (blkOk_by (own := [("_law_label", 10)]) (N := nLabels) (sc := defScope sLawLabels) (by decide +kernel)) (fun _ _ _ _ _ => pg_name (i := 10) scLabels.nd rfl (Or.inl rfl)) (fun _ _ _ _ _ => pts_nil)
                (fun _ _ _ _ _ => pe_ifExp (pt_cmpR op_eq (pv 10) (pv 9) (nomark _)) (pv 8) (pv 10)))))) pss_nil)))))))))
      (pss_one (ps_ret (pv 2)))), ?_⟩
    have wl := pw.length
    have tks : ∀ k : Nat, k < ts.length → ts[k]? = some (tk m ts k) := fun k h => by
      have := tk_at (m := m) (ts := ts) (k := k) (by rw [hts]; exact h)
      rw [hts] at this
      exact this
    have inT : ∀ k : Nat, k < ts.length → tk m ts k ∈ toldT m ts := fun k h => List.mem_of_getElem? (tk_at (by rw [hts]; exact h))
    have wat : ∀ k : Nat, k < ts.length → ∃ b, ws[k]? = some (.ref b) ∧ H b = some (.tup [.int (tk m ts k).1, .int (tk m ts k).2]) := fun k h => by
      obtain ⟨x, ex, ⟨b, rfl, hb⟩⟩ := paired_get' pw (tks k h)
      exact ⟨b, ex, hb⟩
    -- labels = list(range(len(ties)))
    refine ⟨_, rfl, a, ws, rfl, .inl (SqL.of ha), (ws.length : Int), rfl, by unfold RgOk; omega, fun D0 hD0 => ?_⟩
    have e0 : rgV 0 (ws.length : Int) = iL ((pts ts.length).map (labF [])) := by
      rw [wl, rgV_pts]
      congr 1
      simp [labF]
    rw [e0]
    refine ⟨_, rfl, (m : Int), rfl, by omega, by omega, for_range (lo := 0) (n := (m : Int).toNat) (fun i σ H1 => ∃ (Dl : Addr) (E : List Tie) (v3 v4 v5 v6 v7 v8 v9 : Option V), σ = [some (.ref a), some (.int m), some (.ref Dl), v3, v4, v5, v6, v7, v8, v9, none] ∧
        Same H H1 ∧ H Dl = none ∧ H1 Dl = some (.lst (iL ((pts ts.length).map (labF E)))) ∧ LabI m ts E (fun p _ _ => 0 ≤ p ∧ p < i))
      ⟨D0, [], none, none, none, none, none, none, none, rfl, Same.put hD0, hD0, upd_same, ⟨fun e he => (by cases he), fun p k j _ _ z _ => absurd z.2 (by have := z.1; omega)⟩⟩ ?_ ?_⟩
    · rintro i σ H1 hi ⟨Dl, E, v3, v4, v5, v6, v7, v8, v9, rfl, s1, hDl, dl, li⟩
      rw [Int.toNat_natCast] at hi
      rw [Int.zero_add]
      -- own = [k for k in range(len(ties)) if point in ties[k]]
      refine ⟨_, rfl, a, ws, rfl, .inl (SqL.of (s1 _ _ ha)), (ws.length : Int), rfl, by omega, by omega, fun Do hDo => ?_⟩
      refine lc_range (lo := 0) (n := (ws.length : Int).toNat) (fun j H2 => Same H1 H2 ∧ H2 Do = some (.lst (iL (ownL m ts i j)))) ⟨Same.put hDo, upd_same⟩ (fun j H2 hj ⟨s2, d2⟩ => ?_) (fun H2 ⟨s2, d2⟩ => ?_)
      · rw [Int.toNat_natCast] at hj
        rw [Int.zero_add]
        refine ⟨rfl, ?_⟩
        obtain ⟨b, eb, hb⟩ := wat j (by omega)
        have hb2 : SqT K H2 b (iL [(tk m ts j).1, (tk m ts j).2]) := SqT.of ((s1.trans s2) _ _ hb)
        refine ⟨_, rfl, _, rfl, _, rfl, a, ws, (j : Int), .ref b, rfl, rfl, SqL.of ((s1.trans s2) _ _ ha), atI_nat eb, b, _, rfl, .inr hb2, rfl, flat_ints _, _, rfl, ?_⟩
        have e1 := inV_ints [(tk m ts j).1, (tk m ts j).2] (i : Int)
        have st : ownL m ts i (j + 1) = ownL m ts i j ++ (if (i : Int) ∈ [(tk m ts j).1, (tk m ts j).2] then [(j : Int)] else []) := by
          unfold ownL
          rw [pts_succ, List.filter_append]
          by_cases c : (i : Int) ∈ [(tk m ts j).1, (tk m ts j).2]
          · rw [if_pos c, List.filter_cons, if_pos (decide_eq_true c)]
            rfl
          · rw [if_neg c, List.filter_cons, if_neg (fun z => c (of_decide_eq_true z))]
            rfl
        by_cases c : (i : Int) ∈ [(tk m ts j).1, (tk m ts j).2]
        · refine yep_ (show inV (.int i) (iL [(tk m ts j).1, (tk m ts j).2]) = true by rw [e1, decide_eq_true c]) ?_
          rw [if_pos c] at st
          refine ⟨_, rfl, _, d2, ?_, Same.write s2 hDo, ?_⟩
          · have := ownL_len m ts i j
            rw [List.length_map]
            exact small (by omega)
          · rw [upd_same, st]
            unfold iL
            rw [List.map_append]
            rfl
        · refine no_ (show inV (.int i) (iL [(tk m ts j).1, (tk m ts j).2]) = false by rw [e1, decide_eq_false c]) ?_
          rw [if_neg c, List.append_nil] at st
          exact ⟨s2, by rw [st]; exact d2⟩
      · rw [Int.toNat_natCast, wl] at d2
        have s02 := s1.trans s2
        -- for k in own
        refine ⟨_, rfl, Do, rfl, ⟨_, SqL.of d2⟩, for_list (K := K) (a := Do) (xs := iL (ownL m ts i ts.length)) (fun q σ H3 => ∃ (Dl : Addr) (E : List Tie) (v4 v6 v7 v8 v9 : Option V), σ = [some (.ref a), some (.int m), some (.ref Dl), some (.int i), v4, some (.ref Do), v6, v7, v8, v9, none] ∧
            Same H2 H3 ∧ H Dl = none ∧ H3 Dl = some (.lst (iL ((pts ts.length).map (labF E)))) ∧ LabI m ts E (fun p k _ => (0 ≤ p ∧ p < i) ∨ (p = i ∧ (k : Int) ∈ (ownL m ts i ts.length).take q)))
          ⟨Dl, E, _, _, _, _, _, rfl, Same.refl _, hDl, s2 _ _ dl, li.weak fun p k j _ _ _ z => z.elim id fun z => (by simp at z)⟩ (fun q σ H3 _ ⟨_, _, _, _, _, _, _, _, s3, _⟩ => SqL.of (s3 _ _ d2)) ?_ ?_⟩
        · rintro q x σ H3 hq ⟨Dl, E, v4, v6, v7, v8, v9, rfl, s3, hDl, dl, li⟩
          obtain ⟨z, ez, rfl⟩ := iL_at hq
          obtain ⟨kn, rfl, hk, hpk⟩ := own_at ez
          obtain ⟨b, eb, hb⟩ := wat kn hk
          have s03 := s02.trans s3
          have hb3 : SqT K H3 b [.int (tk m ts kn).1, .int (tk m ts kn).2] := SqT.of (s03 _ _ hb)
          obtain ⟨o0, o1, o2⟩ := oth_rng g (inT kn hk) hpk
          -- reached = grown(ties, .., point)
          refine ⟨_, rfl, _, rfl, _, rfl, a, ws, (kn : Int), .ref b, rfl, rfl, SqL.of (s03 _ _ ha), atI_nat eb, b, _, 0, _, rfl, rfl, hb3, rfl, _, rfl, _, rfl, a, ws, (kn : Int), .ref b, rfl, rfl, SqL.of (s03 _ _ ha), atI_nat eb, b, _, 1, _, rfl, rfl, hb3, rfl, _, _, rfl, rfl, _, rfl, _, _, rfl, rfl, _, rfl,
            a, m, ws, ts, oth (tk m ts kn) i, (i : Int), rfl, s03 _ _ ha, pw.same s03, g, m16, o0, o1, o2, fun H4 Dr F s34 hDr dr memF => ?_⟩
          have s04 := s03.trans s34
          -- for j in own
          refine ⟨_, rfl, Do, rfl, ⟨_, SqL.of ((s3.trans s34) _ _ d2)⟩, for_list (K := K) (a := Do) (xs := iL (ownL m ts i ts.length)) (fun r σ H5 => ∃ (Dl : Addr) (E : List Tie) (v7 v8 v9 : Option V), σ = [some (.ref a), some (.int m), some (.ref Dl), some (.int i), some (.int kn), some (.ref Do), some (.ref Dr), v7, v8, v9, none] ∧
              Same H4 H5 ∧ H Dl = none ∧ H5 Dl = some (.lst (iL ((pts ts.length).map (labF E)))) ∧ LabI m ts E (fun p k j => ((0 ≤ p ∧ p < i) ∨ (p = i ∧ (k : Int) ∈ (ownL m ts i ts.length).take q)) ∨ (p = i ∧ k = kn ∧ (j : Int) ∈ (ownL m ts i ts.length).take r)))
            ⟨Dl, E, _, _, _, rfl, Same.refl _, hDl, s34 _ _ dl, li.weak fun p k j _ _ _ z => z.elim id fun z => (by simp at z)⟩ (fun r σ H5 _ ⟨_, _, _, _, _, _, s5, _⟩ => SqL.of (s5 _ _ ((s3.trans s34) _ _ d2))) ?_ ?_⟩
          · rintro r x σ H5 hr5 ⟨Dl, E, v7, v8, v9, rfl, s5, hDl, dl, li⟩
            obtain ⟨z, ez5, rfl⟩ := iL_at hr5
            obtain ⟨jn, rfl, hj, hpj⟩ := own_at ez5
            obtain ⟨b5, eb5, hb5⟩ := wat jn hj
            have s05 := s04.trans s5
            have hb6 : SqT K H5 b5 [.int (tk m ts jn).1, .int (tk m ts jn).2] := SqT.of (s05 _ _ hb5)
            have iV := inV_ints F (oth (tk m ts jn) i)
            have nxt : ∀ {E' : List Tie}, LabI m ts E' (fun p k j => (((0 ≤ p ∧ p < i) ∨ (p = i ∧ (k : Int) ∈ (ownL m ts i ts.length).take q)) ∨ (p = i ∧ k = kn ∧ (j : Int) ∈ (ownL m ts i ts.length).take r)) ∨ (p = i ∧ k = kn ∧ j = jn)) →
                LabI m ts E' (fun p k j => ((0 ≤ p ∧ p < i) ∨ (p = i ∧ (k : Int) ∈ (ownL m ts i ts.length).take q)) ∨ (p = i ∧ k = kn ∧ (j : Int) ∈ (ownL m ts i ts.length).take (r + 1))) := fun h => h.weak fun p k j _ _ _ z => by
              rw [take_next ez5] at z
              rcases z with z | ⟨z1, z2, z3⟩
              · exact .inl (.inl z)
              · rcases List.mem_append.mp z3 with z3 | z3
                · exact .inl (.inr ⟨z1, z2, z3⟩)
                · have := List.mem_singleton.mp z3
                  exact .inr ⟨z1, z2, by omega⟩
            refine ⟨_, rfl, _, rfl, a, ws, (jn : Int), .ref b5, rfl, rfl, SqL.of (s05 _ _ ha), atI_nat eb5, b5, _, 0, _, rfl, rfl, hb6, rfl, _, rfl, _, rfl, a, ws, (jn : Int), .ref b5, rfl, rfl, SqL.of (s05 _ _ ha), atI_nat eb5, b5, _, 1, _, rfl, rfl, hb6, rfl, _, _, rfl, rfl, _, rfl, _, _, rfl, rfl, _, rfl,
              Dr, iL F, rfl, .inl (SqL.of (s5 _ _ dr)), rfl, flat_ints _, _, rfl, ?_⟩
            by_cases c : oth (tk m ts jn) i ∈ F
            · refine yep_ (show inV (.int (oth (tk m ts jn) i)) (iL F) = true by rw [iV, decide_eq_true c]) ?_
              have v : Val m ts i kn jn := ⟨hpk, hpj, (memF _).mp c⟩
              have li2 := nxt (li.more (by rw [hts]; exact hk) (by rw [hts]; exact hj) v)
              generalize hf : labF E = f at dl
              have ep := iL_get (lab_at (f := f) hk)
              have eq := iL_get (lab_at (f := f) hj)
              refine ⟨_, rfl, _, rfl, Dl, _, (kn : Int), _, rfl, rfl, SqL.of dl, atI_nat ep, _, rfl, _, rfl, Dl, _, (jn : Int), _, rfl, rfl, SqL.of dl, atI_nat eq, _, _, rfl, ?_⟩
              refine ⟨_, rfl, _, rfl, Dl, _, (kn : Int), _, rfl, rfl, SqL.of dl, atI_nat ep, _, rfl, _, rfl, Dl, _, (jn : Int), _, rfl, rfl, SqL.of dl, atI_nat eq, _, _, rfl, ?_⟩
              rw [min_eq, max_eq]
              refine ⟨_, rfl, Dl, rfl, ⟨_, SqL.of dl⟩, fun E0 hE => ?_⟩
              refine lc_list (K := K) (a := Dl) (xs := iL ((pts ts.length).map f)) (fun j H6 => Same H5 H6 ∧ H6 E0 = some (.lst (iL ((pts j).map (labStep f ((kn : Int), (jn : Int))))))) ⟨Same.put hE, upd_same⟩ (fun j H6 _ ⟨s6, _⟩ => SqL.of (s6 _ _ dl)) (fun j x H6 hj6 ⟨s6, e6⟩ => ?_) (fun H6 ⟨s6, e6⟩ => ?_)
              · have hjm : j < ts.length := by
                  have := (List.getElem?_eq_some_iff.mp hj6).1
                  rw [List.length_map, List.length_map, pts_len] at this
                  exact this
                obtain rfl : x = .int (f j) := Option.some.inj (hj6.symm.trans (iL_get (lab_at (f := f) hjm)))
                have fin : ∀ z : Int, z = labStep f ((kn : Int), (jn : Int)) j → ∃ acc, H6 E0 = some (.lst acc) ∧ acc.length < sizeLine ∧ Same H5 (upd H6 E0 (.lst (acc ++ [.int z]))) ∧
                    (upd H6 E0 (.lst (acc ++ [.int z]))) E0 = some (.lst (iL ((pts (j + 1)).map (labStep f ((kn : Int), (jn : Int)))))) := fun z hz => by
                  refine ⟨_, e6, ?_, Same.write s6 hE, ?_⟩
                  · rw [List.length_map, List.length_map, pts_len]
                    exact small (by omega)
                  · rw [upd_same, pts_succ, List.map_append, hz]
                    unfold iL
                    rw [List.map_append]
                    rfl
                refine ⟨rfl, ?_⟩
                refine yes_ ?_
                refine iteT ?_
                refine ⟨_, rfl, _, rfl, rfl, _, rfl, ?_⟩
                by_cases c1 : f j = max (f kn) (f jn)
                · refine yep_ (decide_eq_true (by rw [c1])) ?_
                  refine ⟨_, rfl, fin _ ?_⟩
                  unfold labStep
                  rw [if_pos c1]
                · refine no_ (decide_eq_false fun z => c1 (V.int.inj z)) ?_
                  refine ⟨_, rfl, fin _ ?_⟩
                  unfold labStep
                  rw [if_neg c1]
              · rw [List.length_map, List.length_map, pts_len] at e6
                refine ⟨E0, E ++ [((kn : Int), (jn : Int))], _, _, _, rfl, s5.trans s6, s05.free hE, ?_, li2⟩
                rw [labF_snoc, hf]
                exact e6
            · refine no_ (show inV (.int (oth (tk m ts jn) i)) (iL F) = false by rw [iV, decide_eq_false c]) ?_
              have nv : ¬ Val m ts i kn jn := fun v => c ((memF _).mpr v.2.2)
              exact ⟨Dl, E, _, _, _, rfl, s5, hDl, dl, nxt (li.no nv)⟩
          · rintro σ H5 ⟨Dl, E, v7, v8, v9, rfl, s5, hDl, dl, li⟩
            rw [List.length_map, List.take_length] at li
            refine ⟨Dl, E, _, _, _, _, _, rfl, s3.trans (s34.trans s5), hDl, dl, li.weak fun p k j _ hj' v z => ?_⟩
            rw [take_next ez] at z
            rcases z with z | ⟨z1, z2⟩
            · exact .inl (.inl z)
            · rcases List.mem_append.mp z2 with z2 | z2
              · exact .inl (.inr ⟨z1, z2⟩)
              · have ek := List.mem_singleton.mp z2
                refine .inr ⟨z1, by omega, ?_⟩
                subst z1
                exact own_mem (by rw [hts] at hj'; exact hj') v.2.1
        · rintro σ H3 ⟨Dl, E, v4, v6, v7, v8, v9, rfl, s3, hDl, dl, li⟩
          rw [List.length_map, List.take_length] at li
          refine ⟨Dl, E, _, _, _, _, _, _, _, rfl, s02.trans s3, hDl, dl, li.weak fun p k j hk' _ v z => ?_⟩
          by_cases e : p = i
          · subst e
            exact .inr ⟨rfl, own_mem (by rw [hts] at hk'; exact hk') v.1⟩
          · have := z.1
            have := z.2
            exact .inl ⟨by omega, by omega⟩
    · rintro σ H1 ⟨Dl, E, v3, v4, v5, v6, v7, v8, v9, rfl, s1, hDl, dl, li⟩
      rw [Int.toNat_natCast] at li
      exact ⟨_, rfl, k H1 Dl E s1 hDl dl (li.edges g)⟩
end
end Fd
namespace Fd
open PySem PySem.Spec PyProof.Rows L2
def rLen (K : PySem.W.Frag) : List V → Hp → VK → Prop := fun xs H Q => ∃ p ys, xs = [.ref p] ∧ (SqL K H p ys ∨ SqT K H p ys) ∧ Q (.int ys.length) H
/-! ### lists of lists of ties as data -/
def rowB (bs : List Tie) : PyData := .list (bs.map prd)
def lstB (bss : List (List Tie)) : PyData := .list (bss.map rowB)
theorem rowsB_lay : ∀ bss : List (List Tie), PyData.canLayAll0 (bss.map rowB) = true
  | [] => by simp [PyData.canLayAll0]
  | r :: bss => by
    have h : (rowB r).canLay0 = true := by simp only [rowB, PyData.canLay0]; exact prds_lay r
    simp [PyData.canLayAll0, h, rowsB_lay bss]
theorem rowsB_depth : ∀ bss : List (List Tie), PyData.depthAll (bss.map rowB) ≤ 2
  | [] => by simp [PyData.depthAll]
  | r :: bss => by
    have h1 := rowsB_depth bss
    have h2 := prds_depth r
    have h3 : (rowB r).depth ≤ 2 := by
      simp only [rowB, PyData.depth]
      omega
    simp only [List.map_cons, PyData.depthAll]
    omega
theorem lstB_shaped (bss : List (List Tie)) : SeqAt.shaped (lstB bss) = true := by
  have h := rowsB_depth bss
  refine shaped_by (by simp only [lstB, PyData.canLay0]; exact rowsB_lay bss) ?_
  simp only [lstB, PyData.depth]
  omega
theorem lstB_refl (bss : List (List Tie)) : PyData.eqv (lstB bss) (lstB bss) = true := SeqAt.eqv_refl _ (SeqAt.canLay_of_shaped (lstB_shaped bss))
def RowB (H : Hp) (a : Addr) (bs : List Tie) : Prop := ∃ ws, H a = some (.lst ws) ∧ PairsAt H ws bs
theorem RowB.same {H H' : Hp} (s : Same H H') {a : Addr} {bs : List Tie} (h : RowB H a bs) : RowB H' a bs := by
  obtain ⟨ws, d, p⟩ := h
  exact ⟨ws, s _ _ d, PairsAt.same s p⟩
def BLists (H : Hp) (D : Addr) (bss : List (List Tie)) : Prop := ∃ as : List Addr, H D = some (.lst (as.map V.ref)) ∧ Paired (RowB H) as bss
theorem BLists.same {H H' : Hp} (s : Same H H') {D : Addr} {bss : List (List Tie)} (h : BLists H D bss) : BLists H' D bss := by
  obtain ⟨as, d, p⟩ := h
  exact ⟨as, s _ _ d, Paired.mono (fun _ _ => RowB.same s) p⟩
theorem FoundAt.lists {H0 H : Hp} {D : Addr} {as : List Addr} {bss : List (List Tie)} (f : FoundAt H0 H D as bss) : BLists H D bss := ⟨as, f.top, Paired.mono (fun _ _ h => h.2) f.row⟩
theorem dp_rowB {K : PySem.W.Frag} {H : Hp} {a : Addr} {bs : List Tie} (h : RowB H a bs) : Dp K H (.ref a) (rowB bs) := by
  obtain ⟨ws, d, p⟩ := h
  exact dp_pairs (SqL.of d) p
theorem dp_rowsB {K : PySem.W.Frag} {H : Hp} : ∀ {as : List Addr} {bss : List (List Tie)}, Paired (RowB H) as bss → DpAll K H (as.map V.ref) (bss.map rowB)
  | _, _, .nil => .nil
  | _, _, .cons r t => .cons (dp_rowB r) (dp_rowsB t)
theorem dp_listsB {K : PySem.W.Frag} {H : Hp} {D : Addr} {bss : List (List Tie)} (h : BLists H D bss) : Dp K H (.ref D) (lstB bss) := by
  obtain ⟨as, d, p⟩ := h
  exact .lst (SqL.of d) (dp_rowsB p)
theorem rowB_empty (bs : List Tie) : PyData.eqv (rowB bs) (.list []) = decide (bs = []) := by
  cases bs with
  | nil => rfl
  | cons x r =>
    simp only [rowB, List.map_cons, PyData.eqv, PyData.eqvAll]
    rfl
theorem lstB_empty (bss : List (List Tie)) : PyData.eqv (lstB bss) (.list []) = decide (bss = []) := by
  cases bss with
  | nil => rfl
  | cons x r =>
    simp only [lstB, List.map_cons, PyData.eqv, PyData.eqvAll]
    rfl
theorem blocksL_len {m : Nat} {ts : List Tie} (g : Good m ts) : (blocksL m ts).length ≤ ts.length := by
  unfold blocksL
  rw [List.length_map]
  have := List.length_filter_le (headT m ts) (toldT m ts)
  rw [toldT_len g] at this
  exact this
def stLc (s : Stmt) : Scope := match s with
  | .Assign _ (.ListComp _ _ sc _) _ => sc
  | _ => { kind := .function, names := [], isGenerator := false, isCoroutine := false }
def spLaw (K : PySem.W.Frag) : Sp := fun vs H Q _ => ∃ (a : Addr) (ns : List Int), vs = [.ref a] ∧ SqL K H a (ns.map V.int) ∧ ∀ H', Q (.bl true) H'
structure L4Txt (K : PySem.W.Frag) (mg : Str → Option Value) : Prop where
  fRings : Fn K mg "_law_rings" sLawRings ["_law_cell", "_law_many_here"]
  fTies : Fn K mg "_law_ties" sLawTies ["_law_script", "_law_many_here"]
  fGrown : Fn K mg "_law_grown" sLawGrown ["_law_ties_here", "_law_start", "_law_out"]
  fLabels : Fn K mg "_law_labels" sLawLabels ["_law_ties_here", "_law_many_here"]
section
variable {P : Program} {w : World} {K : PySem.W.Frag} {mg : Str → Option Value} {base : Heap} {C : Addr}
abbrev nLaw : List Str := ["_law_script", "_law_many_here", "_law_ties_here", "_law_labels_here", "_law_due", "_law_row", "_law_web", "_law_seen", "_law_tie", "_law_k", "_law_label"]
theorem scLaw : FnScope nLaw ["_law_script"] (defScope sLaw) := ⟨rfl, rfl, rfl, by decide +kernel, rfl, by decide +kernel, by decide +kernel⟩
theorem ok_law {f : Addr} {fd : FuncData} (F : L2.Fun K "law" "law" sLaw f fd) (T : WTxt K mg C) (L : LTxt K mg) (B : BTxt K mg C) (W4 : Web4 K C) (N4 : L4Txt K mg) : FnOk P w K mg base L2.CX0 7 f fd ["_law_script"] (spLaw K) := by
  refine F.ok scLaw (fun vs H Q E h => ?_) (fun cdv A outer s H vs Q E hr h => ?_)
  · obtain ⟨a, ns, rfl, _⟩ := h
    rfl
  · obtain ⟨a, ns, rfl, hS, k⟩ := h
    have hun : (A.deeper (envOfC "law" (defScope sLaw) s.heap.objs.size f cdv)).units + 64 < cLine := by
      have := hr.un
      omega
    refine ⟨_, pss_cons (ps_set (i := 1) scLaw.nd rfl (Or.inl rfl) (C8.pe_c (c_many T L) hr (by decide) (by rfl) (pa_cons (pv 0) pa_nil)))
      (pss_cons (ps_set (i := 2) scLaw.nd rfl (Or.inr rfl) (C8.pe_c (c_lties T L N4.fRings N4.fTies) hr (by decide) (by rfl) (pa_cons (pv 0) (pa_cons (pv 1) pa_nil))))
      (pss_cons (ps_set (i := 3) scLaw.nd rfl (Or.inr rfl) (C8.pe_c (c_labels T L N4.fGrown N4.fLabels) hr (by decide) (by rfl) (pa_cons (pv 2) (pa_cons (pv 1) pa_nil))))
      (pss_cons (ps_setLc (i := 4) (own := [("_law_label", 10)]) (g := gName 10) (tt := tYes) (te := tLc (iRng1 (tCons (tCB (rLen K) (tCons (tVar 2) tNil)) tNil)) (gName 9) (tTest (tOp rEq (tOp (rIxL K) (tVar 3) (tVar 9)) (tVar 10))) (tOp (rIxL K) (tVar 2) (tVar 9)) [9])
          (by rfl) scLaw.nd rfl rfl (sw_true rfl rfl rfl (by decide +kernel)) (pi_range1 (by rfl) T.range (pa_cons (pe_callB (id := "len") (r := rLen K) call_len_seq (by rfl) T.len PySem.boot_len (pa_cons (pv 2) pa_nil)) pa_nil))
          (blkOk_by (own := [("_law_label", 10)]) (N := nLaw) (sc := defScope sLaw) (by decide +kernel)) (fun _ _ _ _ _ => pg_name (i := 10) scLaw.nd rfl (Or.inr rfl)) (fun _ _ _ _ _ => pts_nil)
          (fun _ _ _ _ _ => pe_lc (own := [("_law_k", 9)]) (g := gName 9) (tt := tTest (tOp rEq (tOp (rIxL K) (tVar 3) (tVar 9)) (tVar 10))) (te := tOp (rIxL K) (tVar 2) (tVar 9)) (by rfl) scLaw.nd
            (pi_range1 (by rfl) T.range (pa_cons (pe_callB (id := "len") (r := rLen K) call_len_seq (by rfl) T.len PySem.boot_len (pa_cons (pv 2) pa_nil)) pa_nil))
            (blkOk_by (own := [("_law_k", 9)]) (N := nLaw) (sc := relS (stLc ((defBody sLaw).getD 3 (.Pass ⟨0, 0, 0, 0⟩))) (defScope sLaw)) (by decide +kernel)) (fun _ _ _ _ _ => pg_name (i := 9) scLaw.nd rfl (Or.inl rfl))
            (fun _ _ _ _ _ => pts_one (pt_cmpR op_eq (pe_ix ix_list (pv 3) (pv 9) (fun _ _ => rfl)) (pv 10) (nomark _))) (fun _ _ _ _ _ => pe_ix ix_list (pv 2) (pv 9) (fun _ _ => rfl))))
      (pss_cons (ps_setLc (i := 4) (own := [("_law_row", 5)]) (g := gName 5) (tt := tTest (tOp (rNeD K) (tVar 5) (tLst tNil))) (te := tVar 5)
          (by rfl) scLaw.nd rfl rfl (sw_true rfl rfl rfl (by decide +kernel)) (pi_list (pv 4))
          (blkOk_by (own := [("_law_row", 5)]) (N := nLaw) (sc := defScope sLaw) (by decide +kernel)) (fun _ _ _ _ _ => pg_name (i := 5) scLaw.nd rfl (Or.inl rfl))
          (fun _ _ _ _ _ => pts_one (pt_cmpR (op_neD hun) (pv 5) (pe_lst pa_nil) (nomark _))) (fun _ _ _ _ _ => pv 5))
      (pss_cons (ps_set (i := 6) scLaw.nd rfl (Or.inl rfl) (C8.pe_mk (c_init T) hr (by decide) (by rfl) (pa_cons (pv 1) (pa_cons (pe_callTy call_list_of (by rfl) T.list (by decide +kernel) (pa_cons (pv 2) pa_nil)) pa_nil))))
      (pss_cons (ps_set (i := 7) scLaw.nd rfl (Or.inl rfl) (C8.pe_c (c_blocks T B W4) hr (by decide) (by rfl) (pa_cons (pv 6) pa_nil)))
      (pss_cons (ps_if (PW.pt (pw_or (pt_not (pt_val (pe_callB call_isi (by rfl) L.isi (by decide +kernel) (pa_cons (pv 7) (pa_cons (pe_bltn (v := .ty "list") (by rfl) T.list (by decide +kernel) rfl) pa_nil)))))
          (pw_or1 (pt_cmpR (op_neD hun) (pv 7) (pv 4) (nomark _))))) (pss_one (ps_ret pe_bl)) pss_nil)
      (pss_cons (ps_for PassesOwn.never rfl (pi_list (pv 7)) (pg_name (i := 5) scLaw.nd rfl (Or.inl rfl))
        (pss_cons (ps_if (pt_not (pt_val (pe_callB call_isi (by rfl) L.isi (by decide +kernel) (pa_cons (pv 5) (pa_cons (pe_bltn (v := .ty "list") (by rfl) T.list (by decide +kernel) rfl) pa_nil))))) (pss_one (ps_ret pe_bl)) pss_nil)
        (pss_one (ps_for PassesOwn.never rfl (pi_list (pv 5)) (pg_name (i := 8) scLaw.nd rfl (Or.inl rfl))
          (pss_one (ps_if (PW.pt (pw_or (pt_not (pt_val (pe_callB call_isi (by rfl) L.isi (by decide +kernel) (pa_cons (pv 8) (pa_cons (pe_bltn (v := .ty "tuple") (by rfl) T.tuple (by decide +kernel) rfl) pa_nil)))))
            (pw_or (pt_not (pt_val (C8.pe_c (c_whole T L) hr (by decide) (by rfl) (pa_cons (pe_ix ix_tup (pv 8) pe_int (fun _ _ => rfl)) pa_nil))))
              (pw_or1 (pt_not (pt_val (C8.pe_c (c_whole T L) hr (by decide) (by rfl) (pa_cons (pe_ix ix_tup (pv 8) pe_int (fun _ _ => rfl)) pa_nil)))))))) (pss_one (ps_ret pe_bl)) pss_nil))))))
      (pss_cons (ps_if (pt_cmpR (op_neD hun) (pv 7) (pe_lst pa_nil) (nomark _)) (pss_one (ps_expr (pe_bm0 PySem.F.plainAttrs_list PySem.F.slot_list_clear PySem.F.type_list_clear mt_clear (pe_ix ix_list (pv 7) pe_int (fun _ _ => rfl))))) pss_nil)
      (pss_one (ps_ret (pe_and (pe_cmpR (op_eqD hun) (C8.pe_c (c_blocks T B W4) hr (by decide) (by rfl) (pa_cons (pv 6) pa_nil)) (pv 4) (nomark _))
        (pe_one (pe_cmpR (op_eqD hun) (C8.pe_mt0 (c_ties T W4.fT) hr (by decide) (pv 6)) (pv 2) (nomark _))))))))))))))), ?_⟩
    refine ⟨_, rfl, a, ns, rfl, hS, fun m m1 m16 => ?_⟩
    refine ⟨_, rfl, _, rfl, a, ns, m, rfl, hS, m1, m16, fun H1 D ws ts s1 hD d1 p1 lo hts tl => ?_⟩
    have g := lo.good
    refine ⟨_, rfl, _, rfl, D, m, ws, ts, rfl, d1, p1, lo, hts, m16, tl, fun H2 Lb Ed s2 hLb l2 ed => ?_⟩
    have wl := p1.length
    -- due
    refine ⟨_, rfl, D, ws, rfl, .inl (SqL.of (s2 _ _ d1)), (ws.length : Int), rfl, by omega, by omega, fun D0 hD0 => ?_⟩
    refine lc_range (lo := 0) (n := (ws.length : Int).toNat) (fun i H3 => Same H2 H3 ∧ ∃ as, FoundAt H2 H3 D0 as ((pts i).map (rowT m ts Ed))) ⟨Same.put hD0, [], ⟨upd_same, hD0, by simp, .nil⟩⟩ (fun i H3 hi ⟨s3, as, f3⟩ => ?_) (fun H3 ⟨s3, as, f3⟩ => ?_)
    · rw [Int.toNat_natCast] at hi
      rw [Int.zero_add]
      refine ⟨rfl, ?_⟩
      refine yes_ ?_
      refine iteT ?_
      refine ⟨_, rfl, D, ws, rfl, .inl (SqL.of ((s2.trans s3) _ _ d1)), (ws.length : Int), rfl, by omega, by omega, fun q hq => ?_⟩
      refine lc_range (lo := 0) (n := (ws.length : Int).toNat) (fun j H4 => Same H3 H4 ∧ ∃ vs, H4 q = some (.lst vs) ∧ PairsAt H4 vs (((pts j).filter fun k => decide (labF Ed k = (i : Int))).map (tk m ts))) ⟨Same.put hq, [], upd_same, .nil⟩ (fun j H4 hj ⟨s4, vs, d4, p4⟩ => ?_) (fun H4 ⟨s4, vs, d4, p4⟩ => ?_)
      · rw [Int.toNat_natCast] at hj
        rw [Int.zero_add]
        refine ⟨rfl, ?_⟩
        have s24 := s3.trans s4
        refine ⟨_, rfl, _, rfl, Lb, iL ((pts ts.length).map (labF Ed)), (j : Int), .int (labF Ed j), rfl, rfl, SqL.of (s24 _ _ l2), atI_nat (iL_get (lab_at (by omega))), _, rfl, rfl, _, rfl, ?_⟩
        have tj : ts[j]? = some (tk m ts j) := by
          have := tk_at (m := m) (ts := ts) (k := j) (by rw [hts]; omega)
          rw [hts] at this
          exact this
        have l4 := p4.length
        rw [List.length_map] at l4
        have lf := List.length_filter_le (fun k => decide (labF Ed k = (i : Int))) (pts j)
        rw [pts_len] at lf
        refine ite2 (fun c => ?_) (fun c => ?_)
        · have c' : labF Ed j = i := V.int.inj (of_decide_eq_true c)
          obtain ⟨y, ey, ⟨b, rfl, hb⟩⟩ := paired_get' (p1.same (s2.trans s24)) tj
          refine ⟨_, rfl, _, rfl, D, ws, (j : Int), .ref b, rfl, rfl, SqL.of ((s2.trans s24) _ _ d1), atI_nat ey, vs, d4, small (by omega), Same.write s4 hq, vs ++ [.ref b], upd_same, ?_⟩
          have e1 : (([(j : Int)] : List Int).filter fun k => decide (labF Ed k = (i : Int))) = [(j : Int)] := by simp [c']
          rw [pts_succ, List.filter_append, e1, List.map_append]
          exact Paired.snoc (PairsAt.over d4 p4) ⟨b, rfl, by rw [upd_ne (ne_of hb d4 (by intro z; cases z))]; exact hb⟩
        · have c' : ¬ labF Ed j = i := fun z => c (decide_eq_true (by rw [z]))
          have e1 : (([(j : Int)] : List Int).filter fun k => decide (labF Ed k = (i : Int))) = [] := by simp [c']
          rw [pts_succ, List.filter_append, e1, List.append_nil]
          exact ⟨s4, vs, d4, p4⟩
      · rw [Int.toNat_natCast, wl] at p4
        have er : rowT m ts Ed i = (((pts ts.length).filter fun k => decide (labF Ed k = (i : Int))).map (tk m ts)) := by
          unfold rowT
          rw [hts]
        rw [← er] at p4
        have f4 := f3.same s4
        have ne : q ≠ D0 := fun e => by
          rw [e, f3.top] at hq
          cases hq
        have al := f3.row.length
        rw [List.length_map, pts_len] at al
        refine ⟨as.map V.ref, f4.top, by rw [List.length_map]; exact small (by omega), Same.write (s3.trans s4) hD0, as ++ [q], ?_⟩
        rw [pts_succ, List.map_append]
        exact f4.more ne (s3.free hq) d4 p4
    · rw [Int.toNat_natCast] at f3
      have al := f3.row.length
      rw [List.length_map, pts_len] at al
      -- due = [row for row in due if row != []]
      refine ⟨_, rfl, D0, rfl, ⟨_, SqL.of f3.top⟩, fun D4 hD4 => ?_⟩
      refine lc_list (K := K) (a := D0) (xs := as.map V.ref) (fun i H4 => Same H3 H4 ∧ ∃ cs : List Addr, H4 D4 = some (.lst (cs.map V.ref)) ∧ cs.length ≤ i ∧ Paired (RowB H3) cs (((pts i).map (rowT m ts Ed)).filter fun r => decide (r ≠ [])))
        ⟨Same.put hD4, [], upd_same, Nat.le_refl _, .nil⟩ (fun i H4 _ ⟨s4, _⟩ => SqL.of (s4 _ _ f3.top)) (fun i x H4 hi ⟨s4, cs, d4, l4, p4⟩ => ?_) (fun H4 ⟨s4, cs, d4, l4, p4⟩ => ?_)
      · rw [List.getElem?_map] at hi
        obtain ⟨b, eb, rfl⟩ : ∃ b, as[i]? = some b ∧ x = .ref b := by
          cases e : as[i]? with
          | none =>
            rw [e] at hi
            cases hi
          | some b =>
            rw [e] at hi
            exact ⟨b, rfl, (Option.some.inj hi).symm⟩
        have hi2 := (List.getElem?_eq_some_iff.mp eb).1
        obtain ⟨r, er, _, hb⟩ := paired_get f3.row eb
        have er2 : r = rowT m ts Ed i := by
          rw [List.getElem?_map, pts_at (by omega)] at er
          exact (Option.some.inj er).symm
        subst er2
        have hb : RowB H3 b (rowT m ts Ed i) := hb
        refine ⟨rfl, ?_⟩
        refine ⟨_, rfl, Nat.zero_le _, fun z hz => ?_⟩
        have s5 := s4.trans (Same.put (o := .lst []) hz)
        refine ⟨rowB (rowT m ts Ed i), .list [], dp_rowB (RowB.same s5 hb), .lst (SqL.of upd_same) .nil, prds_shaped _, inl_shaped [], _, rfl, ?_⟩
        rw [rowB_empty]
        by_cases c : rowT m ts Ed i = []
        · refine no_ (by rw [decide_eq_true c]; rfl) ?_
          refine ⟨s5, cs, (Same.put hz) _ _ d4, by omega, ?_⟩
          rw [pts_succ, List.map_append, List.filter_append]
          have e1 : (([(i : Int)] : List Int).map (rowT m ts Ed)).filter (fun r => decide (r ≠ [])) = [] := by simp [c]
          rw [e1, List.append_nil]
          exact p4
        · refine yep_ (by rw [decide_eq_false c]; rfl) ?_
          refine ⟨_, rfl, cs.map V.ref, (Same.put hz) _ _ d4, by rw [List.length_map]; exact small (by omega), Same.write s5 hD4, cs ++ [b], by rw [upd_same, List.map_append]; rfl, by rw [List.length_append, List.length_singleton]; omega, ?_⟩
          rw [pts_succ, List.map_append, List.filter_append]
          have e1 : (([(i : Int)] : List Int).map (rowT m ts Ed)).filter (fun r => decide (r ≠ [])) = [rowT m ts Ed i] := by simp [c]
          rw [e1]
          exact Paired.snoc p4 hb
      · rw [List.length_map, al, wl] at p4
        have eb := due_blocks g ed
        rw [hts] at eb
        rw [eb] at p4
        have due4 : BLists H4 D4 (blocksL m ts) := ⟨cs, d4, Paired.mono (fun _ _ => RowB.same s4) p4⟩
        have s24 : Same H2 H4 := s3.trans s4
        have s14 : Same H1 H4 := s2.trans s24
        clear p4 l4 d4 f3
        -- web = Web(many, list(ties))
        refine ⟨_, rfl, _, rfl, D, ws, rfl, .inl (SqL.of (s14 _ _ d1)), fun l hl x dx nx ndx ndxx => ?_⟩
        have s45 := Same.put (o := .lst ws) hl
        refine ⟨_, x, dx, m, l, ws, ts, rfl, upd_same, fun b o e => by rw [upd_ne (ne_of_none e nx), upd_ne (ne_of_none e ndx)]; exact e, nx, SqL.of upd_same, p1.same (s14.trans s45), g, m1, m16, tl, fun H6 keep W => ⟨rfl, ?_⟩⟩
        have s56 := Same.made nx ndx keep
        have s46 : Same H4 H6 := s45.trans s56
        clear keep
        have s16 := s14.trans s46
        have due6 := BLists.same s46 due4
        obtain ⟨_, dxw, Rw, asw, hpw, _⟩ := id W
        have nT : (wF m Rw).lookup ("ties" : Str) = none := wF_no _ _ (by decide +kernel) (by decide +kernel)
        -- seen = blocks(web)
        refine ⟨_, rfl, _, x, m, ts, rfl, W, g, m16, tl, fun H7 S as7 s67 f7 => ?_⟩
        have due7 := BLists.same s67 due6
        refine ⟨_, rfl, .ref S, .ty "list", .type "list", .type "list", true, rfl, .ty _, .base (.lst f7.top), kit_ty (by decide +kernel), true, rfl, ?_⟩
        refine iteF ?_
        refine ⟨_, rfl, _, rfl, lstB (blocksL m ts), lstB (blocksL m ts), dp_listsB f7.lists, dp_listsB due7, lstB_shaped _, lstB_shaped _, _, rfl, ?_⟩
        refine no_ (by rw [lstB_refl]; rfl) ?_
        -- for row in seen
        refine ⟨_, rfl, S, rfl, ⟨_, SqL.of f7.top⟩, for_list (K := K) (a := S) (xs := as7.map V.ref) (fun i σ H8 => Same H7 H8 ∧ ∃ v5 v8 : Option V, σ = [some (.ref a), some (.int m), some (.ref D), some (.ref Lb), some (.ref D4), v5, some (.ref x), some (.ref S), v8, none, none])
          ⟨Same.refl _, _, _, rfl⟩ (fun i σ H8 _ ⟨s8, _⟩ => SqL.of (s8 _ _ f7.top)) ?_ ?_⟩
        · rintro i y σ H8 hi ⟨s8, v5, v8, rfl⟩
          rw [List.getElem?_map] at hi
          obtain ⟨b, eb, rfl⟩ : ∃ b, as7[i]? = some b ∧ y = .ref b := by
            cases e : as7[i]? with
            | none =>
              rw [e] at hi
              cases hi
            | some b =>
              rw [e] at hi
              exact ⟨b, rfl, (Option.some.inj hi).symm⟩
          obtain ⟨bs, ebs, _, ws8, d8, p8⟩ := paired_get f7.row eb
          refine ⟨_, rfl, .ref b, .ty "list", .type "list", .type "list", true, rfl, .ty _, .base (.lst (s8 _ _ d8)), kit_ty (by decide +kernel), true, rfl, ?_⟩
          refine iteF ?_
          refine ⟨_, rfl, b, rfl, ⟨_, SqL.of (s8 _ _ d8)⟩, for_list (K := K) (a := b) (xs := ws8) (fun j σ H9 => Same H7 H9 ∧ ∃ v8 : Option V, σ = [some (.ref a), some (.int m), some (.ref D), some (.ref Lb), some (.ref D4), some (.ref b), some (.ref x), some (.ref S), v8, none, none])
            ⟨s8, _, rfl⟩ (fun j σ H9 _ ⟨s9, _⟩ => SqL.of (s9 _ _ d8)) ?_ ?_⟩
          · rintro j y σ H9 hj ⟨s9, v8, rfl⟩
            obtain ⟨t, et, ⟨c, rfl, hc⟩⟩ := paired_get (PairsAt.same s9 p8) hj
            refine ⟨_, rfl, .ref c, .ty "tuple", .type "tuple", .type "tuple", true, rfl, .ty _, .base (.tup hc), kit_ty (by decide +kernel), true, rfl, ?_⟩
            refine iteF ?_
            refine ⟨_, rfl, c, _, 0, _, rfl, rfl, SqT.of hc, rfl, _, rfl, _, rfl, ?_⟩
            refine iteF ?_
            refine ⟨_, rfl, c, _, 1, _, rfl, rfl, SqT.of hc, rfl, _, rfl, _, rfl, ?_⟩
            refine iteF ?_
            exact ⟨s9, _, rfl⟩
          · rintro σ H9 ⟨s9, v8, rfl⟩
            exact ⟨s9, _, _, rfl⟩
        · rintro σ H8 ⟨s8, v5, v8, rfl⟩
          -- if seen != []: seen[0].clear()
          refine ⟨_, rfl, Nat.zero_le _, fun z hz => ?_⟩
          have s9 := s8.trans (Same.put (o := .lst []) hz)
          have s69 := s67.trans s9
          refine ⟨lstB (blocksL m ts), .list [], dp_listsB (BLists.same s9 f7.lists), .lst (SqL.of upd_same) .nil, lstB_shaped _, inl_shaped [], _, rfl, ?_⟩
          rw [lstB_empty]
          by_cases c : blocksL m ts = []
          · refine no_ (by rw [decide_eq_true c]; rfl) ?_
            have s610 := s69
            -- return blocks(web) == due and web.ties() == ties
            refine ⟨_, rfl, _, x, m, ts, rfl, W.same s610, g, m16, tl, fun H11 S2 as11 s11 f11 => ?_⟩
            have s611 := s610.trans s11
            refine ⟨_, rfl, lstB (blocksL m ts), lstB (blocksL m ts), dp_listsB f11.lists, dp_listsB (BLists.same s611 due6), lstB_shaped _, lstB_shaped _, _, rfl, ?_⟩
            refine yep_ (lstB_refl _) ?_
            refine ⟨_, rfl, x, dxw, _, rfl, s611 _ _ hpw, nT, _, x, m, ts, rfl, W.same s611, g, m16, fun H12 D12 ws12 s12 hD12 d12 p12 => ?_⟩
            rw [hts] at p12
            refine ⟨_, rfl, .list (ts.map prd), .list (ts.map prd), dp_pairs (SqL.of d12) p12, dp_pairs (SqL.of ((s16.trans (s611.trans s12)) _ _ d1)) (p1.same (s16.trans (s611.trans s12))), prds_shaped _, prds_shaped _, ?_⟩
            rw [prds_refl]
            exact k H12
          · refine yep_ (by rw [decide_eq_false c]; rfl) ?_
            have f9 := f7.same s9
            obtain ⟨b0, eb0⟩ : ∃ b0, (blocksL m ts)[0]? = some b0 := ⟨_, List.getElem?_eq_getElem (List.length_pos_iff.mpr c)⟩
            obtain ⟨b, eb, b6, ws9, d9, p9⟩ := paired_get' f9.row eb0
            have ebr : (as7.map V.ref)[0]? = some (.ref b) := by
              rw [List.getElem?_map, eb]
              rfl
            refine ⟨_, rfl, S, _, 0, .ref b, rfl, rfl, SqL.of f9.top, atI_nat ebr, .inl ⟨rfl, _, SqL.of d9⟩, b, _, rfl, rfl, d9, ?_⟩
            have s610 : Same H6 (upd (upd H8 z (.lst [])) b (.lst [])) := Same.write s69 b6
            -- return blocks(web) == due and web.ties() == ties
            refine ⟨_, rfl, _, x, m, ts, rfl, W.same s610, g, m16, tl, fun H11 S2 as11 s11 f11 => ?_⟩
            have s611 := s610.trans s11
            refine ⟨_, rfl, lstB (blocksL m ts), lstB (blocksL m ts), dp_listsB f11.lists, dp_listsB (BLists.same s611 due6), lstB_shaped _, lstB_shaped _, _, rfl, ?_⟩
            refine yep_ (lstB_refl _) ?_
            refine ⟨_, rfl, x, dxw, _, rfl, s611 _ _ hpw, nT, _, x, m, ts, rfl, W.same s611, g, m16, fun H12 D12 ws12 s12 hD12 d12 p12 => ?_⟩
            rw [hts] at p12
            refine ⟨_, rfl, .list (ts.map prd), .list (ts.map prd), dp_pairs (SqL.of d12) p12, dp_pairs (SqL.of ((s16.trans (s611.trans s12)) _ _ d1)) (p1.same (s16.trans (s611.trans s12))), prds_shaped _, prds_shaped _, ?_⟩
            rw [prds_refl]
            exact k H12
end
end Fd
namespace Fd
open PySem PySem.Spec PyProof.Rows L2
theorem fn_mk {K : PySem.W.Frag} {h : Heap} {mg : Str → Option Value} (X : K.In h) (G : h.Ns mainGlobals mg) {x : Str} {st : Stmt} {ps : List Str} {f : Addr} {od an : Option Addr} {sl : Array (Option Value)} {oc kV dc pm cd ct : Value}
    (a : PySem.W.nsIn K mainGlobals x = some (some (.ref f))) (l : K.lookup f = some ⟨oc, od, .func (PySem.W.fnOf x x (defArgs st) (defBody st) (defScope st) .none kV dc pm an cd ct), sl⟩) (c : PySem.W.codeIn K cd x = true) (k : PySem.W.keepIn K (.ref f) = true)
    (hb : ∀ (kV doc pm : Value) (an : Option Addr) (cdv ct : Value) (us : List Value), us.length = ps.length → bindArgs (PySem.W.fnOf x x (defArgs st) (defBody st) (defScope st) .none kV doc pm an cdv ct) ⟨us, []⟩ = pure (ps.zip us)) : Fn K mg x st ps :=
  ⟨f, _, fun_mk l c k, PySem.W.mg_of X G a, (fun_mk l c k).binds hb⟩
theorem fnM_mk {K : PySem.W.Frag} {C : Addr} {m qual : Str} {st : Stmt} {ps : List Str} {f : Addr} {od an : Option Addr} {sl : Array (Option Value)} {oc kV dc pm cd ct : Value}
    (a : PySem.W.findIn K (.ref C) m = some (some (.ref f))) (i : PySem.W.isFn K (.ref f) = true) (l : K.lookup f = some ⟨oc, od, .func (PySem.W.fnOf m qual (defArgs st) (defBody st) (defScope st) .none kV dc pm an cd ct), sl⟩) (c : PySem.W.codeIn K cd qual = true) (k : PySem.W.keepIn K (.ref f) = true)
    (hb : ∀ (kV doc pm : Value) (an : Option Addr) (cdv ct : Value) (us : List Value), us.length = ps.length → bindArgs (PySem.W.fnOf m qual (defArgs st) (defBody st) (defScope st) .none kV doc pm an cdv ct) ⟨us, []⟩ = pure (ps.zip us)) : FnM K C m qual st ps :=
  ⟨f, _, fun_mk l c k, ⟨a, i, k⟩, (fun_mk l c k).binds hb⟩
theorem fnI_mk {K : PySem.W.Frag} {C : Addr} {qual : Str} {st : Stmt} {ps : List Str} {f : Addr} {od an : Option Addr} {sl : Array (Option Value)} {oc kV dc pm cd ct : Value} (mk : PySem.W.makesIn K C = true)
    (a : PySem.W.findIn K (.ref C) "__init__" = some (some (.ref f))) (i : PySem.W.isFn K (.ref f) = true) (kc : PySem.W.keepIn K (.ref C) = true) (l : K.lookup f = some ⟨oc, od, .func (PySem.W.fnOf "__init__" qual (defArgs st) (defBody st) (defScope st) .none kV dc pm an cd ct), sl⟩) (c : PySem.W.codeIn K cd qual = true) (k : PySem.W.keepIn K (.ref f) = true)
    (hb : ∀ (kV doc pm : Value) (an : Option Addr) (cdv ct : Value) (us : List Value), us.length = ps.length → bindArgs (PySem.W.fnOf "__init__" qual (defArgs st) (defBody st) (defScope st) .none kV doc pm an cdv ct) ⟨us, []⟩ = pure (ps.zip us)) : FnI K C qual st ps :=
  ⟨f, _, fun_mk l c k, ⟨mk, a, i, kc⟩, (fun_mk l c k).binds hb⟩
end Fd
namespace Fd
open PySem PySem.Spec PyProof.Rows L2
theorem fnR_mk {K : PySem.W.Frag} {h : Heap} {mg : Str → Option Value} (X : K.In h) (G : h.Ns mainGlobals mg) {f TD B0 : Addr} {od an oT oB : Option Addr} {sl sT sB : Array (Option Value)} {oc kV dc pm cd ct cT : Value} {nT nB : Nat}
    (a : PySem.W.nsIn K mainGlobals "reached" = some (some (.ref f))) (l : K.lookup f = some ⟨oc, od, .func (PySem.W.fnOf "reached" "reached" (defArgs sReached) (defBody sReached) (defScope sReached) (.ref TD) kV dc pm an cd ct), sl⟩)
    (c : PySem.W.codeIn K cd "reached" = true) (k : PySem.W.keepIn K (.ref f) = true) (lT : K.lookup TD = some ⟨cT, oT, .seq #[Value.ref B0] nT, sT⟩)
    (lB : K.lookup B0 = some ⟨.type "tuple", oB, .seq #[] nB, sB⟩) : FnR K mg := by
  have F : L2.FunD K "reached" "reached" (defArgs sReached) (defBody sReached) (defScope sReached) [.ref B0] [] f (PySem.W.fnOf "reached" "reached" (defArgs sReached) (defBody sReached) (defScope sReached) (.ref TD) kV dc pm an cd ct) :=
    ⟨⟨oc, od, .ref TD, kV, dc, pm, an, cd, ct, sl, rfl, l, c, .inr ⟨by simp, TD, _, [Value.ref B0], nT, rfl, lT, rfl, .cons rfl .nil⟩, .inl rfl⟩, k⟩
  obtain ⟨ds, hv, b1⟩ := F.binds1 (ps := ["rows", "start", "barred"]) 2 0 (by simp) rfl fun _ _ _ _ _ _ _ us its h1 h2 => match us, its, h1, h2 with | [_, _], [_], _, _ => ⟨_, rfl, rfl⟩
  obtain ⟨ds2, hv2, b2⟩ := F.binds1 (ps := ["rows", "start", "barred"]) 3 1 (by simp) rfl fun _ _ _ _ _ _ _ us its h1 h2 => match us, its, h1, h2 with | [_, _, _], [_], _, _ => ⟨_, rfl, rfl⟩
  cases hv2
  exact ⟨f, B0, _, F, PySem.W.mg_of X G a, ⟨ds, hv, b1⟩, b2, fun H => .inr ⟨_, _, _, lB, rfl, rfl, by decide, .nil⟩⟩
end Fd
namespace Fd
open PySem PySem.Spec PyProof.Rows L2
/-! ### What the top has left, and the end -/
theorem all_mk {l : PySem.W.OpenLaw} {w : World} {K : PySem.W.Frag} {h : Heap} {mg : Str → Option Value} {fa C : Addr} {tmP : Tok} {tmT : Tok} {f1 : Addr} {od1 an1 : Option Addr} {sl1 : Array (Option Value)} {oc1 kV1 dc1 pm1 cd1 ct1 : Value} {f2 : Addr} {od2 an2 : Option Addr} {sl2 : Array (Option Value)} {oc2 kV2 dc2 pm2 cd2 ct2 : Value} {f3 : Addr} {od3 an3 : Option Addr} {sl3 : Array (Option Value)} {oc3 kV3 dc3 pm3 cd3 ct3 : Value} {f4 : Addr} {od4 an4 : Option Addr} {sl4 : Array (Option Value)} {oc4 kV4 dc4 pm4 cd4 ct4 : Value} {f5 : Addr} {od5 an5 : Option Addr} {sl5 : Array (Option Value)} {oc5 kV5 dc5 pm5 cd5 ct5 : Value} {f6 : Addr} {od6 an6 : Option Addr} {sl6 : Array (Option Value)} {oc6 kV6 dc6 pm6 cd6 ct6 : Value} {f7 : Addr} {od7 an7 : Option Addr} {sl7 : Array (Option Value)} {oc7 kV7 dc7 pm7 cd7 ct7 : Value} {f8 : Addr} {od8 an8 : Option Addr} {sl8 : Array (Option Value)} {oc8 kV8 dc8 pm8 cd8 ct8 : Value} {f9 : Addr} {od9 an9 : Option Addr} {sl9 : Array (Option Value)} {oc9 kV9 dc9 pm9 cd9 ct9 : Value} {f10 : Addr} {od10 an10 : Option Addr} {sl10 : Array (Option Value)} {oc10 kV10 dc10 pm10 cd10 ct10 : Value} {f11 : Addr} {od11 an11 : Option Addr} {sl11 : Array (Option Value)} {oc11 kV11 dc11 pm11 cd11 ct11 : Value} {f12 : Addr} {od12 an12 : Option Addr} {sl12 : Array (Option Value)} {oc12 kV12 dc12 pm12 cd12 ct12 : Value} {f13 : Addr} {od13 an13 : Option Addr} {sl13 : Array (Option Value)} {oc13 kV13 dc13 pm13 cd13 ct13 : Value} {f14 : Addr} {od14 an14 : Option Addr} {sl14 : Array (Option Value)} {oc14 kV14 dc14 pm14 cd14 ct14 : Value} {f15 : Addr} {od15 an15 : Option Addr} {sl15 : Array (Option Value)} {oc15 kV15 dc15 pm15 cd15 ct15 : Value} {f16 : Addr} {od16 an16 : Option Addr} {sl16 : Array (Option Value)} {oc16 kV16 dc16 pm16 cd16 ct16 : Value} {f17 : Addr} {od17 an17 : Option Addr} {sl17 : Array (Option Value)} {oc17 kV17 dc17 pm17 cd17 ct17 : Value} {f18 : Addr} {od18 an18 : Option Addr} {sl18 : Array (Option Value)} {oc18 kV18 dc18 pm18 cd18 ct18 : Value} {fR TD BR : Addr} {odR anR oTR oBR : Option Addr} {slR sTR sBR : Array (Option Value)} {ocR kVR dcR pmR cdR ctR cTR : Value} {nTR nBR : Nat} {fL : Addr} {odL anL : Option Addr} {slL : Array (Option Value)} {ocL kVL dcL pmL cdL ctL : Value}
    (X : K.In h) (G : h.Ns mainGlobals mg) (hfa : mg "law" = some (.ref fa))
    (aC : PySem.W.nsIn K mainGlobals "Web" = some (some (.ref C)))
    (pg : PySem.W.plainGet K C Str.empty = true)
    (hd : PySem.W.hasDictIn K C = true)
    (po : PySem.W.plainOver K C = true)
    (sa : PySem.W.findIn K (.ref C) "__setattr__" = some (some (.builtin "object.__setattr__")))
    (mk : PySem.W.makesIn K C = true)
    (kc : PySem.W.keepIn K (.ref C) = true)
    (nM : PySem.W.findIn K (.ref C) "many" = some none)
    (nR : PySem.W.findIn K (.ref C) "_rows" = some none)
    (mP : PySem.W.nsIn K mainGlobals "MOST_POINTS" = some (some (.int 16 tmP)))
    (mT : PySem.W.nsIn K mainGlobals "MOST_TIES" = some (some (.int 40 tmT)))
    (z_len : PySem.W.nsIn K mainGlobals "len" = some none)
    (z_type : PySem.W.nsIn K mainGlobals "type" = some none)
    (z_int : PySem.W.nsIn K mainGlobals "int" = some none)
    (z_list : PySem.W.nsIn K mainGlobals "list" = some none)
    (z_tuple : PySem.W.nsIn K mainGlobals "tuple" = some none)
    (z_range : PySem.W.nsIn K mainGlobals "range" = some none)
    (z_sorted : PySem.W.nsIn K mainGlobals "sorted" = some none)
    (z_bool : PySem.W.nsIn K mainGlobals "bool" = some none)
    (z_max : PySem.W.nsIn K mainGlobals "max" = some none)
    (z_min : PySem.W.nsIn K mainGlobals "min" = some none)
    (z_set : PySem.W.nsIn K mainGlobals "set" = some none)
    (z_isi : PySem.W.nsIn K mainGlobals "isinstance" = some none)
    (a1 : PySem.W.nsIn K mainGlobals "is_number" = some (some (.ref f1)))
    (l1 : K.lookup f1 = some ⟨oc1, od1, .func (PySem.W.fnOf "is_number" "is_number" (defArgs sIsNumber) (defBody sIsNumber) (defScope sIsNumber) .none kV1 dc1 pm1 an1 cd1 ct1), sl1⟩)
    (c1 : PySem.W.codeIn K cd1 "is_number" = true)
    (k1 : PySem.W.keepIn K (.ref f1) = true)
    (a2 : PySem.W.nsIn K mainGlobals "is_point" = some (some (.ref f2)))
    (l2 : K.lookup f2 = some ⟨oc2, od2, .func (PySem.W.fnOf "is_point" "is_point" (defArgs sIsPoint) (defBody sIsPoint) (defScope sIsPoint) .none kV2 dc2 pm2 an2 cd2 ct2), sl2⟩)
    (c2 : PySem.W.codeIn K cd2 "is_point" = true)
    (k2 : PySem.W.keepIn K (.ref f2) = true)
    (a3 : PySem.W.nsIn K mainGlobals "_is_tie" = some (some (.ref f3)))
    (l3 : K.lookup f3 = some ⟨oc3, od3, .func (PySem.W.fnOf "_is_tie" "_is_tie" (defArgs sIsTie) (defBody sIsTie) (defScope sIsTie) .none kV3 dc3 pm3 an3 cd3 ct3), sl3⟩)
    (c3 : PySem.W.codeIn K cd3 "_is_tie" = true)
    (k3 : PySem.W.keepIn K (.ref f3) = true)
    (a4 : PySem.W.nsIn K mainGlobals "_joined" = some (some (.ref f4)))
    (l4 : K.lookup f4 = some ⟨oc4, od4, .func (PySem.W.fnOf "_joined" "_joined" (defArgs sJoined) (defBody sJoined) (defScope sJoined) .none kV4 dc4 pm4 an4 cd4 ct4), sl4⟩)
    (c4 : PySem.W.codeIn K cd4 "_joined" = true)
    (k4 : PySem.W.keepIn K (.ref f4) = true)
    (a5 : PySem.W.nsIn K mainGlobals "_law_cell_at" = some (some (.ref f5)))
    (l5 : K.lookup f5 = some ⟨oc5, od5, .func (PySem.W.fnOf "_law_cell_at" "_law_cell_at" (defArgs sLawCellAt) (defBody sLawCellAt) (defScope sLawCellAt) .none kV5 dc5 pm5 an5 cd5 ct5), sl5⟩)
    (c5 : PySem.W.codeIn K cd5 "_law_cell_at" = true)
    (k5 : PySem.W.keepIn K (.ref f5) = true)
    (a6 : PySem.W.nsIn K mainGlobals "_law_whole" = some (some (.ref f6)))
    (l6 : K.lookup f6 = some ⟨oc6, od6, .func (PySem.W.fnOf "_law_whole" "_law_whole" (defArgs sLawWhole) (defBody sLawWhole) (defScope sLawWhole) .none kV6 dc6 pm6 an6 cd6 ct6), sl6⟩)
    (c6 : PySem.W.codeIn K cd6 "_law_whole" = true)
    (k6 : PySem.W.keepIn K (.ref f6) = true)
    (a7 : PySem.W.nsIn K mainGlobals "_law_many" = some (some (.ref f7)))
    (l7 : K.lookup f7 = some ⟨oc7, od7, .func (PySem.W.fnOf "_law_many" "_law_many" (defArgs sLawMany) (defBody sLawMany) (defScope sLawMany) .none kV7 dc7 pm7 an7 cd7 ct7), sl7⟩)
    (c7 : PySem.W.codeIn K cd7 "_law_many" = true)
    (k7 : PySem.W.keepIn K (.ref f7) = true)
    (a8 : PySem.W.nsIn K mainGlobals "_law_rings" = some (some (.ref f8)))
    (l8 : K.lookup f8 = some ⟨oc8, od8, .func (PySem.W.fnOf "_law_rings" "_law_rings" (defArgs sLawRings) (defBody sLawRings) (defScope sLawRings) .none kV8 dc8 pm8 an8 cd8 ct8), sl8⟩)
    (c8 : PySem.W.codeIn K cd8 "_law_rings" = true)
    (k8 : PySem.W.keepIn K (.ref f8) = true)
    (a9 : PySem.W.nsIn K mainGlobals "_law_ties" = some (some (.ref f9)))
    (l9 : K.lookup f9 = some ⟨oc9, od9, .func (PySem.W.fnOf "_law_ties" "_law_ties" (defArgs sLawTies) (defBody sLawTies) (defScope sLawTies) .none kV9 dc9 pm9 an9 cd9 ct9), sl9⟩)
    (c9 : PySem.W.codeIn K cd9 "_law_ties" = true)
    (k9 : PySem.W.keepIn K (.ref f9) = true)
    (a10 : PySem.W.nsIn K mainGlobals "_law_labels" = some (some (.ref f10)))
    (l10 : K.lookup f10 = some ⟨oc10, od10, .func (PySem.W.fnOf "_law_labels" "_law_labels" (defArgs sLawLabels) (defBody sLawLabels) (defScope sLawLabels) .none kV10 dc10 pm10 an10 cd10 ct10), sl10⟩)
    (c10 : PySem.W.codeIn K cd10 "_law_labels" = true)
    (k10 : PySem.W.keepIn K (.ref f10) = true)
    (a11 : PySem.W.nsIn K mainGlobals "_law_grown" = some (some (.ref f11)))
    (l11 : K.lookup f11 = some ⟨oc11, od11, .func (PySem.W.fnOf "_law_grown" "_law_grown" (defArgs sLawGrown) (defBody sLawGrown) (defScope sLawGrown) .none kV11 dc11 pm11 an11 cd11 ct11), sl11⟩)
    (c11 : PySem.W.codeIn K cd11 "_law_grown" = true)
    (k11 : PySem.W.keepIn K (.ref f11) = true)
    (a12 : PySem.W.nsIn K mainGlobals "_ringed" = some (some (.ref f12)))
    (l12 : K.lookup f12 = some ⟨oc12, od12, .func (PySem.W.fnOf "_ringed" "_ringed" (defArgs sRinged) (defBody sRinged) (defScope sRinged) .none kV12 dc12 pm12 an12 cd12 ct12), sl12⟩)
    (c12 : PySem.W.codeIn K cd12 "_ringed" = true)
    (k12 : PySem.W.keepIn K (.ref f12) = true)
    (a13 : PySem.W.nsIn K mainGlobals "_block" = some (some (.ref f13)))
    (l13 : K.lookup f13 = some ⟨oc13, od13, .func (PySem.W.fnOf "_block" "_block" (defArgs sBlock) (defBody sBlock) (defScope sBlock) .none kV13 dc13 pm13 an13 cd13 ct13), sl13⟩)
    (c13 : PySem.W.codeIn K cd13 "_block" = true)
    (k13 : PySem.W.keepIn K (.ref f13) = true)
    (a14 : PySem.W.nsIn K mainGlobals "blocks" = some (some (.ref f14)))
    (l14 : K.lookup f14 = some ⟨oc14, od14, .func (PySem.W.fnOf "blocks" "blocks" (defArgs sBlocks) (defBody sBlocks) (defScope sBlocks) .none kV14 dc14 pm14 an14 cd14 ct14), sl14⟩)
    (c14 : PySem.W.codeIn K cd14 "blocks" = true)
    (k14 : PySem.W.keepIn K (.ref f14) = true)
    (a15 : PySem.W.findIn K (.ref C) "__init__" = some (some (.ref f15)))
    (i15 : PySem.W.isFn K (.ref f15) = true)
    (l15 : K.lookup f15 = some ⟨oc15, od15, .func (PySem.W.fnOf "__init__" "Web.__init__" (defArgs sWebInit) (defBody sWebInit) (defScope sWebInit) .none kV15 dc15 pm15 an15 cd15 ct15), sl15⟩)
    (c15 : PySem.W.codeIn K cd15 "Web.__init__" = true)
    (k15 : PySem.W.keepIn K (.ref f15) = true)
    (a16 : PySem.W.findIn K (.ref C) "_check_point" = some (some (.ref f16)))
    (i16 : PySem.W.isFn K (.ref f16) = true)
    (l16 : K.lookup f16 = some ⟨oc16, od16, .func (PySem.W.fnOf "_check_point" "Web._check_point" (defArgs sWebCheckPoint) (defBody sWebCheckPoint) (defScope sWebCheckPoint) .none kV16 dc16 pm16 an16 cd16 ct16), sl16⟩)
    (c16 : PySem.W.codeIn K cd16 "Web._check_point" = true)
    (k16 : PySem.W.keepIn K (.ref f16) = true)
    (a17 : PySem.W.findIn K (.ref C) "beside" = some (some (.ref f17)))
    (i17 : PySem.W.isFn K (.ref f17) = true)
    (l17 : K.lookup f17 = some ⟨oc17, od17, .func (PySem.W.fnOf "beside" "Web.beside" (defArgs sWebBeside) (defBody sWebBeside) (defScope sWebBeside) .none kV17 dc17 pm17 an17 cd17 ct17), sl17⟩)
    (c17 : PySem.W.codeIn K cd17 "Web.beside" = true)
    (k17 : PySem.W.keepIn K (.ref f17) = true)
    (a18 : PySem.W.findIn K (.ref C) "ties" = some (some (.ref f18)))
    (i18 : PySem.W.isFn K (.ref f18) = true)
    (l18 : K.lookup f18 = some ⟨oc18, od18, .func (PySem.W.fnOf "ties" "Web.ties" (defArgs sWebTies) (defBody sWebTies) (defScope sWebTies) .none kV18 dc18 pm18 an18 cd18 ct18), sl18⟩)
    (c18 : PySem.W.codeIn K cd18 "Web.ties" = true)
    (k18 : PySem.W.keepIn K (.ref f18) = true)
    (aR : PySem.W.nsIn K mainGlobals "reached" = some (some (.ref fR)))
    (lR : K.lookup fR = some ⟨ocR, odR, .func (PySem.W.fnOf "reached" "reached" (defArgs sReached) (defBody sReached) (defScope sReached) (.ref TD) kVR dcR pmR anR cdR ctR), slR⟩)
    (cR : PySem.W.codeIn K cdR "reached" = true)
    (kR : PySem.W.keepIn K (.ref fR) = true)
    (lT : K.lookup TD = some ⟨cTR, oTR, .seq #[Value.ref BR] nTR, sTR⟩)
    (lB : K.lookup BR = some ⟨.type "tuple", oBR, .seq #[] nBR, sBR⟩)
    (aL : PySem.W.nsIn K mainGlobals "law" = some (some (.ref fL)))
    (lL : K.lookup fL = some ⟨ocL, odL, .func (PySem.W.fnOf "law" "law" (defArgs sLaw) (defBody sLaw) (defScope sLaw) .none kVL dcL pmL anL cdL ctL), slL⟩)
    (cL : PySem.W.codeIn K cdL "law" = true)
    (kL : PySem.W.keepIn K (.ref fL) = true)
    : ∃ fd : FuncData, (∀ (s : Shared) (v : Value), BindsTo s fd ⟨[v], []⟩ [("_law_script", v)]) ∧ ∀ base : Heap, K.In base → base.Ns mainGlobals mg → FnOk l.prog w K mg base L2.CX0 7 fa fd ["_law_script"] (spLaw K) := by
  have e := hfa.symm.trans (PySem.W.mg_of X G aL)
  cases e
  have T : WTxt K mg C := { cl := ⟨pg, hd, po, sa⟩, nMany := nM, nRows := nR, gWeb := PySem.W.mg_of X G aC, mostP := ⟨_, PySem.W.mg_of X G mP⟩, mostT := ⟨_, PySem.W.mg_of X G mT⟩, len := PySem.W.mg_none_of X G z_len, type := PySem.W.mg_none_of X G z_type, int := PySem.W.mg_none_of X G z_int, list := PySem.W.mg_none_of X G z_list, tuple := PySem.W.mg_none_of X G z_tuple, range := PySem.W.mg_none_of X G z_range, sorted := PySem.W.mg_none_of X G z_sorted, fNum := (fn_mk (ps := ["thing"]) X G a1 l1 c1 k1 fun _ _ _ _ _ _ us hl => match us, hl with | [_], _ => rfl), fPoint := (fn_mk (ps := ["many", "thing"]) X G a2 l2 c2 k2 fun _ _ _ _ _ _ us hl => match us, hl with | [_, _], _ => rfl), fTie := (fn_mk (ps := ["many", "thing"]) X G a3 l3 c3 k3 fun _ _ _ _ _ _ us hl => match us, hl with | [_, _], _ => rfl), fJoined := (fn_mk (ps := ["many", "ties"]) X G a4 l4 c4 k4 fun _ _ _ _ _ _ us hl => match us, hl with | [_, _], _ => rfl), fInit := (fnI_mk (ps := ["self", "many", "ties"]) mk a15 i15 kc l15 c15 k15 fun _ _ _ _ _ _ us hl => match us, hl with | [_, _, _], _ => rfl) }
  have L : LTxt K mg := { isi := PySem.W.mg_none_of X G z_isi, bool := PySem.W.mg_none_of X G z_bool, max := PySem.W.mg_none_of X G z_max, min := PySem.W.mg_none_of X G z_min, fCell := (fn_mk (ps := ["_law_script", "_law_k"]) X G a5 l5 c5 k5 fun _ _ _ _ _ _ us hl => match us, hl with | [_, _], _ => rfl), fWhole := (fn_mk (ps := ["_law_seen"]) X G a6 l6 c6 k6 fun _ _ _ _ _ _ us hl => match us, hl with | [_], _ => rfl), fMany := (fn_mk (ps := ["_law_script"]) X G a7 l7 c7 k7 fun _ _ _ _ _ _ us hl => match us, hl with | [_], _ => rfl) }
  have B : BTxt K mg C := { min := PySem.W.mg_none_of X G z_min, max := PySem.W.mg_none_of X G z_max, set := PySem.W.mg_none_of X G z_set, fR := fnR_mk X G aR lR cR kR lT lB, fRinged := (fn_mk (ps := ["rows", "hub", "end"]) X G a12 l12 c12 k12 fun _ _ _ _ _ _ us hl => match us, hl with | [_, _, _], _ => rfl), fBlock := (fn_mk (ps := ["rows", "first"]) X G a13 l13 c13 k13 fun _ _ _ _ _ _ us hl => match us, hl with | [_, _], _ => rfl), fBlocks := (fn_mk (ps := ["web"]) X G a14 l14 c14 k14 fun _ _ _ _ _ _ us hl => match us, hl with | [_], _ => rfl) }
  have W4 : Web4 K C := { fC := (fnM_mk (ps := ["self", "thing"]) a16 i16 l16 c16 k16 fun _ _ _ _ _ _ us hl => match us, hl with | [_, _], _ => rfl), fB := (fnM_mk (ps := ["self", "point"]) a17 i17 l17 c17 k17 fun _ _ _ _ _ _ us hl => match us, hl with | [_, _], _ => rfl), fT := (fnM_mk (ps := ["self"]) a18 i18 l18 c18 k18 fun _ _ _ _ _ _ us hl => match us, hl with | [_], _ => rfl) }
  have N4 : L4Txt K mg := { fRings := (fn_mk (ps := ["_law_cell", "_law_many_here"]) X G a8 l8 c8 k8 fun _ _ _ _ _ _ us hl => match us, hl with | [_, _], _ => rfl), fTies := (fn_mk (ps := ["_law_script", "_law_many_here"]) X G a9 l9 c9 k9 fun _ _ _ _ _ _ us hl => match us, hl with | [_, _], _ => rfl), fGrown := (fn_mk (ps := ["_law_ties_here", "_law_start", "_law_out"]) X G a11 l11 c11 k11 fun _ _ _ _ _ _ us hl => match us, hl with | [_, _, _], _ => rfl), fLabels := (fn_mk (ps := ["_law_ties_here", "_law_many_here"]) X G a10 l10 c10 k10 fun _ _ _ _ _ _ us hl => match us, hl with | [_, _], _ => rfl) }
  exact ⟨_, fun s v => .of_eq rfl, fun base _ _ => ok_law (fun_mk (st := sLaw) lL cL kL) T L B W4 N4⟩
theorem walk_law {l : PySem.W.OpenLaw} {q : Program} {loose : List Str} {XP : (Str → Option Value) → Heap → Prop} {YP : World → Heap → Prop} {d : DefRec} {K : Params → PySem.W.Frag} (hn : l.most = some 63) (hdf : d.params.defaults = [])
    (hY : ∀ (w : World) (h : Heap), YP w h → (K w.params).In h)
    (F : ∀ (w : World) (mg : Str → Option Value) (fa : Addr) (h : Heap), (K w.params).In h → h.Ns mainGlobals mg → mg d.name = some (.ref fa) →
      ∃ fd : FuncData, (∀ (s : Shared) (u : Value), BindsTo s fd ⟨[u], []⟩ [("_law_script", u)]) ∧ ∀ base : Heap, (K w.params).In base → base.Ns mainGlobals mg → FnOk l.prog w (K w.params) mg base L2.CX0 7 fa fd ["_law_script"] (spLaw (K w.params))) :
    PySem.W.WalkO q loose XP YP l.row.toRowW d [] (fun f vs => PySem.call f vs) :=
  L2.walk_of (n := 63) (k := 7) (x := "_law_script") (CX := fun _ => L2.CX0) (sp := fun w => spLaw (K w.params)) hn (by decide) hdf ⟨rfl, by decide, by decide⟩ hY F (fun _ _ a ns hl _ hS => ⟨a, ns, rfl, hS, fun _ => rfl⟩) fun _ _ _ _ _ z => z
end Fd
open PySem PySem.W PyProof.Rows
set_option maxRecDepth 100000 in
set_option maxHeartbeats 0 in
theorem PySem.Challenge.cw_flatdraw_k04_blocks_holds : PySem.Challenge.rw_flatdraw_k04_blocks.Holds := by
  w_on; o_law; k_head; (case hw => w_witness2)
  k_fill
  refine Fd.walk_law (l := PySem.Challenge.rw_flatdraw_k04_blocks) rfl rfl (fun w h Y => PySem.W.kIn_of Y) ?F
  case F =>
    intro w mg fa h KX G hmg
    refine' Fd.all_mk KX G hmg ?aC ?pg ?hd ?po ?sa ?mk ?kc ?nM ?nR ?mP ?mT ?z_len ?z_type ?z_int ?z_list ?z_tuple ?z_range ?z_sorted ?z_bool ?z_max ?z_min ?z_set ?z_isi ?a1 ?l1 ?c1 ?k1 ?a2 ?l2 ?c2 ?k2 ?a3 ?l3 ?c3 ?k3 ?a4 ?l4 ?c4 ?k4 ?a5 ?l5 ?c5 ?k5 ?a6 ?l6 ?c6 ?k6 ?a7 ?l7 ?c7 ?k7 ?a8 ?l8 ?c8 ?k8 ?a9 ?l9 ?c9 ?k9 ?a10 ?l10 ?c10 ?k10 ?a11 ?l11 ?c11 ?k11 ?a12 ?l12 ?c12 ?k12 ?a13 ?l13 ?c13 ?k13 ?a14 ?l14 ?c14 ?k14 ?a15 ?i15 ?l15 ?c15 ?k15 ?a16 ?i16 ?l16 ?c16 ?k16 ?a17 ?i17 ?l17 ?c17 ?k17 ?a18 ?i18 ?l18 ?c18 ?k18 ?aR ?lR ?cR ?kR ?lT ?lB ?aL ?lL ?cL ?kL
    (case aC => k_is)
    (case pg => k_is)
    (case hd => k_is)
    (case po => k_is)
    (case sa => k_is)
    (case mk => k_is)
    (case kc => k_is)
    (case nM => k_is)
    (case nR => k_is)
    (case mP => k_is)
    (case mT => k_is)
    (case z_len => k_is)
    (case z_type => k_is)
    (case z_int => k_is)
    (case z_list => k_is)
    (case z_tuple => k_is)
    (case z_range => k_is)
    (case z_sorted => k_is)
    (case z_bool => k_is)
    (case z_max => k_is)
    (case z_min => k_is)
    (case z_set => k_is)
    (case z_isi => k_is)
    (case a1 => k_is)
    (case l1 => k_is)
    (case c1 => k_is)
    (case k1 => k_is)
    (case a2 => k_is)
    (case l2 => k_is)
    (case c2 => k_is)
    (case k2 => k_is)
    (case a3 => k_is)
    (case l3 => k_is)
    (case c3 => k_is)
    (case k3 => k_is)
    (case a4 => k_is)
    (case l4 => k_is)
    (case c4 => k_is)
    (case k4 => k_is)
    (case a5 => k_is)
    (case l5 => k_is)
    (case c5 => k_is)
    (case k5 => k_is)
    (case a6 => k_is)
    (case l6 => k_is)
    (case c6 => k_is)
    (case k6 => k_is)
    (case a7 => k_is)
    (case l7 => k_is)
    (case c7 => k_is)
    (case k7 => k_is)
    (case a8 => k_is)
    (case l8 => k_is)
    (case c8 => k_is)
    (case k8 => k_is)
    (case a9 => k_is)
    (case l9 => k_is)
    (case c9 => k_is)
    (case k9 => k_is)
    (case a10 => k_is)
    (case l10 => k_is)
    (case c10 => k_is)
    (case k10 => k_is)
    (case a11 => k_is)
    (case l11 => k_is)
    (case c11 => k_is)
    (case k11 => k_is)
    (case a12 => k_is)
    (case l12 => k_is)
    (case c12 => k_is)
    (case k12 => k_is)
    (case a13 => k_is)
    (case l13 => k_is)
    (case c13 => k_is)
    (case k13 => k_is)
    (case a14 => k_is)
    (case l14 => k_is)
    (case c14 => k_is)
    (case k14 => k_is)
    (case a15 => k_is)
    (case i15 => k_is)
    (case l15 => k_is)
    (case c15 => k_is)
    (case k15 => k_is)
    (case a16 => k_is)
    (case i16 => k_is)
    (case l16 => k_is)
    (case c16 => k_is)
    (case k16 => k_is)
    (case a17 => k_is)
    (case i17 => k_is)
    (case l17 => k_is)
    (case c17 => k_is)
    (case k17 => k_is)
    (case a18 => k_is)
    (case i18 => k_is)
    (case l18 => k_is)
    (case c18 => k_is)
    (case k18 => k_is)
    (case aR => k_is)
    (case lR => k_is)
    (case cR => k_is)
    (case kR => k_is)
    (case lT => k_is)
    (case lB => k_is)
    (case aL => k_is)
    (case lL => k_is)
    (case cL => k_is)
    (case kL => k_is)
