import PyProof.Rows.All
import Wide.All
import OpenK.AllK
import Wide.FinOn
import HandS.ForMost
import HandS.Deep
import HandS.IsInst
import HandS.More
import HandS.SortRule
import HandS.SortInts
import KE.DataMinMax
import PyProof.TypeEq
import HandS.Codes
import HandS.Defaults
import HandS.Conv
import HandS.Exc
import HandS.ExcOwn
import HandS.WordsExc
import HandS.HotCalls
import HandS.ExcIs
import HandS.TupSets
import HandS.DictComp
import HandS.TupLe
import HandS.Zip
import KE.KDictZip
import KE.DatumOrd
import KE.DataFind
import PyProof.Claim2Refuses
import HandS.Rev
import HandS.ListItems
import HandS.Walk
import PySem.Challenge.RW_flatdraw_k08_knots_looked_at
set_option Elab.async false
set_option linter.all false
set_option maxRecDepth 100000
namespace Fd
open PySem L2
/-! ### == and != of two built-in types -/
theorem slot_ty_ne : Slot "type" (cmpInfo .NotEq).2.1 "object.__ne__" :=
  Slot.of (n := "__ne__") (owner := "object") (by rw [typeLookup_type, builtinLookup_eq_fast]; kernel_rfl) (by decide +kernel) (by decide +kernel) (by decide +kernel) (by first | exact .inl (by decide +kernel) | exact .inr (by decide +kernel)) (by rw [isSubtype_type]; kernel_rfl)
theorem slot_ty_ne' : Slot "type" (cmpInfo .NotEq).2.2 "object.__ne__" := slot_ty_ne
section
variable {prog : Program} {w : World} {A : Around} {E : Value → Shared → Prop} {s : Shared}
theorem call_ne_ty {X Y : String} {Q : Value → Shared → Prop} (hX : ∀ s' : Shared, s'.TypeIs (.type X) "type")
    (h : Q (if (Value.type X == Value.type Y) = true then .bool false else .notImplemented) s) : wpAny (model prog w) A (call (.builtin "object.__ne__") [.type X, .type Y]) Q E s := by
  refine wpAny_call (codeAny_call_builtin slot_ty_ne.plain F.entry_object_ne (slot_ty_ne.check _ _ _ _ _ _ _ _ (hX s) (F.args_object_ne_2 _ _) ?_))
  unfold Builtin.«object.__ne__»
  have e1 : slotArgs "__ne__" 1 ⟨[Value.type X, Value.type Y], []⟩ = pure (Value.type X, [Value.type Y]) := by
    simp [slotArgs]
  rw [e1]
  simp only [pure_bind]
  refine wpAny_bind (wpAny_cRoomFor_or (.inl rfl) ?_)
  refine wpAny_bind (wpAny_callSpecialIfBound?_slot (name := (cmpInfo .Eq).2.1) (hX s) TypeEq.slot_type_eq ?_)
  by_cases hk : (Value.type X == Value.type Y) = true
  · rw [if_pos hk] at h
    refine call_gives TypeEq.slot_type_eq (hX s) F.entry_object_eq (F.args_object_eq_2 _ _) (TypeEq.object_eq_same rfl hk) ?_
    exact wpAny_bind (wpAny_truthy_bool (wpAny_pure h))
  · rw [if_neg hk] at h
    refine call_gives TypeEq.slot_type_eq (hX s) F.entry_object_eq (F.args_object_eq_2 _ _) (TypeEq.object_eq_other rfl (Bool.eq_false_iff.mpr hk)) ?_
    exact wpAny_pure h
theorem ne_ty {X Y : String} {Q : Value → Shared → Prop} (hX : ∀ s' : Shared, s'.TypeIs (.type X) "type") (hY : ∀ s' : Shared, s'.TypeIs (.type Y) "type")
    (h : Q (.bool (!decide (X = Y))) s) : wpAny (model prog w) A (compareOp .NotEq (.type X) (.type Y)) Q E s := by
  show wpAny (model prog w) A (richCompare CmpOp.NotEq (.type X) (.type Y)) Q E s
  by_cases e : X = Y
  · subst e
    refine wpAny_richCompare_same (T := "type") (hX s) (hX s) slot_ty_ne (call_ne_ty hX ?_)
    rw [if_pos (by simp)]
    rw [decide_eq_true rfl] at h
    exact ⟨(by intro z; cases z), h⟩
  · have k1 : (Value.type X == Value.type Y) = false := by simp [e]
    have k2 : (Value.type Y == Value.type X) = false := by simpa using fun z : Y = X => e z.symm
    rw [decide_eq_false e] at h
    rcases hi : cmpInfo CmpOp.NotEq with ⟨sym, f, r⟩
    have h1 := slot_ty_ne
    have h2 := slot_ty_ne'
    rw [hi] at h1 h2
    simp only [richCompare, hi, (hX s).oneThing_none]
    try with_reducible refine wpAny_holding ?_
    refine wpAny_bind (wpAny_cRoomFor_or (.inl rfl) ?_)
    refine wpAny_bind (wpAny_typeOf (hX s) (wpAny_bind (wpAny_typeOf (hY s) ?_)))
    simp only [if_true, if_false, bne_self_eq_false, Bool.not_false, Bool.false_eq_true, pure_bind]
    refine wpAny_bind (m := tryCompare (.type X) _ (.type Y)) (wpAny_tryCompare_declines (hX s) h1 (call_ne_ty hX ?_))
    rw [if_neg (by rw [k1]; exact Bool.false_ne_true)]
    refine ⟨rfl, ?_⟩
    refine wpAny_bind (m := tryCompare (.type Y) _ (.type X)) (wpAny_tryCompare_declines (hY s) h2 (call_ne_ty hY ?_))
    rw [if_neg (by rw [k2]; exact Bool.false_ne_true)]
    refine ⟨rfl, ?_⟩
    refine wpAny_bind (wpAny_rule (wpAny_bind (wpAny_of_eq (isSame_plain rfl) ?_)))
    rw [k1]
    exact wpAny_pure h
end
/-- the names of the built-in kinds that are compared -/
def kinds : List String := ["int", "str", "bool", "NoneType", "list", "tuple", "dict", "bytes"]
theorem meta_of {T : String} (h : T ∈ kinds) (s : Shared) : s.TypeIs (.type T) "type" := by
  simp only [kinds, List.mem_cons, List.not_mem_nil, or_false] at h
  rcases h with rfl | rfl | rfl | rfl | rfl | rfl | rfl | rfl
  · exact TypeEq.meta_int s
  · exact TypeEq.meta_str s
  · exact TypeEq.meta_bool s
  · exact TypeEq.meta_NoneType s
  · exact TypeEq.meta_list s
  · exact TypeEq.meta_tuple s
  · exact TypeEq.meta_dict s
  · exact TypeEq.meta_bytes s
theorem TyB_kind {K : PySem.W.Frag} {H : Hp} {x : V} {T : String} (h : TyB K H x T) : T ∈ kinds := by
  cases h <;> decide
def rEqTy : R2 := fun x y H Q => ∃ a b, x = .ty a ∧ y = .ty b ∧ a ∈ kinds ∧ b ∈ kinds ∧ Q (.bl (decide (a = b))) H
def rNeTy : R2 := fun x y H Q => ∃ a b, x = .ty a ∧ y = .ty b ∧ a ∈ kinds ∧ b ∈ kinds ∧ Q (.bl (!decide (a = b))) H
section
variable {X : Cx}
theorem op_eqTy : OpR X (compareOp .Eq) rEqTy := by
  intro pins s σ H x y v u Q I rx ry h
  obtain ⟨a, b, rfl, rfl, ha, hb, q⟩ := h
  cases rx
  cases ry
  by_cases e : a = b
  · subst e
    rw [decide_eq_true rfl] at q
    exact TypeEq.eq_type_same (meta_of ha) ⟨.bl true, H, I, rfl, q⟩
  · rw [decide_eq_false e] at q
    exact TypeEq.eq_type_other (meta_of ha) (meta_of hb) (by simp [e]) ⟨.bl false, H, I, rfl, q⟩
theorem op_neTy : OpR X (compareOp .NotEq) rNeTy := by
  intro pins s σ H x y v u Q I rx ry h
  obtain ⟨a, b, rfl, rfl, ha, hb, q⟩ := h
  cases rx
  cases ry
  exact ne_ty (meta_of ha) (meta_of hb) ⟨.bl _, H, I, rfl, q⟩
end
end Fd
namespace Fd
/-! ### plain lists -/
theorem strict_uniq {α : Type} {lt : α → α → Prop} (asym : ∀ a b, lt a b → ¬ lt b a) : ∀ {l1 l2 : List α}, l1.Pairwise lt → l2.Pairwise lt → (∀ x, x ∈ l1 ↔ x ∈ l2) → l1 = l2
  | [], [], _, _, _ => rfl
  | [], b :: l2, _, _, h => absurd ((h b).mpr List.mem_cons_self) (by simp)
  | a :: l1, [], _, _, h => absurd ((h a).mp List.mem_cons_self) (by simp)
  | a :: l1, b :: l2, h1, h2, h => by
    obtain ⟨p1, q1⟩ := List.pairwise_cons.mp h1
    obtain ⟨p2, q2⟩ := List.pairwise_cons.mp h2
    have e : a = b := by
      rcases List.mem_cons.mp ((h a).mp List.mem_cons_self) with e | ha
      · exact e
      · rcases List.mem_cons.mp ((h b).mpr List.mem_cons_self) with e | hb
        · exact e.symm
        · exact absurd (p1 b hb) (asym _ _ (p2 a ha))
    subst e
    have irr : ∀ x, lt a x → x ≠ a := fun x hx z => by
      subst z
      exact asym _ _ hx hx
    rw [strict_uniq asym q1 q2 fun x => ⟨fun hx => ?_, fun hx => ?_⟩]
    · rcases List.mem_cons.mp ((h x).mp (List.mem_cons_of_mem _ hx)) with e | hx'
      · exact absurd e (irr x (p1 x hx))
      · exact hx'
    · rcases List.mem_cons.mp ((h x).mpr (List.mem_cons_of_mem _ hx)) with e | hx'
      · exact absurd e (irr x (p2 x hx))
      · exact hx'
theorem strict_of_le {l : List Int} (h : l.Pairwise (· ≤ ·)) (n : l.Nodup) : l.Pairwise (· < ·) := by
  induction l with
  | nil => exact List.Pairwise.nil
  | cons a l ih =>
    obtain ⟨p, q⟩ := List.pairwise_cons.mp h
    obtain ⟨n1, n2⟩ := List.nodup_cons.mp n
    refine List.pairwise_cons.mpr ⟨fun b hb => ?_, ih q n2⟩
    have h1 := p b hb
    have h2 : a ≠ b := fun e => n1 (e ▸ hb)
    omega
theorem take_next {α : Type} : ∀ {l : List α} {i : Nat} {x : α}, l[i]? = some x → l.take (i + 1) = l.take i ++ [x]
  | [], i, x, h => by simp at h
  | a :: l, 0, x, h => by
    cases Option.some.inj h
    rfl
  | a :: l, i + 1, x, h => by
    rw [List.take_succ_cons, take_next (l := l) (i := i) (x := x) h]
    rfl
/-! ### points, ties, rows -/
abbrev Tie := Int × Int
def pts (m : Nat) : List Int := (List.range m).map fun n : Nat => (n : Int)
theorem mem_pts {m : Nat} {x : Int} : x ∈ pts m ↔ 0 ≤ x ∧ x < m := by
  unfold pts
  rw [List.mem_map]
  constructor
  · rintro ⟨n, hn, rfl⟩
    rw [List.mem_range] at hn
    omega
  · intro h
    exact ⟨x.toNat, List.mem_range.mpr (by omega), by omega⟩
theorem pts_strict (m : Nat) : (pts m).Pairwise (· < ·) := by
  unfold pts
  rw [List.pairwise_map]
  exact List.pairwise_lt_range.imp fun h => by omega
theorem pts_len (m : Nat) : (pts m).length = m := by simp [pts]
theorem pts_at {m i : Nat} (h : i < m) : (pts m)[i]? = some (i : Int) := by
  simp [pts, h]
theorem pts_succ (m : Nat) : pts (m + 1) = pts m ++ [(m : Int)] := by
  simp [pts, List.range_succ]
/-- a tie joins p and j -/
def Adj (ts : List Tie) (p j : Int) : Prop := (p, j) ∈ ts ∨ (j, p) ∈ ts
instance (ts : List Tie) (p j : Int) : Decidable (Adj ts p j) := by unfold Adj; exact inferInstance
theorem Adj.symm {ts : List Tie} {p j : Int} (h : Adj ts p j) : Adj ts j p := Or.symm h
structure Good (m : Nat) (ts : List Tie) : Prop where
  rng : ∀ t ∈ ts, 0 ≤ t.1 ∧ t.1 < m ∧ 0 ≤ t.2 ∧ t.2 < m ∧ t.1 ≠ t.2
  ap : ts.Pairwise fun t u => t ≠ u ∧ t ≠ (u.2, u.1)
theorem Good.nil (m : Nat) : Good m [] := ⟨fun _ h => by simp at h, List.Pairwise.nil⟩
theorem Good.snoc {m : Nat} {ts : List Tie} {t : Tie} (g : Good m ts) (h : 0 ≤ t.1 ∧ t.1 < m ∧ 0 ≤ t.2 ∧ t.2 < m ∧ t.1 ≠ t.2) (h1 : t ∉ ts) (h2 : (t.2, t.1) ∉ ts) : Good m (ts ++ [t]) := by
  refine ⟨fun u hu => ?_, List.pairwise_append.mpr ⟨g.ap, List.pairwise_singleton _ _, fun u hu v hv => ?_⟩⟩
  · rcases List.mem_append.mp hu with hu | hu
    · exact g.rng u hu
    · rw [List.mem_singleton.mp hu]
      exact h
  · rw [List.mem_singleton.mp hv]
    exact ⟨fun e => h1 (e ▸ hu), fun e => h2 (e ▸ hu)⟩
theorem Good.drop {m : Nat} {ts : List Tie} (g : Good m ts) (k : Nat) : Good m (ts.drop k) := ⟨fun t h => g.rng t (List.mem_of_mem_drop h), g.ap.sublist (List.drop_sublist k ts)⟩
theorem Good.take {m : Nat} {ts : List Tie} (g : Good m ts) (k : Nat) : Good m (ts.take k) := ⟨fun t h => g.rng t (List.mem_of_mem_take h), g.ap.sublist (List.take_sublist k ts)⟩
theorem Good.apart {m : Nat} {ts : List Tie} (g : Good m ts) {i : Nat} {t : Tie} (h : ts[i]? = some t) : t ∉ ts.take i ∧ (t.2, t.1) ∉ ts.take i := by
  have e := take_next h
  have g1 := (g.take (i + 1)).ap
  rw [e] at g1
  have q := (List.pairwise_append.mp g1).2.2
  refine ⟨fun hm => ?_, fun hm => ?_⟩
  · exact (q t hm t (by simp)).1 rfl
  · exact (q (t.2, t.1) hm t (by simp)).2 rfl
/-- what one tie puts beside p -/
def here (t : Tie) (p : Int) : List Int := (if t.1 = p then [t.2] else []) ++ (if t.2 = p then [t.1] else [])
def nb (ts : List Tie) (p : Int) : List Int := ts.flatMap fun t => here t p
theorem mem_here {t : Tie} {p j : Int} : j ∈ here t p ↔ t = (p, j) ∨ t = (j, p) := by
  obtain ⟨a, b⟩ := t
  unfold here
  by_cases h1 : a = p <;> by_cases h2 : b = p <;> simp [h1, h2] <;> constructor <;> intro h <;> simp_all
theorem mem_nb {ts : List Tie} {p j : Int} : j ∈ nb ts p ↔ Adj ts p j := by
  unfold nb Adj
  rw [List.mem_flatMap]
  constructor
  · rintro ⟨t, ht, hj⟩
    rcases mem_here.mp hj with e | e
    · exact .inl (e ▸ ht)
    · exact .inr (e ▸ ht)
  · rintro (h | h)
    · exact ⟨_, h, mem_here.mpr (.inl rfl)⟩
    · exact ⟨_, h, mem_here.mpr (.inr rfl)⟩
theorem nb_snoc (ts : List Tie) (t : Tie) (p : Int) : nb (ts ++ [t]) p = nb ts p ++ here t p := by
  unfold nb
  rw [List.flatMap_append]
  simp
theorem nb_nodup {m : Nat} : ∀ {ts : List Tie} (g : Good m ts) (p : Int), (nb ts p).Nodup
  | [], _, _ => by simp [nb]
  | t :: ts, g, p => by
    have g' : Good m ts := ⟨fun u h => g.rng u (List.mem_cons_of_mem _ h), (List.pairwise_cons.mp g.ap).2⟩
    have ih := nb_nodup g' p
    have hne := (g.rng t List.mem_cons_self).2.2.2.2
    have e : nb (t :: ts) p = here t p ++ nb ts p := by simp [nb]
    rw [e]
    refine List.nodup_append.mpr ⟨?_, ih, fun x hx y hy z => ?_⟩
    · obtain ⟨a, b⟩ := t
      unfold here
      by_cases h1 : a = p <;> by_cases h2 : b = p <;> simp [h1, h2]
      exact hne (h1.trans h2.symm)
    · subst z
      have q := (List.pairwise_cons.mp g.ap).1
      rcases mem_here.mp hx with e1 | e1 <;> rcases mem_nb.mp hy with e2 | e2
      · exact (q _ e2).1 e1
      · exact (q _ e2).2 e1
      · exact (q _ e2).2 e1
      · exact (q _ e2).1 e1
/-- the points beside p, rising -/
def rowOf (m : Nat) (ts : List Tie) (p : Int) : List Int := (pts m).filter fun j => decide (Adj ts p j)
theorem mem_rowOf {m : Nat} {ts : List Tie} (g : Good m ts) {p j : Int} : j ∈ rowOf m ts p ↔ Adj ts p j := by
  unfold rowOf
  rw [List.mem_filter, decide_eq_true_iff, mem_pts]
  refine ⟨fun h => h.2, fun h => ⟨?_, h⟩⟩
  rcases h with h | h
  · have := g.rng _ h
    exact ⟨this.2.2.1, this.2.2.2.1⟩
  · have := g.rng _ h
    exact ⟨this.1, this.2.1⟩
theorem rowOf_strict (m : Nat) (ts : List Tie) (p : Int) : (rowOf m ts p).Pairwise (· < ·) := (pts_strict m).filter _
theorem rowOf_len (m : Nat) (ts : List Tie) (p : Int) : (rowOf m ts p).length ≤ m := by
  have h := List.length_filter_le (fun j => decide (Adj ts p j)) (pts m)
  rw [pts_len] at h
  exact h
theorem row_sorted {m : Nat} {ts : List Tie} (g : Good m ts) {p : Int} {ns : List Int} (hp : ns.Perm (nb ts p)) (hs : ns.Pairwise (· ≤ ·)) : ns = rowOf m ts p := by
  refine strict_uniq (lt := fun a b : Int => a < b) (fun a b h => by omega) (strict_of_le hs (hp.nodup_iff.mpr (nb_nodup g p))) (rowOf_strict m ts p) fun x => ?_
  rw [hp.mem_iff, mem_nb, mem_rowOf g]
def rowsOf (m : Nat) (ts : List Tie) : List (List Int) := (pts m).map (rowOf m ts)
theorem rowsOf_len (m : Nat) (ts : List Tie) : (rowsOf m ts).length = m := by simp [rowsOf, pts_len]
theorem rowsOf_at {m : Nat} {ts : List Tie} {i : Nat} (h : i < m) : (rowsOf m ts)[i]? = some (rowOf m ts i) := by
  unfold rowsOf
  rw [List.getElem?_map, pts_at h]
  rfl
/-! ### the ties told -/
def pickT (m : Nat) (ts : List Tie) (i : Int) : List Tie := ((rowOf m ts i).filter fun j => decide (i < j)).map fun j => (i, j)
def toldT (m : Nat) (ts : List Tie) : List Tie := (pts m).flatMap (pickT m ts)
def lexT (a b : Tie) : Prop := a.1 < b.1 ∨ (a.1 = b.1 ∧ a.2 < b.2)
theorem mem_pickT {m : Nat} {ts : List Tie} (g : Good m ts) {i : Int} {t : Tie} : t ∈ pickT m ts i ↔ t.1 = i ∧ t.1 < t.2 ∧ Adj ts t.1 t.2 := by
  unfold pickT
  rw [List.mem_map]
  constructor
  · rintro ⟨j, hj, rfl⟩
    rw [List.mem_filter, decide_eq_true_iff, mem_rowOf g] at hj
    exact ⟨rfl, hj.2, hj.1⟩
  · rintro ⟨rfl, h1, h2⟩
    exact ⟨t.2, by rw [List.mem_filter, decide_eq_true_iff, mem_rowOf g]; exact ⟨h2, h1⟩, rfl⟩
theorem mem_toldT {m : Nat} {ts : List Tie} (g : Good m ts) {t : Tie} : t ∈ toldT m ts ↔ t.1 < t.2 ∧ Adj ts t.1 t.2 := by
  unfold toldT
  rw [List.mem_flatMap]
  constructor
  · rintro ⟨i, _, h⟩
    exact ((mem_pickT g).mp h).2
  · intro h
    refine ⟨t.1, ?_, (mem_pickT g).mpr ⟨rfl, h⟩⟩
    rw [mem_pts]
    rcases h.2 with k | k
    · have := g.rng _ k
      exact ⟨this.1, this.2.1⟩
    · have := g.rng _ k
      exact ⟨this.2.2.1, this.2.2.2.1⟩
theorem toldT_strict {m : Nat} {ts : List Tie} (g : Good m ts) : (toldT m ts).Pairwise lexT := by
  unfold toldT
  rw [List.pairwise_flatMap]
  refine ⟨fun i _ => ?_, (pts_strict m).imp fun {i k} hik x hx y hy => ?_⟩
  · unfold pickT
    rw [List.pairwise_map]
    exact ((rowOf_strict m ts i).filter _).imp fun h => .inr ⟨rfl, h⟩
  · have h1 := ((mem_pickT g).mp hx).1
    have h2 := ((mem_pickT g).mp hy).1
    exact .inl (by omega)
def norm (t : Tie) : Tie := (min t.1 t.2, max t.1 t.2)
theorem norm_cases (t : Tie) : norm t = t ∨ norm t = (t.2, t.1) := by
  unfold norm
  obtain ⟨a, b⟩ := t
  by_cases h : a ≤ b
  · left
    show (min a b, max a b) = (a, b)
    rw [Int.min_eq_left h, Int.max_eq_right h]
  · right
    show (min a b, max a b) = (b, a)
    rw [Int.min_eq_right (by omega), Int.max_eq_left (by omega)]
theorem mem_norm {m : Nat} {ts : List Tie} (g : Good m ts) {t : Tie} : t ∈ ts.map norm ↔ t.1 < t.2 ∧ Adj ts t.1 t.2 := by
  rw [List.mem_map]
  constructor
  · rintro ⟨u, hu, rfl⟩
    have hne := (g.rng u hu).2.2.2.2
    obtain ⟨a, b⟩ := u
    refine ⟨?_, ?_⟩
    · show min a b < max a b
      have : a ≠ b := hne
      omega
    · rcases norm_cases (a, b) with e | e
      · rw [e]
        exact .inl hu
      · rw [e]
        exact .inr hu
  · rintro ⟨h1, h2⟩
    obtain ⟨a, b⟩ := t
    have h1 : a < b := h1
    rcases h2 with h2 | h2
    · refine ⟨_, h2, ?_⟩
      show (min a b, max a b) = (a, b)
      rw [Int.min_eq_left (by omega), Int.max_eq_right (by omega)]
    · refine ⟨_, h2, ?_⟩
      show (min b a, max b a) = (a, b)
      rw [Int.min_eq_right (by omega), Int.max_eq_left (by omega)]
theorem norm_nodup {m : Nat} : ∀ {ts : List Tie} (g : Good m ts), (ts.map norm).Nodup
  | [], _ => by simp
  | t :: ts, g => by
    have g' : Good m ts := ⟨fun u h => g.rng u (List.mem_cons_of_mem _ h), (List.pairwise_cons.mp g.ap).2⟩
    rw [List.map_cons, List.nodup_cons]
    refine ⟨fun h => ?_, norm_nodup g'⟩
    obtain ⟨u, hu, e⟩ := List.mem_map.mp h
    have q := (List.pairwise_cons.mp g.ap).1 u hu
    rcases norm_cases u with e1 | e1 <;> rcases norm_cases t with e2 | e2 <;> rw [e1, e2] at e
    · exact q.1 e.symm
    · exact q.2 (by rw [e])
    · exact q.2 e.symm
    · exact q.1 (by
        obtain ⟨a, b⟩ := t
        obtain ⟨c, d⟩ := u
        simp only [Prod.mk.injEq] at e ⊢
        exact ⟨e.2.symm, e.1.symm⟩)
theorem told_sorted {m : Nat} {ts ys : List Tie} (g : Good m ts) (hp : ys.Perm (ts.map norm)) (hs : ys.Pairwise fun a b => ¬ lexT b a) : ys = toldT m ts := by
  have nd : ys.Nodup := hp.nodup_iff.mpr (norm_nodup g)
  refine strict_uniq (lt := lexT) (fun a b h k => ?_) ?_ (toldT_strict g) fun x => ?_
  · unfold lexT at h k
    omega
  · have both := List.Pairwise.and hs nd
    refine both.imp fun {a b} h => ?_
    obtain ⟨h1, h2⟩ := h
    unfold lexT at h1 ⊢
    by_cases e1 : a.1 = b.1
    · by_cases e2 : a.2 = b.2
      · exact absurd (Prod.ext e1 e2) h2
      · omega
    · omega
  · rw [hp.mem_iff, mem_norm g, mem_toldT g]
theorem toldT_len {m : Nat} {ts : List Tie} (g : Good m ts) : (toldT m ts).length = ts.length := by
  have h1 : (toldT m ts).Nodup := (toldT_strict g).imp fun {a b} h e => by
    subst e
    unfold lexT at h
    omega
  have hp : (toldT m ts).Perm (ts.map norm) := (List.perm_ext_iff_of_nodup h1 (norm_nodup g)).mpr fun x => by rw [mem_norm g, mem_toldT g]
  have e := hp.length_eq
  rw [List.length_map] at e
  exact e
end Fd
namespace Fd
open PySem L2
/-! ### min and max of a pair of iL -/
def rPr (f : Int → Int → Int) (K : PySem.W.Frag) : List V → Hp → VK → Prop := fun vs H Q => ∃ (a : Addr) (i j : Int), vs = [V.ref a] ∧ SqT K H a [.int i, .int j] ∧ Q (.int (f i j)) H
section
variable {X : Cx}
theorem alike2 (i j : Int) : PySem.W.AlikeAll [PyData.int i, PyData.int j] := by
  refine ⟨fun x hx y hy => ?_, fun x hx => ?_⟩
  · simp only [List.mem_cons, List.not_mem_nil, or_false] at hx hy
    rcases hx with rfl | rfl <;> rcases hy with rfl | rfl <;> rfl
  · simp only [List.mem_cons, List.not_mem_nil, or_false] at hx
    rcases hx with rfl | rfl <;> intro z <;> cases z
theorem cr_minPr (hc : X.calm = true) (hu : X.A.units + 64 < cLine) : CallR X (.builtin "min") (rPr min X.K) := by
  intro pins s σ H vs us Q I r h
  obtain ⟨a, i, j, rfl, hT, q⟩ := h
  obtain ⟨its, rv, ⟨o, ho, hcl, n, hd⟩, _⟩ := I.tuple hT
  rw [Vals.ref1 r]
  obtain ⟨u1, u2, rfl, ri, rj⟩ := vals2 rv
  obtain ⟨t1, rfl⟩ := ri
  obtain ⟨t2, rfl⟩ := rj
  refine PySem.W.min_tuple_data (x := .int i) (xs := [.int j]) (I.ok.hd hc) ⟨o, ho, hcl, n, hd⟩ (.cons (.int i t1) (.cons (.int j t2) .nil)) (alike2 i j) ?_ fun k v h' tk bs hk hr keep => ?_
  · simp only [PyData.depthAll, PyData.depth]
    omega
  · rw [show PySem.W.minD (PyData.int i) [PyData.int j] = PyData.int (min i j) from PySem.W.minD_ints i [j]] at hr
    cases hr
    exact ⟨.int (min i j), H, I.kept keep, ⟨_, rfl⟩, q⟩
theorem cr_maxPr (hc : X.calm = true) (hu : X.A.units + 64 < cLine) : CallR X (.builtin "max") (rPr max X.K) := by
  intro pins s σ H vs us Q I r h
  obtain ⟨a, i, j, rfl, hT, q⟩ := h
  obtain ⟨its, rv, ⟨o, ho, hcl, n, hd⟩, _⟩ := I.tuple hT
  rw [Vals.ref1 r]
  obtain ⟨u1, u2, rfl, ri, rj⟩ := vals2 rv
  obtain ⟨t1, rfl⟩ := ri
  obtain ⟨t2, rfl⟩ := rj
  refine PySem.W.max_tuple_data (x := .int i) (xs := [.int j]) (I.ok.hd hc) ⟨o, ho, hcl, n, hd⟩ (.cons (.int i t1) (.cons (.int j t2) .nil)) (alike2 i j) ?_ fun k v h' tk bs hk hr keep => ?_
  · simp only [PyData.depthAll, PyData.depth]
    omega
  · rw [show PySem.W.maxD (PyData.int i) [PyData.int j] = PyData.int (max i j) from PySem.W.maxD_ints i [j]] at hr
    cases hr
    exact ⟨.int (max i j), H, I.kept keep, ⟨_, rfl⟩, q⟩
end
/-! ### pairs and lists of pairs in the heap -/
abbrev iL (xs : List Int) : List V := xs.map V.int
def PairAt (H : Hp) (v : V) (t : Tie) : Prop := ∃ a, v = .ref a ∧ H a = some (.tup [.int t.1, .int t.2])
abbrev PairsAt (H : Hp) (vs : List V) (ts : List Tie) : Prop := Paired (PairAt H) vs ts
theorem PairAt.same {H H' : Hp} (s : Same H H') {v : V} {t : Tie} (h : PairAt H v t) : PairAt H' v t := by
  obtain ⟨a, e, k⟩ := h
  exact ⟨a, e, s _ _ k⟩
theorem PairsAt.same {H H' : Hp} (s : Same H H') {vs : List V} {ts : List Tie} (h : PairsAt H vs ts) : PairsAt H' vs ts := Paired.mono (fun _ _ => PairAt.same s) h
theorem paired_get {α β : Type} {F : α → β → Prop} : ∀ {xs : List α} {ys : List β}, Paired F xs ys → ∀ {i : Nat} {x : α}, xs[i]? = some x → ∃ y, ys[i]? = some y ∧ F x y
  | _, _, .nil, i, x, h => by simp at h
  | _, _, .cons r t, 0, x, h => by
    cases Option.some.inj h
    exact ⟨_, rfl, r⟩
  | _, _, .cons r t, i + 1, x, h => paired_get t (i := i) (by simpa using h)
theorem paired_get' {α β : Type} {F : α → β → Prop} : ∀ {xs : List α} {ys : List β}, Paired F xs ys → ∀ {i : Nat} {y : β}, ys[i]? = some y → ∃ x, xs[i]? = some x ∧ F x y
  | _, _, .nil, i, x, h => by simp at h
  | _, _, .cons r t, 0, x, h => by
    cases Option.some.inj h
    exact ⟨_, rfl, r⟩
  | _, _, .cons r t, i + 1, x, h => paired_get' t (i := i) (by simpa using h)
theorem paired_drop {α β : Type} {F : α → β → Prop} : ∀ {xs : List α} {ys : List β}, Paired F xs ys → ∀ k, Paired F (xs.drop k) (ys.drop k)
  | _, _, h, 0 => h
  | _, _, .nil, _ + 1 => .nil
  | _, _, .cons _ t, k + 1 => paired_drop t k
theorem paired_take {α β : Type} {F : α → β → Prop} : ∀ {xs : List α} {ys : List β}, Paired F xs ys → ∀ k, Paired F (xs.take k) (ys.take k)
  | _, _, h, 0 => .nil
  | _, _, .nil, _ + 1 => .nil
  | _, _, .cons r t, k + 1 => .cons r (paired_take t k)
def prd (t : Tie) : PyData := .tuple [.int t.1, .int t.2]
theorem prd_lay (t : Tie) : (prd t).canLay0 = true := by simp [prd, PyData.canLay0, PyData.canLayAll0]
theorem prd_depth (t : Tie) : (prd t).depth = 1 := by simp [prd, PyData.depth, PyData.depthAll]
theorem prds_lay : ∀ ts : List Tie, PyData.canLayAll0 (ts.map prd) = true
  | [] => by simp [PyData.canLayAll0]
  | t :: ts => by simp [PyData.canLayAll0, prd_lay t, prds_lay ts]
theorem prds_depth : ∀ ts : List Tie, PyData.depthAll (ts.map prd) ≤ 1
  | [] => by simp [PyData.depthAll]
  | t :: ts => by
    have h1 := prds_depth ts
    have h2 := prd_depth t
    simp only [List.map_cons, PyData.depthAll]
    omega
theorem shaped_by {d : PyData} (h1 : d.canLay0 = true) (h2 : d.depth ≤ 64) : SeqAt.shaped d = true := by
  unfold SeqAt.shaped
  rw [h1, decide_eq_true h2, Bool.and_self]
theorem prd_shaped (t : Tie) : SeqAt.shaped (prd t) = true := shaped_by (prd_lay t) (by rw [prd_depth]; decide)
theorem prds_shaped (ts : List Tie) : SeqAt.shaped (.list (ts.map prd)) = true := by
  have h := prds_depth ts
  refine shaped_by (by simp only [PyData.canLay0]; exact prds_lay ts) ?_
  simp only [PyData.depth]
  omega
theorem prd_eqv (t u : Tie) : PyData.eqv (prd t) (prd u) = decide (t = u) := by
  obtain ⟨a, b⟩ := t
  obtain ⟨c, d⟩ := u
  simp only [prd, PyData.eqv, PyData.eqvAll, Bool.and_true]
  rw [Bool.eq_iff_iff]
  simp
theorem prds_any (ts : List Tie) (t : Tie) : ((ts.map prd).any fun z => PyData.eqv z (prd t)) = decide (t ∈ ts) := by
  rw [List.any_map, Bool.eq_iff_iff, List.any_eq_true, decide_eq_true_iff]
  constructor
  · rintro ⟨u, hu, e⟩
    have e : PyData.eqv (prd u) (prd t) = true := e
    rw [prd_eqv, decide_eq_true_iff] at e
    exact e ▸ hu
  · intro h
    exact ⟨t, h, by show PyData.eqv (prd t) (prd t) = true; rw [prd_eqv]; exact decide_eq_true rfl⟩
theorem prds_refl (ts : List Tie) : PyData.eqv (.list (ts.map prd)) (.list (ts.map prd)) = true := SeqAt.eqv_refl _ (SeqAt.canLay_of_shaped (prds_shaped ts))
theorem dp_pair {K : PySem.W.Frag} {H : Hp} {v : V} {t : Tie} (h : PairAt H v t) : Dp K H v (prd t) := by
  obtain ⟨a, rfl, k⟩ := h
  exact .tup (SqT.of k) (.cons (.int _) (.cons (.int _) .nil))
theorem dp_all {K : PySem.W.Frag} {H : Hp} : ∀ {vs : List V} {ts : List Tie}, PairsAt H vs ts → DpAll K H vs (ts.map prd)
  | _, _, .nil => .nil
  | _, _, .cons r t => .cons (dp_pair r) (dp_all t)
theorem dp_pairs {K : PySem.W.Frag} {H : Hp} {a : Addr} {vs : List V} {ts : List Tie} (h : SqL K H a vs) (k : PairsAt H vs ts) : Dp K H (.ref a) (.list (ts.map prd)) := .lst h (dp_all k)
theorem dpi_all {K : PySem.W.Frag} {H : Hp} : ∀ xs : List Int, DpAll K H (iL xs) (xs.map PyData.int)
  | [] => .nil
  | x :: xs => .cons (.int x) (dpi_all xs)
theorem dp_ints {K : PySem.W.Frag} {H : Hp} {a : Addr} {xs : List Int} (h : SqL K H a (iL xs)) : Dp K H (.ref a) (.list (xs.map PyData.int)) := .lst h (dpi_all xs)
theorem inl_lay : ∀ xs : List Int, PyData.canLayAll0 (xs.map PyData.int) = true
  | [] => by simp [PyData.canLayAll0]
  | t :: ts => by simp [PyData.canLayAll0, PyData.canLay0, inl_lay ts]
theorem inl_depth : ∀ xs : List Int, PyData.depthAll (xs.map PyData.int) = 0
  | [] => by simp [PyData.depthAll]
  | t :: ts => by simp [PyData.depthAll, PyData.depth, inl_depth ts]
theorem inl_shaped (xs : List Int) : SeqAt.shaped (.list (xs.map PyData.int)) = true := by
  have h := inl_depth xs
  refine shaped_by (by simp only [PyData.canLay0]; exact inl_lay xs) ?_
  simp only [PyData.depth]
  omega
theorem inl_refl (xs : List Int) : PyData.eqv (.list (xs.map PyData.int)) (.list (xs.map PyData.int)) = true := SeqAt.eqv_refl _ (SeqAt.canLay_of_shaped (inl_shaped xs))
theorem inV_ints (xs : List Int) (x : Int) : inV (.int x) (iL xs) = decide (x ∈ xs) := by
  unfold inV iL
  rw [List.any_map, Bool.eq_iff_iff, List.any_eq_true, decide_eq_true_iff]
  constructor
  · rintro ⟨u, hu, e⟩
    have e : (u == x) = true := e
    rw [beq_iff_eq] at e
    exact e ▸ hu
  · intro h
    exact ⟨x, h, beq_self_eq_true x⟩
theorem flat_ints (xs : List Int) : (iL xs).all flatV = true := by
  rw [List.all_eq_true]
  intro v hv
  obtain ⟨x, _, rfl⟩ := List.mem_map.mp hv
  rfl
theorem iL_at {xs : List Int} {i : Nat} {y : V} (h : (iL xs)[i]? = some y) : ∃ z, xs[i]? = some z ∧ y = V.int z := by
  rw [List.getElem?_map] at h
  cases e : xs[i]? with
  | none =>
    rw [e] at h
    cases h
  | some z =>
    rw [e] at h
    exact ⟨z, rfl, (Option.some.inj h).symm⟩
theorem iL_get {xs : List Int} {i : Nat} {z : Int} (h : xs[i]? = some z) : (iL xs)[i]? = some (.int z) := by
  rw [List.getElem?_map, h]
  rfl
/-! ### heaps -/
theorem Same.put {H : Hp} {p : Addr} {o : HO} (h : H p = none) : Same H (upd H p o) := fun b u e => by
  rw [upd_ne (ne_of_none e h)]
  exact e
theorem Same.step {H H1 : Hp} {p : Addr} {o : HO} (s : Same H H1) (h : H1 p = none) : Same H (upd H1 p o) := s.trans (Same.put h)
/-- a list that was new behind H is written -/
theorem Same.write {H H1 : Hp} {p : Addr} {o : HO} (s : Same H H1) (h : H p = none) : Same H (upd H1 p o) := fun b u e => by
  rw [upd_ne (ne_of_none e h)]
  exact s _ _ e
theorem small {n : Nat} (h : n ≤ 1000) : n < sizeLine := Nat.lt_of_le_of_lt h (by decide)
theorem smalle {n : Nat} (h : n ≤ 1000) : n ≤ sizeLine := Nat.le_of_lt (small h)
/-! ### rows: a list of lists of iL, all new behind H0, all apart -/
structure RowsAt (H0 H : Hp) (R : Addr) (as : List Addr) (rss : List (List Int)) : Prop where
  top : H R = some (.lst (as.map V.ref))
  new : H0 R = none
  len : as.length = rss.length
  nd : as.Nodup
  out : R ∉ as
  row : ∀ (i : Nat) (a : Addr) (r : List Int), as[i]? = some a → rss[i]? = some r → H0 a = none ∧ H a = some (.lst (iL r))
theorem RowsAt.get {H0 H : Hp} {R : Addr} {as : List Addr} {rss : List (List Int)} (h : RowsAt H0 H R as rss) {i : Nat} {r : List Int} (e : rss[i]? = some r) : ∃ a, as[i]? = some a ∧ (as.map V.ref)[i]? = some (.ref a) ∧ H0 a = none ∧ H a = some (.lst (iL r)) := by
  have hi : i < as.length := by
    rw [h.len]
    exact (List.getElem?_eq_some_iff.mp e).1
  have ea : as[i]? = some as[i] := List.getElem?_eq_getElem hi
  obtain ⟨k1, k2⟩ := h.row i _ r ea e
  refine ⟨as[i], ea, ?_, k1, k2⟩
  rw [List.getElem?_map, ea]
  rfl
theorem RowsAt.same {H0 H H' : Hp} {R : Addr} {as : List Addr} {rss : List (List Int)} (h : RowsAt H0 H R as rss) (s : Same H H') : RowsAt H0 H' R as rss :=
  ⟨s _ _ h.top, h.new, h.len, h.nd, h.out, fun i a r e1 e2 => ⟨(h.row i a r e1 e2).1, s _ _ (h.row i a r e1 e2).2⟩⟩
/-- what stood ahead may change -/
theorem RowsAt.apart {H0 H H' : Hp} {R : Addr} {as : List Addr} {rss : List (List Int)} (h : RowsAt H0 H R as rss) (s : ∀ b o, H b = some o → H0 b = none → H' b = some o) : RowsAt H0 H' R as rss :=
  ⟨s _ _ h.top h.new, h.new, h.len, h.nd, h.out, fun i a r e1 e2 => ⟨(h.row i a r e1 e2).1, s _ _ (h.row i a r e1 e2).2 (h.row i a r e1 e2).1⟩⟩
theorem RowsAt.older {H0 H1 H : Hp} {R : Addr} {as : List Addr} {rss : List (List Int)} (h : RowsAt H1 H R as rss) (s : Same H0 H1) : RowsAt H0 H R as rss :=
  ⟨h.top, s.free h.new, h.len, h.nd, h.out, fun i a r e1 e2 => ⟨s.free (h.row i a r e1 e2).1, (h.row i a r e1 e2).2⟩⟩
/-- a row more -/
theorem RowsAt.more {H0 H : Hp} {R p : Addr} {as : List Addr} {rss : List (List Int)} {r : List Int} (h : RowsAt H0 H R as rss) (s : Same H0 H) (hp : H p = none) :
    RowsAt H0 (upd (upd H p (.lst (iL r))) R (.lst (as.map V.ref ++ [.ref p]))) R (as ++ [p]) (rss ++ [r]) := by
  have pR : R ≠ p := ne_of_none h.top hp
  have pas : p ∉ as := fun hm => by
    obtain ⟨i, hi, e⟩ := List.getElem_of_mem hm
    have e' : as[i]? = some p := by rw [List.getElem?_eq_getElem hi, e]
    have hi2 : i < rss.length := by rw [← h.len]; exact hi
    have q := (h.row i p rss[i] e' (List.getElem?_eq_getElem hi2)).2
    rw [hp] at q
    cases q
  refine ⟨by rw [upd_same, List.map_append]; rfl, h.new, by simp [h.len], List.nodup_append.mpr ⟨h.nd, by simp, fun x hx y hy e => ?_⟩, fun hm => ?_, fun i a r' e1 e2 => ?_⟩
  · rw [List.mem_singleton.mp hy] at e
    exact pas (e ▸ hx)
  · rcases List.mem_append.mp hm with k | k
    · exact h.out k
    · exact pR (List.mem_singleton.mp k)
  · by_cases hi : i < as.length
    · rw [List.getElem?_append_left hi] at e1
      rw [List.getElem?_append_left (by rw [← h.len]; exact hi)] at e2
      obtain ⟨k1, k2⟩ := h.row i a r' e1 e2
      have aR : a ≠ R := fun e => h.out (e ▸ List.mem_of_getElem? e1)
      have ap : a ≠ p := ne_of_none k2 hp
      exact ⟨k1, by rw [upd_ne aR, upd_ne ap]; exact k2⟩
    · have hi' : as.length ≤ i := Nat.le_of_not_lt hi
      rw [List.getElem?_append_right hi'] at e1
      rw [List.getElem?_append_right (by rw [← h.len]; exact hi')] at e2
      obtain ⟨e1a, e1b⟩ := List.getElem?_eq_some_iff.mp e1
      obtain ⟨e2a, e2b⟩ := List.getElem?_eq_some_iff.mp e2
      simp only [List.getElem_singleton] at e1b e2b
      subst e1b
      subst e2b
      exact ⟨s.free hp, by rw [upd_ne pR.symm, upd_same]⟩
/-- a row is written -/
theorem RowsAt.write {H0 H : Hp} {R a : Addr} {as : List Addr} {rss : List (List Int)} {i : Nat} {r : List Int} (h : RowsAt H0 H R as rss) (e : as[i]? = some a) : RowsAt H0 (upd H a (.lst (iL r))) R as (rss.set i r) := by
  have aR : R ≠ a := fun z => h.out (z ▸ List.mem_of_getElem? e)
  refine ⟨by rw [upd_ne aR]; exact h.top, h.new, by rw [h.len, List.length_set], h.nd, h.out, fun j b r' e1 e2 => ?_⟩
  by_cases hj : i = j
  · subst hj
    have eb : a = b := Option.some.inj (e.symm.trans e1)
    subst eb
    have hi : i < rss.length := by
      rw [← h.len]
      exact (List.getElem?_eq_some_iff.mp e).1
    rw [List.getElem?_set_self hi] at e2
    cases Option.some.inj e2
    exact ⟨(h.row i a rss[i] e (List.getElem?_eq_getElem hi)).1, upd_same⟩
  · rw [List.getElem?_set_ne hj] at e2
    have ab : b ≠ a := fun z => hj (nd_ix h.nd e (z ▸ e1))
    obtain ⟨k1, k2⟩ := h.row j b r' e1 e2
    exact ⟨k1, by rw [upd_ne ab]; exact k2⟩
theorem RowsAt.sameW {H0 H : Hp} {R a : Addr} {as : List Addr} {rss : List (List Int)} {i : Nat} {o : HO} (h : RowsAt H0 H R as rss) (s : Same H0 H) (e : as[i]? = some a) : Same H0 (upd H a o) := by
  have hi : i < rss.length := by
    rw [← h.len]
    exact (List.getElem?_eq_some_iff.mp e).1
  exact Same.write s (h.row i a rss[i] e (List.getElem?_eq_getElem hi)).1
end Fd
namespace Fd
open PySem PySem.Spec PyProof.Rows L2
open Sem (wp)
theorem mro_cb : mroOf (.type "itertools.combinations") = pure [.type "itertools.combinations", .type "object"] := by rw [mroOf_type]; kernel_rfl
theorem lookup_cb_new : typeLookup (.type "itertools.combinations") "__new__" = pure (some (.builtin "itertools.combinations.__new__")) := by rw [typeLookup_type, builtinLookup_eq_fast]; kernel_rfl
theorem slot_cb_init : Slot "itertools.combinations" "__init__" "object.__init__" :=
  .of (owner := "object") (n := "__init__") (by rw [typeLookup_type, builtinLookup_eq_fast]; kernel_rfl) (by decide +kernel) (by decide +kernel) (by decide +kernel)
    (by first | exact .inl (by decide +kernel) | exact .inr (by decide +kernel)) (by rw [isSubtype_type]; kernel_rfl)
theorem sub_cb : isSubtype (.type "itertools.combinations") (.type "itertools.combinations") = pure true := by rw [isSubtype_type]; kernel_rfl
theorem plain_cb : plainId "itertools.combinations.__new__" = true := by decide +kernel
theorem called_cb : TypeCalled "itertools.combinations" "itertools.combinations.__new__" "object.__init__" :=
  ⟨by decide +kernel, by decide +kernel, ⟨_, _, mro_cb⟩, madeBy_type mro_cb lookup_cb_new (by decide +kernel), plain_cb, sub_cb, slot_cb_init⟩
theorem typeCall_cb (a b : Value) : checkTypeCall "itertools.combinations" ⟨[a, b], []⟩ = pure () := by kernel_rfl
theorem newCall_cb (a b : Value) : checkBuiltinCall "itertools.combinations.__new__" ⟨[.type "itertools.combinations", a, b], []⟩ = pure () := by kernel_rfl
theorem entry_cb_new : entryFor table "itertools.combinations.__new__" = some Builtin.«itertools.combinations.__new__» := entryFor_of_tree (by kernel_rfl)
theorem slot_cb_iter : Slot "itertools.combinations" "__iter__" "itertools.combinations.__iter__" :=
  .of (owner := "itertools.combinations") (n := "__iter__") (by rw [typeLookup_type, builtinLookup_eq_fast]; kernel_rfl) (by decide +kernel) (by decide +kernel) (by decide +kernel)
    (by first | exact .inl (by decide +kernel) | exact .inr (by decide +kernel)) sub_cb
theorem slot_cb_next : Slot "itertools.combinations" "__next__" "itertools.combinations.__next__" :=
  .of (owner := "itertools.combinations") (n := "__next__") (by rw [typeLookup_type, builtinLookup_eq_fast]; kernel_rfl) (by decide +kernel) (by decide +kernel) (by decide +kernel)
    (by first | exact .inl (by decide +kernel) | exact .inr (by decide +kernel)) sub_cb
theorem entry_cb_iter : entryFor table "itertools.combinations.__iter__" = some Builtin.«dict_keyiterator.__iter__» :=
  entryFor_alias (id' := "dict_keyiterator.__iter__") (by kernel_rfl) (by first | rfl | decide +kernel | (unfold String.splitOn; simp +decide [String.splitOnAux])) (by decide +kernel) (by kernel_rfl)
theorem entry_cb_next : entryFor table "itertools.combinations.__next__" = some Builtin.«itertools.combinations.__next__» := entryFor_of_tree (by kernel_rfl)
theorem owner_cb : Manifest.owners.lookup (String.ofList ['s', 'n', 'o', 'i', 't', 'a', 'n', 'i', 'b', 'm', 'o', 'c', '.', 's', 'l', 'o', 'o', 't', 'r', 'e', 't', 'i'].reverse) = some Manifest.sig_itertools_combinations := by kernel_rfl
theorem args_cb_iter (a : Value) : argsOk "itertools.combinations.__iter__" ⟨[a], []⟩ := by
  unfold argsOk; rw [signature?_of (id := "itertools.combinations.__iter__") (n := ['_', '_', 'r', 'e', 't', 'i', '_', '_']) (o := ['s', 'n', 'o', 'i', 't', 'a', 'n', 'i', 'b', 'm', 'o', 'c', '.', 's', 'l', 'o', 'o', 't', 'r', 'e', 't', 'i']) (by kernel_rfl) owner_cb]; kernel_rfl
theorem args_cb_next (a : Value) : argsOk "itertools.combinations.__next__" ⟨[a], []⟩ := by
  unfold argsOk; rw [signature?_of (id := "itertools.combinations.__next__") (n := ['_', '_', 't', 'x', 'e', 'n', '_', '_']) (o := ['s', 'n', 'o', 'i', 't', 'a', 'n', 'i', 'b', 'm', 'o', 'c', '.', 's', 'l', 'o', 'o', 't', 'r', 'e', 't', 'i']) (by kernel_rfl) owner_cb]; kernel_rfl
theorem noDict_cb : typeHasDict (.type "itertools.combinations") = false := by decide +kernel
theorem noLen_cb : typeLookup (.type "itertools.combinations") "__len__" = pure none := by rw [typeLookup_type, builtinLookup_eq_fast]; kernel_rfl
theorem noHint_cb : typeLookup (.type "itertools.combinations") "__length_hint__" = pure none := by rw [typeLookup_type, builtinLookup_eq_fast]; kernel_rfl
/-- a walk over the pairs: the pool, how far it is, what it told last, and where it stands -/
abbrev IsCb (h : Heap) (it p : Addr) (st : Int) (last : Value) (i j : Nat) : Prop := h.get? it = some { cls := .type "itertools.combinations", dict := none, data := .fields #[.ref p, rawInt st, last, rawInt i, rawInt j], slots := #[] }
section
variable {prog : Program} {w : World} {A : Around} {E : Value → Shared → Prop} {s : Shared}
theorem cls_cb (a b : Value) : Builtin.Itertools.itClassAndRest "combinations" ⟨[.type "itertools.combinations", a, b], []⟩ = pure (.type "itertools.combinations", [a, b]) := by
  unfold Builtin.Itertools.itClassAndRest
  have e : ("itertools." ++ "combinations" : String) = "itertools.combinations" := by decide +kernel
  simp only [isType, e, sub_cb, pure_bind, Bool.not_true, Bool.false_eq_true, if_false]
theorem named_cb (a b : Value) : Builtin.Itertools.itBindNamed "combinations" ["iterable", "r"] 2 2 [a, b] [] = pure [some a, some b] := by
  unfold Builtin.Itertools.itBindNamed
  kernel_rfl
end
end Fd
namespace Fd
open PySem PySem.Spec PyProof.Rows L2
open Sem (wp)
section
variable {prog : Program} {w : World} {A : Around} {E : Value → Shared → Prop} {s : Shared} {v0 v1 v2 v3 v4 : Value}
theorem code_cb_new {l : Addr} {t : Tok} {Q₁ : Value → Shared → Prop} (hl : s.heap.IsList l #[v0, v1, v2, v3, v4])
    (h : ∀ (h1 h' : Heap), (∀ b o, s.heap.get? b = some o → h1.get? b = some o) → (∀ b o, h1.get? b = some o → h'.get? b = some o) → IsCb h' (h1.objs.size + 1) h1.objs.size 0 .none 0 1 → IsTup h' h1.objs.size #[v0, v1, v2, v3, v4] → Q₁ (.ref (h1.objs.size + 1)) { s with heap := h' }) :
    codeAny (model prog w) A (.call (.builtin "itertools.combinations.__new__") ⟨[.type "itertools.combinations", .ref l, .int 2 t], []⟩) (wants Q₁ E) s := by
  refine codeAny_of_tree ?_
  show wpAny _ A.in1 (do checkBuiltinCall "itertools.combinations.__new__" ⟨[.type "itertools.combinations", .ref l, .int 2 t], []⟩; again (.builtin "itertools.combinations.__new__" ⟨[.type "itertools.combinations", .ref l, .int 2 t], []⟩)) _ _ s
  refine wpAny_bind (wpAny_of_eq (newCall_cb _ _) (wpAny_pure ⟨plainId_quiet plain_cb _, codeAny_builtin entry_cb_new ?_⟩))
  rw [Around.under_plainId plain_cb _]
  obtain ⟨o, ho, hc, n, hd⟩ := id hl
  unfold Builtin.«itertools.combinations.__new__»
  refine wpAny_bind ?_
  wp_delta
  refine wpAny_bind (wpAny_of_eq (cls_cb _ _) ?_)
  try dsimp only
  refine wpAny_bind (wpAny_of_eq (named_cb _ _) ?_)
  try dsimp only
  refine wpAny_bind (wpAny_of_eq (a := (2 : Int)) (by kernel_rfl) ?_)
  refine wpAny_bind (wpAny_collect_seq l (.inl rfl) ho hc hd (fun h1 k1 => ?_) (by show 5 ≤ sizeLine; decide))
  rw [if_neg (by decide), if_neg (by decide)]
  refine wpAny_bind (wpAny_newTuple ?_ (by show 5 ≤ sizeLine; decide))
  refine wpAny_pure ?_
  refine wpAny_bind ?_
  unfold Builtin.Itertools.itNewRecord
  rw [noDict_cb, if_pos (show (!false) = true from rfl)]
  refine wpAny_newObj_type ?_ (by show 5 ≤ sizeLine + 2; decide)
  refine wpAny_pure ?_
  have k2 : ∀ b o, h1.get? b = some o → ((h1.push { cls := .type "tuple", data := .seq #[v0, v1, v2, v3, v4] }).push { cls := .type "itertools.combinations", data := .fields #[.ref h1.objs.size, rawInt 0, .none, rawInt 0, rawInt 1] }).get? b = some o := fun b o e => Heap.get?_push_of_some _ (Heap.get?_push_of_some _ e)
  have eS : (h1.push { cls := .type "tuple", data := .seq #[v0, v1, v2, v3, v4] }).objs.size = h1.objs.size + 1 := by simp
  have z := h h1 _ k1 k2 (by rw [← eS]; exact Heap.get?_push_size _ rfl) ⟨_, Heap.get?_push_of_some _ (Heap.get?_push_size _ rfl), rfl, _, rfl⟩
  rw [← eS] at z
  exact z
end
end Fd
namespace Fd
open PySem PySem.Spec PyProof.Rows L2
open Sem (wp)
/-- how far the walk over the pairs of five is -/
inductive CbSt : Nat → Int → Nat → Nat → Prop
  | s0 : CbSt 0 0 0 1 | s1 : CbSt 1 1 0 1 | s2 : CbSt 2 1 0 2 | s3 : CbSt 3 1 0 3 | s4 : CbSt 4 1 0 4 | s5 : CbSt 5 1 1 2
  | s6 : CbSt 6 1 1 3 | s7 : CbSt 7 1 1 4 | s8 : CbSt 8 1 2 3 | s9 : CbSt 9 1 2 4 | s10 : CbSt 10 1 3 4
def cbL : List (Nat × Nat) := [(0, 1), (0, 2), (0, 3), (0, 4), (1, 2), (1, 3), (1, 4), (2, 3), (2, 4), (3, 4)]
section
variable {prog : Program} {w : World} {A : Around} {E : Value → Shared → Prop} {s : Shared} {v0 v1 v2 v3 v4 : Value}
set_option maxHeartbeats 4000000 in
theorem cb_item {it p : Addr} {k : Nat} {st : Int} {last : Value} {i j : Nat} {Q : Option Value → Shared → Prop} (c : CbSt k st i j) (hk : k < 10) (hit : IsCb s.heap it p st last i j) (hp : IsTup s.heap p #[v0, v1, v2, v3, v4]) (hne : p ≠ it)
    (hQ : ∀ (h' : Heap) (i' j' : Nat), CbSt (k + 1) 1 i' j' → cbL[k]? = some (i', j') → IsCb h' it p 1 (.ref s.heap.objs.size) i' j' → h'.objs.size = s.heap.objs.size + 1 → (∀ b o, b ≠ it → s.heap.get? b = some o → h'.get? b = some o) →
      IsTup h' s.heap.objs.size #[[v0, v1, v2, v3, v4].getD i' .none, [v0, v1, v2, v3, v4].getD j' .none] → Q (some (.ref s.heap.objs.size)) { s with heap := h' }) : wpAny (model prog w) A (pyNext (.ref it)) Q E s := by
  have hT : s.TypeIs (.ref it) "itertools.combinations" := ⟨_, hit, rfl⟩
  unfold pyNext
  refine wpAny_bind (wpAny_attempt (wpAny_callSpecial?_slot (name := Str.ofString "__next__") hT slot_cb_next (wpAny_call_entry slot_cb_next hT entry_cb_next ?_ (args_cb_next _))))
  unfold Builtin.«itertools.combinations.__next__»
  wp_delta
  refine wpAny_bind (wpAny_of_eq (a := (Value.ref it, [])) rfl ?_)
  try dsimp only
  refine wpAny_bind (wpAny_field hit rfl (x := .ref p) rfl ?_)
  try dsimp only
  unfold Builtin.Itertools.itNumbersFrom
  refine wpAny_bind (wpAny_bind (wpAny_load hit (wpAny_pure ?_)))
  try dsimp only
  refine wpAny_bind ?_
  unfold Builtin.Itertools.itIntField
  refine wpAny_bind (wpAny_field hit rfl (x := rawInt st) rfl (wpAny_pure ?_))
  obtain ⟨op, hop, hcp, np, hdp⟩ := id hp
  cases c
  case s10 => exact absurd hk (by decide)
  case s0 =>
    show wpAny _ _ (setField (.ref it) 1 (rawInt 1) >>= _) _ _ _
    refine wpAny_bind (wpAny_setField hit rfl (by show 1 < 5; decide) ?_)
    refine wpAny_bind ?_
    wp_delta
    refine wpAny_bind ?_
    refine wpAny_bind (wpAny_seqItems ((Heap.get?_update_other _ _ (Ne.symm hne)).trans hop) hdp (wpAny_pure ?_))
    refine wpAny_newTuple ?_ (by show 2 ≤ sizeLine; decide)
    refine wpAny_bind (wpAny_field (Heap.get?_push_of_some _ (Heap.get?_update_self _ hit rfl)) rfl (x := last) rfl ?_)
    refine wpAny_bind (wpAny_setField (Heap.get?_push_of_some _ (Heap.get?_update_self _ hit rfl)) rfl (by show 2 < 5; decide) ?_)
    refine wpAny_bind (wpAny_letGo ?_)
    have esz : ∀ f : Obj → Obj, (s.heap.update it f).objs.size = s.heap.objs.size := fun f => by simp
    have hlt := Heap.lt_size hit
    refine wpAny_pure ⟨_, rfl, wpAny_pure ?_⟩
    rw [esz]
    refine hQ _ _ _ (by constructor) rfl (Heap.get?_update_self _ (Heap.get?_push_of_some _ (Heap.get?_update_self _ hit rfl)) rfl) (by simp) (fun b o hb e => (Heap.get?_update_other _ _ (Ne.symm hb)).trans (Heap.get?_push_of_some _ ((Heap.get?_update_other _ _ (Ne.symm hb)).trans e))) ?_
    have e2 : ∀ (f : Obj → Obj) (o : Obj), o.isFreed = false → ((s.heap.update it f).push o).get? s.heap.objs.size = some o := fun f o ho => by
      have z := Heap.get?_push_size (s.heap.update it f) ho
      rw [esz] at z
      exact z
    exact ⟨_, (Heap.get?_update_other _ _ (Nat.ne_of_lt hlt)).trans (e2 _ _ rfl), rfl, _, rfl⟩
  all_goals
    show wpAny _ _ (Builtin.Itertools.itPoolItems (.ref p) >>= _) _ _ _
    refine wpAny_bind ?_
    unfold Builtin.Itertools.itPoolItems
    refine wpAny_bind (wpAny_seqItems hop hdp (wpAny_pure ?_))
    show wpAny _ _ (Builtin.Itertools.itSetNumbersFrom (.ref it) 3 _ >>= _) _ _ _
    refine wpAny_bind ?_
    unfold Builtin.Itertools.itSetNumbersFrom
    refine wpAny_updateFields hit rfl ?_ (by show 5 ≤ _; decide)
    refine wpAny_bind ?_
    wp_delta
    refine wpAny_bind ?_
    refine wpAny_bind (wpAny_seqItems ((Heap.get?_update_other _ _ (Ne.symm hne)).trans hop) hdp (wpAny_pure ?_))
    refine wpAny_newTuple ?_ (by show 2 ≤ sizeLine; decide)
    refine wpAny_bind (wpAny_field (Heap.get?_push_of_some _ (Heap.get?_update_self _ hit rfl)) rfl (x := last) rfl ?_)
    refine wpAny_bind (wpAny_setField (Heap.get?_push_of_some _ (Heap.get?_update_self _ hit rfl)) rfl (by show 2 < 5; decide) ?_)
    refine wpAny_bind (wpAny_letGo ?_)
    have esz : ∀ f : Obj → Obj, (s.heap.update it f).objs.size = s.heap.objs.size := fun f => by simp
    have hlt := Heap.lt_size hit
    refine wpAny_pure ⟨_, rfl, wpAny_pure ?_⟩
    rw [esz]
    refine hQ _ _ _ (by constructor) rfl (Heap.get?_update_self _ (Heap.get?_push_of_some _ (Heap.get?_update_self _ hit rfl)) rfl) (by simp) (fun b o hb e => (Heap.get?_update_other _ _ (Ne.symm hb)).trans (Heap.get?_push_of_some _ ((Heap.get?_update_other _ _ (Ne.symm hb)).trans e))) ?_
    have e2 : ∀ (f : Obj → Obj) (o : Obj), o.isFreed = false → ((s.heap.update it f).push o).get? s.heap.objs.size = some o := fun f o ho => by
      have z := Heap.get?_push_size (s.heap.update it f) ho
      rw [esz] at z
      exact z
    exact ⟨_, (Heap.get?_update_other _ _ (Nat.ne_of_lt hlt)).trans (e2 _ _ rfl), rfl, _, rfl⟩
end
end Fd
namespace Fd
open PySem PySem.Spec PyProof.Rows L2
open Sem (wp)
section
variable {prog : Program} {w : World} {A : Around} {E : Value → Shared → Prop} {s : Shared} {v0 v1 v2 v3 v4 : Value}
theorem cb_done {it p : Addr} {last : Value} {Q : Option Value → Shared → Prop} (hh : A.handled = none) (hit : IsCb s.heap it p 1 last 3 4) (hp : IsTup s.heap p #[v0, v1, v2, v3, v4])
    (hQ : ∀ h', Heap.ExtBut it s.heap h' → Q none { s with heap := h' }) : wpAny (model prog w) A (pyNext (.ref it)) Q E s := by
  have hT : s.TypeIs (.ref it) "itertools.combinations" := ⟨_, hit, rfl⟩
  unfold pyNext
  refine wpAny_bind (wpAny_attempt (wpAny_callSpecial?_slot (name := Str.ofString "__next__") hT slot_cb_next (wpAny_call_entry slot_cb_next hT entry_cb_next ?_ (args_cb_next _))))
  unfold Builtin.«itertools.combinations.__next__»
  wp_delta
  refine wpAny_bind (wpAny_of_eq (a := (Value.ref it, [])) rfl ?_)
  try dsimp only
  refine wpAny_bind (wpAny_field hit rfl (x := .ref p) rfl ?_)
  try dsimp only
  unfold Builtin.Itertools.itNumbersFrom
  refine wpAny_bind (wpAny_bind (wpAny_load hit (wpAny_pure ?_)))
  try dsimp only
  refine wpAny_bind ?_
  unfold Builtin.Itertools.itIntField
  refine wpAny_bind (wpAny_field hit rfl (x := rawInt 1) rfl (wpAny_pure ?_))
  obtain ⟨op, hop, hcp, np, hdp⟩ := id hp
  show wpAny _ _ (Builtin.Itertools.itPoolItems (.ref p) >>= _) _ _ _
  refine wpAny_bind ?_
  unfold Builtin.Itertools.itPoolItems
  refine wpAny_bind (wpAny_seqItems hop hdp (wpAny_pure ?_))
  show wpAny _ _ (setField (.ref it) 1 (rawInt 2) >>= _) _ _ _
  refine wpAny_bind (wpAny_setField hit rfl (by show 1 < 5; decide) ?_)
  show wpAny _ _ (newExc (.type "StopIteration") [] >>= _) _ _ _
  refine wpAny_bind ?_
  simp only [newExc, newTuple]
  refine wpAny_bind (wpAny_newObj_type ?_ (by size_fits))
  refine wpAny_bind (m := firstArgMember _ _) (wpAny_of_eq (a := Value.none) (by first | rfl | (simp only [firstArgMember]; rfl)) ?_)
  refine wpAny_newObj_type ?_ (by size_fits)
  simp only [raiseNew]
  refine wpAny_bind (wpAny_handled ?_)
  first | rw [show A.in1.handled = none from hh] | rw [hh]
  refine wpAny_bind (wpAny_pure (wpAny_throw ?_))
  refine wpAny_bind (wpAny_isInstance (T := "StopIteration") (b := true) ⟨_, Heap.get?_push_size _ rfl, rfl⟩ isSubtype_stop ?_)
  refine wpAny_pure (hQ _ ?_)
  refine ((?_ : Heap.ExtBut it s.heap _).push _).push _
  exact fun b ob hb e => (Heap.get?_update_other _ _ (Ne.symm hb)).trans e
theorem iter_cb {it : Addr} {Q : Value → Shared → Prop} (hT : s.TypeIs (.ref it) "itertools.combinations") (h : Q (.ref it) s) : wpAny (model prog w) A (pyIter (.ref it)) Q E s := by
  refine wpAny_pyIter_slot hT slot_cb_iter (wpAny_call_entry slot_cb_iter hT entry_cb_iter ?_ (args_cb_iter _))
  show wpAny _ _ (ret (.ref it)) _ _ s
  exact wpAny_pure ⟨_, rfl, "itertools.combinations", _, hT, slot_cb_next.lookup, h⟩
/-- the tuples told so far -/
def CbTold (h : Heap) (v0 v1 v2 v3 v4 : Value) (lo : Nat) (as : List Addr) : Prop :=
  (∀ a ∈ as, lo ≤ a) ∧ as.Nodup ∧ ∀ (m : Nat) (a : Addr), as[m]? = some a → ∃ i j, cbL[m]? = some (i, j) ∧ IsTup h a #[[v0, v1, v2, v3, v4].getD i .none, [v0, v1, v2, v3, v4].getD j .none]
theorem CbTold.keep {h h' : Heap} {lo : Nat} {as : List Addr} (t : CbTold h v0 v1 v2 v3 v4 lo as) (k : ∀ b o, lo ≤ b → h.get? b = some o → h'.get? b = some o) : CbTold h' v0 v1 v2 v3 v4 lo as := by
  obtain ⟨t1, t2, t3⟩ := t
  refine ⟨t1, t2, fun m a e => ?_⟩
  obtain ⟨i, j, e1, o, ho, r⟩ := t3 m a e
  exact ⟨i, j, e1, o, k _ _ (t1 a (List.mem_of_getElem? e)) ho, r⟩
theorem CbTold.push {h : Heap} {lo : Nat} {as : List Addr} {t i j : Nat} (T : CbTold h v0 v1 v2 v3 v4 lo as) (hl : lo ≤ t) (nt : t ∉ as) (e : cbL[as.length]? = some (i, j)) (ht : IsTup h t #[[v0, v1, v2, v3, v4].getD i .none, [v0, v1, v2, v3, v4].getD j .none]) : CbTold h v0 v1 v2 v3 v4 lo (as ++ [t]) := by
  obtain ⟨t1, t2, t3⟩ := T
  refine ⟨fun a ha => ?_, List.nodup_append.mpr ⟨t2, by simp, fun x hx y hy e => ?_⟩, fun m a e2 => ?_⟩
  · rcases List.mem_append.mp ha with z | z
    · exact t1 a z
    · rw [List.mem_singleton.mp z]
      exact hl
  · rw [List.mem_singleton.mp hy] at e
    exact nt (e ▸ hx)
  · by_cases hm : m < as.length
    · rw [List.getElem?_append_left hm] at e2
      exact t3 m a e2
    · have hm' : as.length ≤ m := Nat.le_of_not_lt hm
      rw [List.getElem?_append_right hm'] at e2
      obtain ⟨b1, b2⟩ := List.getElem?_eq_some_iff.mp e2
      simp only [List.length_singleton] at b1
      have em : m = as.length := by omega
      subst em
      simp only [List.getElem_singleton] at b2
      subst b2
      exact ⟨i, j, e, ht⟩
theorem drain_cb {R : Result → Shared → Prop} {S it p : Addr} (res : Value) (hh : A.handled = none) (hSi : S ≠ it) (hSp : S ≠ p) (hpi : p ≠ it) (lo : Nat) (hSl : S < lo) (hil : it < lo) :
    ∀ (n k : Nat) (s : Shared) (st : Int) (i j : Nat) (last : Value) (as : List Addr) (c : Nat), n + k = 10 → CbSt k st i j → IsCb s.heap it p st last i j → IsTup s.heap p #[v0, v1, v2, v3, v4] → lo ≤ s.heap.objs.size →
      s.heap.get? S = some { cls := .type "list", dict := none, data := .seq (as.map Value.ref).toArray c, slots := #[] } → as.length = k → CbTold s.heap v0 v1 v2 v3 v4 lo as →
      (∀ (h' : Heap) (as' : List Addr) (c' : Nat), (∀ b o, b ≠ S → b ≠ it → s.heap.get? b = some o → h'.get? b = some o) → h'.get? S = some { cls := .type "list", dict := none, data := .seq (as'.map Value.ref).toArray c', slots := #[] } → as'.length = 10 → CbTold h' v0 v1 v2 v3 v4 lo as' → R (.ok (.ret res)) { s with heap := h' }) →
      codeAny (model prog w) A (.builtin "list.extend.loop" ⟨[.ref S, .ref it, res], []⟩) R s := by
  intro n
  induction n with
  | zero =>
    intro k s st i j last as c hk cs hit hp hlo hS hl told hR
    refine codeAny_builtin F.entry_extend_loop ?_
    rw [Around.under_plainId F.plain_extend_loop _]
    show wpAny _ A.in1 (pyNext (.ref it) >>= _) _ _ s
    have ek : k = 10 := by omega
    subst ek
    cases cs
    refine wpAny_bind (cb_done hh hit hp fun h' ex => ?_)
    exact wpAny_pure (hR h' as c (fun b o _ hb e => ex b o hb e) (ex _ _ hSi hS) hl (told.keep fun b o hb e => ex b o (Nat.ne_of_gt (Nat.lt_of_lt_of_le hil hb)) e))
  | succ n ih =>
    intro k s st i j last as c hk cs hit hp hlo hS hl told hR
    refine codeAny_builtin F.entry_extend_loop ?_
    rw [Around.under_plainId F.plain_extend_loop _]
    show wpAny _ A.in1 (pyNext (.ref it) >>= _) _ _ s
    refine wpAny_bind (cb_item cs (by omega) hit hp hpi fun h' i' j' cs' eL hit' hsz kp ht => ?_)
    have hS' := kp _ _ hSi hS
    have hlt := Heap.lt_size hS
    show wpAny _ A.in1 (updateSeq S (·.push (.ref s.heap.objs.size)) >>= _) _ _ _
    refine wpAny_bind ?_
    have asz : (as.map Value.ref).toArray.size = k := by rw [List.size_toArray, List.length_map, hl]
    have nt : s.heap.objs.size ∉ as := fun hm => by
      obtain ⟨m, hm2⟩ := List.mem_iff_getElem?.mp hm
      obtain ⟨_, _, _, o, ho, _⟩ := told.2.2 m _ hm2
      exact Nat.lt_irrefl _ (Heap.lt_size ho)
    refine wpAny_updateSeq hS' rfl (wpAny_pure ⟨plainId_quiet F.plain_extend_loop _, ?_⟩) (by rw [asz]; exact smalle (by omega)) (by show (Array.push _ _).size ≤ sizeLine + 1; rw [Array.size_push, asz]; exact Nat.le_succ_of_le (smalle (by omega)))
    have kp2 : ∀ b o, b ≠ S → h'.get? b = some o → (h'.update S (Obj.mapSeq (·.push (.ref s.heap.objs.size)))).get? b = some o := fun b o hb e => (Heap.get?_update_other _ _ (Ne.symm hb)).trans e
    obtain ⟨c2, eS⟩ : ∃ c2, (h'.update S (Obj.mapSeq (·.push (.ref s.heap.objs.size)))).get? S = some { cls := .type "list", dict := none, data := .seq ((as ++ [s.heap.objs.size]).map Value.ref).toArray c2, slots := #[] } := by
      have e : ((as ++ [s.heap.objs.size]).map Value.ref).toArray = (as.map Value.ref).toArray.push (.ref s.heap.objs.size) := by simp
      rw [e, Heap.get?_update_self (Obj.mapSeq (·.push (.ref s.heap.objs.size))) hS' rfl]
      exact ⟨_, rfl⟩
    refine ih (k + 1) _ 1 i' j' _ (as ++ [s.heap.objs.size]) _ (by omega) cs' (kp2 _ _ hSi.symm hit') ?_ ?_ eS (by rw [List.length_append, hl]; rfl) ?_ ?_
    · obtain ⟨o, ho, r⟩ := hp
      exact ⟨o, kp2 _ _ hSp.symm (kp _ _ hpi ho), r⟩
    · show lo ≤ (h'.update S _).objs.size
      rw [Heap.size_update, hsz]
      omega
    · refine CbTold.push (told.keep fun b o hb e => kp2 _ _ (Nat.ne_of_gt (Nat.lt_of_lt_of_le hSl hb)) (kp _ _ (Nat.ne_of_gt (Nat.lt_of_lt_of_le hil hb)) e)) hlo nt (by rw [hl]; exact eL) ?_
      obtain ⟨o, ho, r⟩ := ht
      exact ⟨o, kp2 _ _ (Nat.ne_of_gt hlt) ho, r⟩
    · intro h2 as2 c2 k2 e2 l2 t2
      exact hR h2 as2 c2 (fun b o hb1 hb2 e => k2 b o hb1 hb2 (kp2 _ _ hb1 (kp _ _ hb2 e))) e2 l2 t2
end
end Fd
namespace Fd
open PySem PySem.Spec PyProof.Rows L2
open Sem (wp)
section
variable {prog : Program} {w : World} {A : Around} {E : Value → Shared → Prop} {s : Shared} {v0 v1 v2 v3 v4 : Value}
theorem call_cb {l : Addr} {t : Tok} {Q : Value → Shared → Prop} (hl : s.heap.IsList l #[v0, v1, v2, v3, v4])
    (h : ∀ (h1 h' : Heap), (∀ b o, s.heap.get? b = some o → h1.get? b = some o) → (∀ b o, h1.get? b = some o → h'.get? b = some o) → IsCb h' (h1.objs.size + 1) h1.objs.size 0 .none 0 1 → IsTup h' h1.objs.size #[v0, v1, v2, v3, v4] → Q (.ref (h1.objs.size + 1)) { s with heap := h' }) :
    wpAny (model prog w) A (call (.type "itertools.combinations") [.ref l, .int 2 t]) Q E s := by
  refine callType_codes (Q₁ := fun obj s₁ => s₁.TypeIs obj "itertools.combinations" ∧ Q obj s₁) called_cb (typeCall_cb _ _) F.entry_object_init
    (code_cb_new (A := A.in1) hl fun h1 h' k1 k2 c p => ⟨⟨_, c, rfl⟩, h h1 h' k1 k2 c p⟩) fun obj s₁ h₁ => ?_
  exact ⟨h₁.1, F.args_object_init_3 obj _ _, object_init_meets called_cb.init.lookup called_cb.made (by decide) prog w A.in1 _ s₁ ⟨h₁.1, rfl, h₁.2⟩⟩
theorem call_list_cb {it p : Addr} {Q : Value → Shared → Prop} (hh : A.handled = none) (hit : IsCb s.heap it p 0 .none 0 1) (hp : IsTup s.heap p #[v0, v1, v2, v3, v4]) (hpi : p ≠ it)
    (hQ : ∀ (h' : Heap) (as : List Addr) (c' : Nat), (∀ b o, b ≠ it → s.heap.get? b = some o → h'.get? b = some o) → h'.get? s.heap.objs.size = some { cls := .type "list", dict := none, data := .seq (as.map Value.ref).toArray c', slots := #[] } → as.length = 10 →
      CbTold h' v0 v1 v2 v3 v4 (s.heap.objs.size + 1) as → Q (.ref s.heap.objs.size) { s with heap := h' }) :
    wpAny (model prog w) A (call (.type "list") [.ref it]) Q E s := by
  have hSi : s.heap.objs.size ≠ it := Nat.ne_of_gt (Heap.lt_size hit)
  obtain ⟨op, hop, rp⟩ := id hp
  have hSp : s.heap.objs.size ≠ p := Nat.ne_of_gt (Heap.lt_size hop)
  refine callType_codes (Q₁ := fun obj s₁ => obj = .ref s.heap.objs.size ∧ s₁ = { s with heap := s.heap.push { cls := .type "list", data := .seq #[] } }) F.called_list (F.typeCall_list_1 _) F.entry_list_init
    (code_list_new _ ⟨rfl, rfl⟩) fun obj s₁ h₁ => ?_
  obtain ⟨rfl, rfl⟩ := h₁
  have hS : (s.heap.push { cls := .type "list", data := .seq #[] }).get? s.heap.objs.size = some { cls := .type "list", data := .seq #[] } := Heap.get?_push_size _ rfl
  refine ⟨⟨_, hS, rfl⟩, F.args_list_init_2 _ _, ?_⟩
  show wpAny _ A.in1.in1 (do let old ← Builtin.List.listItems (.ref s.heap.objs.size); Builtin.List.listUpdate (.ref s.heap.objs.size) (fun _ => #[]); letGo old.toList.reverse; Builtin.List.listExtendWith (.ref s.heap.objs.size) (.ref it) .none) _ _ _
  refine wpAny_bind ?_
  unfold Builtin.List.listItems
  refine wpAny_bind (wpAny_seqItems hS rfl (wpAny_pure ?_))
  show wpAny _ A.in1.in1 (updateSeq s.heap.objs.size (fun _ => #[]) >>= fun _ => letGo (#[] : Array Value).toList.reverse >>= fun _ => Builtin.List.listExtendWith (.ref s.heap.objs.size) (.ref it) .none) _ _ _
  refine wpAny_bind (wpAny_updateSeq hS rfl ?_)
  have hS2 := Heap.get?_update_self (Obj.mapSeq (fun _ => (#[] : Array Value))) hS rfl
  refine wpAny_bind (wpAny_letGo ?_)
  unfold Builtin.List.listExtendWith
  have up : ∀ (h : Heap) (f : Obj → Obj), (∀ b o, s.heap.get? b = some o → h.get? b = some o) → ∀ b o, s.heap.get? b = some o → (h.update s.heap.objs.size f).get? b = some o := fun h f q b o e =>
    (Heap.get?_update_other _ _ (Ne.symm (Nat.ne_of_lt (Heap.lt_size e)))).trans (q b o e)
  have k1 : ∀ b o, s.heap.get? b = some o → (s.heap.push { cls := .type "list", data := .seq #[] }).get? b = some o := fun b o e => Heap.get?_push_of_some _ e
  have k2 := up _ (Obj.mapSeq (fun _ => (#[] : Array Value))) k1
  have ty : ∀ {h : Heap}, (∀ b o, s.heap.get? b = some o → h.get? b = some o) → ({ s with heap := h } : Shared).TypeIs (.ref it) "itertools.combinations" := fun {h} q => ⟨_, q _ _ hit, rfl⟩
  refine wpAny_bind (wpAny_typeOf (ty k2) ?_)
  have h1 : Builtin.List.listSameRef (.ref s.heap.objs.size) (.ref it) = false := by simp [Builtin.List.listSameRef, hSi]
  have h2 : (Value.type "itertools.combinations" == Value.type "list") = false := by decide
  have h3 : (Value.type "itertools.combinations" == Value.type "tuple") = false := by decide
  simp only [h1, h2, h3, Bool.or_false, Bool.false_eq_true, if_false]
  refine wpAny_bind (iter_cb (s := { s with heap := _ }) (ty k2) ?_)
  refine wpAny_bind (wpAny_holding ?_)
  unfold Builtin.List.listLengthHint
  refine wpAny_bind (wpAny_specialOf (ty k2) noLen_cb ?_)
  show wpAny _ A.in1.in1 (specialOf (Value.ref it) (Str.ofString "__length_hint__") >>= _) _ _ _
  refine wpAny_bind (wpAny_specialOf (ty k2) noHint_cb ?_)
  refine wpAny_pure ?_
  show wpAny _ A.in1.in1 (rule "list.extend.makes-room" >>= fun _ => Builtin.List.listTouch (.ref s.heap.objs.size) >>= fun _ =>
    again (.builtin "list.extend.loop" ⟨[.ref s.heap.objs.size, .ref it, .none], []⟩)) _ _ _
  refine wpAny_bind (wpAny_rule ?_)
  refine wpAny_bind ?_
  show wpAny _ A.in1.in1 (updateSeq s.heap.objs.size (·.push .none) >>= fun _ => updateSeq s.heap.objs.size (·.pop)) _ _ _
  refine wpAny_bind (wpAny_updateSeq hS2 rfl ?_)
  have hS3 := Heap.get?_update_self (Obj.mapSeq (·.push Value.none)) hS2 rfl
  refine wpAny_updateSeq (hz := by seq_fits) hS3 rfl ?_
  have hS4 := Heap.get?_update_self (Obj.mapSeq (·.pop)) hS3 rfl
  have k4 := up _ (Obj.mapSeq (·.pop)) (up _ (Obj.mapSeq (·.push Value.none)) k2)
  refine wpAny_pure ⟨plainId_quiet F.plain_extend_loop _, ?_⟩
  refine drain_cb (A := A.in1) (S := s.heap.objs.size) .none hh hSi hSp hpi (s.heap.objs.size + 1) (Nat.lt_succ_self _) (Nat.lt_succ_of_lt (Heap.lt_size hit)) 10 0 _ 0 0 1 .none [] _ rfl .s0 (k4 _ _ hit) ⟨op, k4 _ _ hop, rp⟩ ?_ hS4 rfl ⟨fun a ha => by (cases ha), .nil, fun m a e => by simp at e⟩ fun h' as c' kk eS el et => ?_
  · show _ ≤ (Heap.update _ _ _).objs.size
    simp only [Heap.size_update, Heap.size_push]
    exact Nat.le_refl _
  · exact ⟨rfl, hQ h' as c' (fun b o hb e => kk b o (Nat.ne_of_lt (Heap.lt_size e)) hb (k4 b o e)) eS el et⟩
end
end Fd
namespace Fd
open PySem PySem.Spec PyProof.Rows L2
open Sem (wp)
/-- tuples tracked at their addresses -/
def putP : Hp → List Addr → List (V × V) → Hp
  | H, a :: as, p :: ps => putP (upd H a (.tup [p.1, p.2])) as ps
  | H, _, _ => H
theorem putP_off {b : Addr} : ∀ (as : List Addr) (ps : List (V × V)) (H : Hp), b ∉ as → putP H as ps b = H b
  | [], _, _, _ => rfl
  | _ :: _, [], _, _ => rfl
  | a :: as, p :: ps, H, h => by
    show putP (upd H a (.tup [p.1, p.2])) as ps b = H b
    rw [putP_off as ps _ (fun z => h (List.mem_cons_of_mem _ z)), upd_ne (fun z => h (by rw [z]; exact List.mem_cons_self))]
theorem putP_at : ∀ (as : List Addr) (ps : List (V × V)) (H : Hp), as.length = ps.length → as.Nodup → Paired (fun (t : Addr) (p : V × V) => putP H as ps t = some (.tup [p.1, p.2])) as ps
  | [], [], _, _, _ => .nil
  | [], _ :: _, _, h, _ => by cases h
  | _ :: _, [], _, h, _ => by cases h
  | a :: as, p :: ps, H, h, hn => by
    have hn' := List.nodup_cons.mp hn
    have ih := putP_at as ps (upd H a (.tup [p.1, p.2])) (Nat.succ.inj h) hn'.2
    refine .cons ?_ ih
    show putP (upd H a (.tup [p.1, p.2])) as ps a = some (.tup [p.1, p.2])
    rw [putP_off as ps _ hn'.1, upd_same]
def five (xs : List V) : List (V × V) := cbL.map fun c => (xs.getD c.1 .non, xs.getD c.2 .non)
theorem cb_laid {X : Cx} {pins : List (Addr × Obj)} {σ : L2.St} {H : Hp} {s : Shared} {h' : Heap} {tk S c : Nat} {as : List Addr} {x0 x1 x2 x3 x4 : V} {v0 v1 v2 v3 v4 : Value} (I : Inv X pins σ H s) (r0 : RelV x0 v0) (r1 : RelV x1 v1) (r2 : RelV x2 v2) (r3 : RelV x3 v3) (r4 : RelV x4 v4)
    (hk : ∀ b o, s.heap.get? b = some o → h'.get? b = some o) (hlo : s.heap.objs.size ≤ S) (hS : h'.get? S = some { cls := .type "list", dict := none, data := .seq (as.map Value.ref).toArray c, slots := #[] }) (el : as.length = 10) (told : CbTold h' v0 v1 v2 v3 v4 (S + 1) as) :
    ∃ H' : Hp, Same H H' ∧ H S = none ∧ H' S = some (.lst (as.map V.ref)) ∧ (∀ t ∈ as, H t = none) ∧ Paired (fun (t : Addr) (q : V × V) => H' t = some (.tup [q.1, q.2])) as (five [x0, x1, x2, x3, x4]) ∧ Inv X pins σ H' { s with heap := h', toks := tk } := by
  obtain ⟨t1, nd, t3⟩ := told
  have hSn : S ∉ as := fun z => by
    have := t1 _ z
    omega
  have new : ∀ t ∈ as, H t = none := fun t ht => I.hok.fresh (by have := t1 t ht; omega)
  have newS : H S = none := I.hok.fresh hlo
  have ln : as.length = (five [x0, x1, x2, x3, x4]).length := by rw [el]; rfl
  have atP := putP_at as (five [x0, x1, x2, x3, x4]) (upd H S (.lst (as.map V.ref))) ln nd
  have off : ∀ b, b ∉ as → b ≠ S → putP (upd H S (.lst (as.map V.ref))) as (five [x0, x1, x2, x3, x4]) b = H b := fun b h1 h2 => by rw [putP_off as _ _ h1, upd_ne h2]
  have low : ∀ b o, s.heap.get? b = some o → b ∉ as ∧ b ≠ S := fun b o e => by
    have l := Heap.lt_size e
    exact ⟨fun z => absurd (Nat.lt_of_lt_of_le l (Nat.le_trans hlo (Nat.le_of_succ_le (t1 b z)))) (Nat.lt_irrefl _), Nat.ne_of_lt (Nat.lt_of_lt_of_le l hlo)⟩
  have kp : ∀ b u, H b = some u → (putP (upd H S (.lst (as.map V.ref))) as (five [x0, x1, x2, x3, x4])) b = some u := fun b u e => by
    rw [off b (fun z => by rw [new b z] at e; cases e) (fun z => by rw [z, newS] at e; cases e)]
    exact e
  have eS : (putP (upd H S (.lst (as.map V.ref))) as (five [x0, x1, x2, x3, x4])) S = some (.lst (as.map V.ref)) := by rw [putP_off as _ _ hSn, upd_same]
  refine ⟨putP (upd H S (.lst (as.map V.ref))) as (five [x0, x1, x2, x3, x4]), kp, newS, eS, new, atP, ?_⟩
  refine I.call' (ch := []) rfl ⟨fun b o q _ _ _ => hk b o q, fun b o q _ _ _ => ⟨o.slots, hk b o q⟩, fun b o q n _ => ?_, fun b o q _ => ⟨o, hk b o q⟩, fun b xs q => kp b _ q, fun b o u q => kp b _ q, fun b ps q => ⟨#[], by rw [kp b _ q]; simp⟩⟩ (fun b u q => ?_) I.bare fun b z => by simp at z
  · obtain ⟨z1, z2⟩ := low b o q
    rw [off b z1 z2]
    exact n
  · by_cases hb : b ∈ as
    · obtain ⟨j, pk, e1, e2, e3⟩ := LiI.paired_ix atP hb
      rw [e3] at q
      cases q
      obtain ⟨i1, i2, f1, f2⟩ := t3 j b e1
      have e2' : pk = ([x0, x1, x2, x3, x4].getD i1 .non, [x0, x1, x2, x3, x4].getD i2 .non) := by
        unfold five at e2
        rw [List.getElem?_map, f1] at e2
        exact (Option.some.inj e2).symm
      have rel : ∀ i, RelV ([x0, x1, x2, x3, x4].getD i .non) ([v0, v1, v2, v3, v4].getD i .none) := fun i => by
        match i with
        | 0 => exact r0
        | 1 => exact r1
        | 2 => exact r2
        | 3 => exact r3
        | 4 => exact r4
        | n + 5 => exact rfl
      subst e2'
      exact ⟨by show 2 ≤ sizeLine; decide, [_, _], .cons (rel i1) (.cons (rel i2) .nil), f2⟩
    · by_cases hb2 : b = S
      · subst hb2
        rw [eS] at q
        cases q
        refine ⟨by rw [List.length_map, el]; exact smalle (by omega), as.map Value.ref, c, LiI.vals_refs as, ?_⟩
        exact hS
      · rw [off b hb hb2] at q
        exact (I.hok b u q).stay (fun d v _ y => hk d v y) (fun d y => kp d _ y) fun d xs y => kp d _ y
/-- list(combinations(x, 2)), x a list of five -/
def tCombos (K : PySem.W.Frag) (te : TE) : TE := fun σ H Q => te σ H fun v H1 => ∃ (l : Addr) (x0 x1 x2 x3 x4 : V), v = .ref l ∧ SqL K H1 l [x0, x1, x2, x3, x4] ∧
  ∀ (H' : Hp) (D : Addr) (as : List Addr), Same H1 H' → H1 D = none → (∀ t ∈ as, H1 t = none) → H' D = some (.lst (as.map V.ref)) → Paired (fun (t : Addr) (q : V × V) => H' t = some (.tup [q.1, q.2])) as (five [x0, x1, x2, x3, x4]) → Q (.ref D) H'
section
variable {X : Cx}
theorem pe_combos {e : Expr} {te : TE} {p p2 pos pos2 cpos : Pos} {jj : Nat} (hc : X.calm = true) (hg : Gl X "list") (hm : X.mg "list" = none) (hg2 : Gl X "combinations") (hm2 : X.mg "combinations" = some (.type "itertools.combinations")) (he : PE X e te)
    (hs : starEach [e, .Constant (.int 2) jj cpos] X.env = (false, eval e X.env) :: starEach [.Constant (.int 2) jj cpos] X.env := by rfl)
    (hs1 : starEach [.Constant (.int 2) jj cpos] X.env = (false, eval (.Constant (.int 2) jj cpos) X.env) :: starEach [] X.env := by rfl)
    (hs2 : starEach [.Call (.Name "combinations" p2) [e, .Constant (.int 2) jj cpos] [] pos2] X.env = (false, eval (.Call (.Name "combinations" p2) [e, .Constant (.int 2) jj cpos] [] pos2) X.env) :: starEach [] X.env := by rfl) :
    PE X (.Call (.Name "list" p) [.Call (.Name "combinations" p2) [e, .Constant (.int 2) jj cpos] [] pos2] [] pos) (tCombos X.K te) := by
  refine ⟨fun pins s σ H Q I h => ?_⟩
  refine Call_ (ld_blt I hg hm boot_list (PyProof.Rows.callWith_type1 (args_cons (Call_ (ld_glob I hg2 hm2 (PyProof.Rows.callWith_type1 (args_cons (thn (he.run pins s σ H _ I h) fun u s1 ⟨v, H1, I1, r1, q1⟩ => args_cons (wpAny_Constant_int ?_) hs1) hs) hs rfl))) hs2) hs2 rfl))
  refine args_nil ?_
  obtain ⟨a, x0, x1, x2, x3, x4, ev, hq, q⟩ := q1
  subst ev
  obtain rfl : u = Value.ref a := r1
  obtain ⟨its, rv, p', hz⟩ := I1.list hq
  cases rv with
  | cons r0 rv =>
  cases rv with
  | cons r1 rv =>
  cases rv with
  | cons r2 rv =>
  cases rv with
  | cons r3 rv =>
  cases rv with
  | cons r4 rv =>
  cases rv
  refine call_cb p'.isList fun h1 h' k1 k2 c pt => args_nil ?_
  have I2 : Inv X pins σ H1 { s1 with heap := h1, toks := s1.toks + 1 } := I1.kept k1
  refine call_list_cb (s := { s1 with heap := h', toks := s1.toks + 1 }) (I1.ok.hd hc) c pt (Nat.ne_of_lt (Nat.lt_succ_self _)) fun h2 as c' kk eS el told => ?_
  have hit : h1.get? (h1.objs.size + 1) = none := by
    cases e : h1.get? (h1.objs.size + 1) with
    | none => rfl
    | some o => exact absurd (Heap.lt_size e) (Nat.not_lt.mpr (Nat.le_succ _))
  have k3 : ∀ b o, h1.get? b = some o → h2.get? b = some o := fun b o e => kk b o (fun z => by rw [z, hit] at e; cases e) (k2 b o e)
  have lo : h1.objs.size ≤ h'.objs.size := Nat.le_of_succ_le (Nat.le_of_lt (Heap.lt_size c))
  obtain ⟨H', sm, n1, n2, n3, n4, I3⟩ := cb_laid (s := { s1 with heap := h1, toks := s1.toks + 1 }) (tk := s1.toks + 1) I2 r0 r1 r2 r3 r4 k3 lo eS el told
  exact ⟨.ref _, H', I3, rfl, q H' _ as sm n1 n3 n2 n4⟩
end
end Fd
namespace Fd
open PySem PySem.Spec PyProof.Rows L2
/-! ### defs as they stand behind the top -/
structure Fn (K : PySem.W.Frag) (mg : Str → Option Value) (x : Str) (st : Stmt) (ps : List Str) : Prop where
  ex : ∃ (f : Addr) (fd : FuncData), L2.Fun K x x st f fd ∧ mg x = some (.ref f) ∧ Binds K fd ps []
structure FnM (K : PySem.W.Frag) (C : Addr) (m qual : Str) (st : Stmt) (ps : List Str) : Prop where
  ex : ∃ (f : Addr) (fd : FuncData), L2.Fun K m qual st f fd ∧ Meth K C m f ∧ Binds K fd ps []
structure FnI (K : PySem.W.Frag) (C : Addr) (qual : Str) (st : Stmt) (ps : List Str) : Prop where
  ex : ∃ (f : Addr) (fd : FuncData), L2.Fun K "__init__" qual st f fd ∧ Mk K C f ∧ Binds K fd ps []
section
variable {P : Program} {w : World} {K : PySem.W.Frag} {mg : Str → Option Value} {base : Heap}
abbrev Body (P : Program) (w : World) (K : PySem.W.Frag) (mg : Str → Option Value) (base : Heap) (k : Nat) (qual : Str) (st : Stmt) (N : List Str) (sp : Sp) : Prop :=
  ∀ (f : Addr) (cdv : Value) (A : Around) (outer : List Env) (s : Shared) (H : Hp) (vs : List V) (Q : VK) (E : XK), Room k (A.deeper (envOfC qual (defScope st) s.heap.objs.size f cdv)) → sp vs H Q E →
    ∃ t, PSs (cxOf L2.CX0 P w K mg base N qual (defScope st) f cdv A outer s H E).nox (defBody st) t ∧ t { nx := fun _ H' => Q .non H', rt := Q } (start N vs) H
theorem cal_of {x : Str} {st : Stmt} {N ps : List Str} {k : Nat} {sp : Sp} (F : Fn K mg x st ps) (S : FnScope N ps (defScope st)) (len : ∀ vs H Q E, sp vs H Q E → vs.length = ps.length) (hb : Body P w K mg base k x st N sp) :
    C8.Cal P w K mg base (k + 1) x sp [] := by
  obtain ⟨f, fd, F, hm, b⟩ := F.ex
  exact ⟨f, fd, ps, [], F.ok S len fun cdv A outer s H vs Q E hr h => hb f cdv A outer s H vs Q E hr h, hm, F.kp, b, .nil⟩
theorem met_of {C : Addr} {m qual : Str} {st : Stmt} {N ps : List Str} {k : Nat} {sp : Sp} (c : Cls K C) (F : FnM K C m qual st ps) (S : FnScope N ps (defScope st)) (len : ∀ vs H Q E, sp vs H Q E → vs.length = ps.length) (hb : Body P w K mg base k qual st N sp) :
    C8.Met P w K mg base (k + 1) C m sp [] := by
  obtain ⟨f, fd, F, hm, b⟩ := F.ex
  exact ⟨f, fd, ps, [], c, hm, F.ok S len fun cdv A outer s H vs Q E hr h => hb f cdv A outer s H vs Q E hr h, b, .nil⟩
theorem mak_of {C : Addr} {x qual : Str} {st : Stmt} {N ps : List Str} {k : Nat} {sp : Sp} (g : mg x = some (.ref C)) (F : FnI K C qual st ps) (S : FnScope N ps (defScope st)) (len : ∀ vs H Q E, sp vs H Q E → vs.length = ps.length) (hb : Body P w K mg base k qual st N sp) :
    C8.Mak P w K mg base (k + 1) x C sp [] := by
  obtain ⟨f, fd, F, hm, b⟩ := F.ex
  exact ⟨f, fd, ps, [], hm, F.ok S len fun cdv A outer s H vs Q E hr h => hb f cdv A outer s H vs Q E hr h, g, b, .nil⟩
end
end Fd
namespace Fd
open PySem L2
def top (i : Nat) : Stmt := PySem.Challenge.pw_flatdraw_k08_knots_looked_at.main.body.getD i (.Pass ⟨0, 0, 0, 0⟩)
abbrev sWall : Stmt := top 1
abbrev sWebInit : Stmt := inClass (top 9) 0
abbrev sWebTies : Stmt := inClass (top 9) 1
abbrev sWebBeside : Stmt := inClass (top 9) 2
abbrev sWebTied : Stmt := inClass (top 9) 3
abbrev sWebPieces : Stmt := inClass (top 9) 4
abbrev sWebCheckPoint : Stmt := inClass (top 9) 5
abbrev sJoined : Stmt := top 10
abbrev sIsTie : Stmt := top 11
abbrev sIsPoint : Stmt := top 12
abbrev sIsNumber : Stmt := top 13
abbrev sIsKnot : Stmt := top 17
abbrev sPairs : Stmt := top 18
abbrev sAreHeads : Stmt := top 19
abbrev sAreRows : Stmt := top 20
abbrev sIsRow : Stmt := top 21
abbrev sArePoints : Stmt := top 22
abbrev sRise : Stmt := top 23
abbrev sDiffer : Stmt := top 24
abbrev sLawCellAt : Stmt := top 26
abbrev sLawWhole : Stmt := top 27
abbrev sLawOrderBy : Stmt := top 28
abbrev sLawEnds : Stmt := top 29
abbrev sLawPairs : Stmt := top 30
abbrev sLawKnotBy : Stmt := top 31
abbrev sLawTiesOf : Stmt := top 32
abbrev sLawSpoiltHeads : Stmt := top 33
abbrev sLawSpoiltRows : Stmt := top 34
abbrev sLawRelaid : Stmt := top 35
abbrev sLawOtherHeads : Stmt := top 36
abbrev sLawHeadsFit : Stmt := top 37
abbrev sLawIsKnot : Stmt := top 38
abbrev sLaw : Stmt := top 39
end Fd
namespace Fd
open PySem PySem.Spec PyProof.Rows L2
/-! ### what the top has left, as far as the webs ask -/
structure WTxt (K : PySem.W.Frag) (mg : Str → Option Value) (C : Addr) : Prop where
  cl : Cls K C
  nMany : NoAttr K C "many"
  nRows : NoAttr K C "_rows"
  gWeb : mg "Web" = some (.ref C)
  mostP : ∃ t, mg "MOST_POINTS" = some (.int 16 t)
  mostT : ∃ t, mg "MOST_TIES" = some (.int 40 t)
  len : mg "len" = none
  type : mg "type" = none
  int : mg "int" = none
  list : mg "list" = none
  tuple : mg "tuple" = none
  range : mg "range" = none
  sorted : mg "sorted" = none
  fNum : Fn K mg "is_number" sIsNumber ["thing"]
  fPoint : Fn K mg "is_point" sIsPoint ["many", "thing"]
  fTie : Fn K mg "_is_tie" sIsTie ["many", "thing"]
  fJoined : Fn K mg "_joined" sJoined ["many", "ties"]
  fInit : FnI K C "Web.__init__" sWebInit ["self", "many", "ties"]
/-! ### the small tests -/
def spNum (K : PySem.W.Frag) : Sp := fun vs H Q _ => ∃ (x : V) (T : String), vs = [x] ∧ TyB K H x T ∧ Q (.bl (decide (T = "int"))) H
def isPt (m : Int) : V → Bool
  | .int i => decide (0 ≤ i) && decide (i < m)
  | _ => false
def spPoint (K : PySem.W.Frag) : Sp := fun vs H Q _ => ∃ (m : Int) (x : V) (T : String), vs = [.int m, x] ∧ TyB K H x T ∧ Q (.bl (isPt m x)) H
theorem isPt_int {m : Int} {x : V} (h : isPt m x = true) : ∃ i, x = .int i := by
  cases x with
  | int i => exact ⟨i, rfl⟩
  | _ => cases h
def tieOk (m : Int) : List V → Bool
  | [y, z] => isPt m y && isPt m z && !decide (y = z)
  | _ => false
def spTie (K : PySem.W.Frag) : Sp := fun vs H Q _ => ∃ (m : Int) (x : V), vs = [.int m, x] ∧
  ((∃ T, TyB K H x T ∧ T ≠ "tuple" ∧ Q (.bl false) H) ∨ ∃ (a : Addr) (xs : List V), x = .ref a ∧ SqT K H a xs ∧ (∀ y ∈ xs, ∃ T, TyB K H y T) ∧ Q (.bl (tieOk m xs)) H)
section
variable {P : Program} {w : World} {K : PySem.W.Frag} {mg : Str → Option Value} {base : Heap} {C : Addr}
theorem scNum : FnScope ["thing"] ["thing"] (defScope sIsNumber) := ⟨rfl, rfl, rfl, by decide +kernel, rfl, by decide +kernel, by decide +kernel⟩
theorem c_num (T : WTxt K mg C) : C8.Cal P w K mg base 1 "is_number" (spNum K) [] := by
  refine cal_of T.fNum scNum (fun vs H Q E h => ?_) (fun f cdv A outer s H vs Q E hr h => ?_)
  · obtain ⟨x, t, rfl, _⟩ := h
    rfl
  · obtain ⟨x, t, rfl, ht, k⟩ := h
    refine ⟨_, pss_one (ps_ret (pe_cmpR op_eqTy (pe_callTy call_type1 (by rfl) T.type (by decide +kernel) (pa_cons (pv 0) pa_nil)) (pe_bltn (v := .ty "int") (by rfl) T.int (by decide +kernel) rfl) (nomark _))), ?_⟩
    exact ⟨_, rfl, x, t, rfl, ht, t, "int", rfl, rfl, TyB_kind ht, by decide, k⟩
theorem scPoint : FnScope ["many", "thing"] ["many", "thing"] (defScope sIsPoint) := ⟨rfl, rfl, rfl, by decide +kernel, rfl, by decide +kernel, by decide +kernel⟩
theorem c_point (T : WTxt K mg C) : C8.Cal P w K mg base 2 "is_point" (spPoint K) [] := by
  refine cal_of T.fPoint scPoint (fun vs H Q E h => ?_) (fun f cdv A outer s H vs Q E hr h => ?_)
  · obtain ⟨m, x, t, rfl, _⟩ := h
    rfl
  · obtain ⟨m, x, t, rfl, ht, k⟩ := h
    refine ⟨_, pss_one (ps_ret (pe_and (C8.pe_c (c_num T) hr (by decide) (by rfl) (pa_cons (pv 1) pa_nil)) (pe_one (pe_chain op_le op_lt pe_int (pv 1) (pv 0))))), ?_⟩
    refine ⟨_, rfl, x, t, rfl, ht, _, rfl, ?_⟩
    cases ht with
    | int i =>
      refine iteT ?_
      refine ⟨_, rfl, 0, i, rfl, rfl, _, rfl, ?_⟩
      refine ite2 (fun c => ?_) (fun c => ?_)
      · refine ⟨_, rfl, i, m, rfl, rfl, ?_⟩
        have e : isPt m (.int i) = decide (i < m) := by
          show (decide (0 ≤ i) && decide (i < m)) = _
          rw [c, Bool.true_and]
        rw [e] at k
        exact k
      · have e : isPt m (.int i) = false := by
          show (decide (0 ≤ i) && decide (i < m)) = _
          rw [Bool.eq_false_iff.mpr c, Bool.false_and]
        rw [e] at k
        exact k
    | non => exact k
    | bl b => exact k
    | str x => exact k
    | byt b => exact k
    | lst h => exact k
    | tup h => exact k
    | dK h => exact k
theorem scTie : FnScope ["many", "thing", "one", "other"] ["many", "thing"] (defScope sIsTie) := ⟨rfl, rfl, rfl, by decide +kernel, rfl, by decide +kernel, by decide +kernel⟩
theorem c_tie (T : WTxt K mg C) : C8.Cal P w K mg base 3 "_is_tie" (spTie K) [] := by
  refine cal_of T.fTie scTie (fun vs H Q E h => ?_) (fun f cdv A outer s H vs Q E hr h => ?_)
  · obtain ⟨m, x, rfl, _⟩ := h
    rfl
  · obtain ⟨m, x, rfl, h⟩ := h
    refine ⟨_, pss_cons (ps_if (PW.pt (pw_or (pt_cmpR op_neTy (pe_callTy call_type1 (by rfl) T.type (by decide +kernel) (pa_cons (pv 1) pa_nil)) (pe_bltn (v := .ty "tuple") (by rfl) T.tuple (by decide +kernel) rfl) (nomark _))
        (pw_or1 (pt_cmpR op_ne (pe_callB call_len_seq (by rfl) T.len PySem.boot_len (pa_cons (pv 1) pa_nil)) pe_int (nomark _))))) (pss_one (ps_ret pe_bl)) pss_nil)
      (pss_cons (ps_asg (pv 1) (pg_tup (by rfl) (pgs_cons (pg_name (i := 2) scTie.nd rfl (.inl rfl)) (pgs_cons (pg_name (i := 3) scTie.nd rfl (.inl rfl)) pgs_nil))))
      (pss_one (ps_ret (pe_and (C8.pe_c (c_point T) hr (by decide) (by rfl) (pa_cons (pv 0) (pa_cons (pv 2) pa_nil)))
        (pe_and (C8.pe_c (c_point T) hr (by decide) (by rfl) (pa_cons (pv 0) (pa_cons (pv 3) pa_nil))) (pe_one (pe_cmpR op_ne (pv 2) (pv 3) (nomark _)))))))), ?_⟩
    rcases h with ⟨t, ht, hne, k⟩ | ⟨a, xs, rfl, hT, hy, k⟩
    · refine ⟨_, rfl, x, t, rfl, ht, t, "tuple", rfl, rfl, TyB_kind ht, by decide, _, rfl, ?_⟩
      rw [decide_eq_false hne]
      exact iteT (iteT k)
    · refine ⟨_, rfl, .ref a, "tuple", rfl, .tup hT, "tuple", "tuple", rfl, rfl, by decide, by decide, _, rfl, ?_⟩
      refine iteF ?_
      refine ⟨_, rfl, a, xs, rfl, .inr hT, rfl, _, rfl, ?_⟩
      match xs, hT, hy, k with
      | [], _, _, k => exact iteT k
      | [_], _, _, k => exact iteT k
      | _ :: _ :: _ :: l, _, _, k =>
        refine ite2 (fun _ => k) (fun c => ?_)
        refine absurd ?_ c
        rw [Bool.not_eq_true', decide_eq_false_iff_not]
        intro z
        have z : (((l.length + 1 + 1 + 1 : Nat)) : Int) = 2 := V.int.inj z
        omega
      | [y, z], hT, hy, k =>
        obtain ⟨t1, h1⟩ := hy y (by simp)
        obtain ⟨t2, h2⟩ := hy z (by simp)
        refine iteF ?_
        refine ⟨_, rfl, a, [y, z], rfl, hT, rfl, y, [z], rfl, z, [], rfl, rfl, ?_⟩
        refine ⟨_, rfl, _, rfl, m, y, t1, rfl, h1, _, rfl, ?_⟩
        refine ite2 (fun c1 => ?_) (fun c1 => ?_)
        · refine ⟨_, rfl, _, rfl, m, z, t2, rfl, h2, _, rfl, ?_⟩
          refine ite2 (fun c2 => ?_) (fun c2 => ?_)
          · obtain ⟨i, rfl⟩ := isPt_int c1
            obtain ⟨j, rfl⟩ := isPt_int c2
            refine ⟨_, rfl, _, rfl, rfl, ?_⟩
            have e : tieOk m [.int i, .int j] = !decide (V.int i = V.int j) := by
              show (isPt m (.int i) && isPt m (.int j) && !decide (V.int i = V.int j)) = _
              rw [c1, c2, Bool.and_self, Bool.true_and]
            rw [e] at k
            exact k
          · have e : tieOk m [y, z] = false := by
              show (isPt m y && isPt m z && !decide (y = z)) = _
              rw [c1, Bool.eq_false_iff.mpr c2, Bool.and_false, Bool.false_and]
            rw [e] at k
            exact k
        · have e : tieOk m [y, z] = false := by
            show (isPt m y && isPt m z && !decide (y = z)) = _
            rw [Bool.eq_false_iff.mpr c1, Bool.false_and, Bool.false_and]
          rw [e] at k
          exact k
end
end Fd
namespace Fd
open PySem PySem.Spec PyProof.Rows L2
theorem no_ {b : Bool} {A B : Prop} (e : b = false) (h : B) : if b = true then A else B := by
  rw [e]
  exact iteF h
theorem yep_ {b : Bool} {A B : Prop} (e : b = true) (h : A) : if b = true then A else B := by
  rw [e]
  exact iteT h
theorem yes_ {σ : L2.St} {H : Hp} {Q : Bool → Hp → Prop} (h : Q true H) : tYes σ H Q := h
theorem RowsAt.start {H : Hp} {D : Addr} (h : H D = none) : RowsAt H (upd H D (.lst [])) D [] [] :=
  ⟨upd_same, h, rfl, List.nodup_nil, by simp, fun i a r e _ => by simp at e⟩
/-! ### the rows as they grow -/
def nbRows (m : Nat) (ts : List Tie) : List (List Int) := (pts m).map (nb ts)
theorem nbRows_at {m : Nat} {ts : List Tie} {i : Nat} (h : i < m) : (nbRows m ts)[i]? = some (nb ts i) := by
  unfold nbRows
  rw [List.getElem?_map, pts_at h]
  rfl
theorem nbRows_len (m : Nat) (ts : List Tie) : (nbRows m ts).length = m := by simp [nbRows, pts_len]
theorem nbRows_nil (m : Nat) : nbRows m [] = List.replicate m [] := by
  unfold nbRows
  rw [show (nb [] : Int → List Int) = fun _ => [] from rfl, List.map_const', pts_len]
theorem nbRows_step {m : Nat} {ts : List Tie} {p q : Nat} (hp : p < m) (hq : q < m) (hne : p ≠ q) :
    ((nbRows m ts).set p (nb ts p ++ [(q : Int)])).set q (nb ts q ++ [(p : Int)]) = nbRows m (ts ++ [((p : Int), (q : Int))]) := by
  refine List.ext_getElem? fun j => ?_
  by_cases hj : j < m
  · rw [nbRows_at hj, nb_snoc]
    by_cases h2 : q = j
    · subst h2
      rw [List.getElem?_set_self (by rw [List.length_set, nbRows_len]; exact hj)]
      have e : here ((p : Int), (q : Int)) (q : Int) = [(p : Int)] := by
        unfold here
        rw [if_neg (by show ¬ (p : Int) = (q : Int); omega), if_pos rfl]
        rfl
      rw [e]
    · rw [List.getElem?_set_ne h2]
      by_cases h1 : p = j
      · subst h1
        rw [List.getElem?_set_self (by rw [nbRows_len]; exact hj)]
        have e : here ((p : Int), (q : Int)) (p : Int) = [(q : Int)] := by
          unfold here
          rw [if_pos rfl, if_neg (by show ¬ (q : Int) = (p : Int); omega)]
          rfl
        rw [e]
      · rw [List.getElem?_set_ne h1, nbRows_at hj]
        have e : here ((p : Int), (q : Int)) (j : Int) = [] := by
          unfold here
          rw [if_neg (by show ¬ (p : Int) = (j : Int); omega), if_neg (by show ¬ (q : Int) = (j : Int); omega)]
          rfl
        rw [e, List.append_nil]
  · rw [List.getElem?_eq_none (by rw [List.length_set, List.length_set, nbRows_len]; omega), List.getElem?_eq_none (by rw [nbRows_len]; omega)]
theorem here_len (t : Tie) (p : Int) : (here t p).length ≤ 2 := by
  unfold here
  rw [List.length_append]
  split <;> split <;> simp
theorem nb_len : ∀ (ts : List Tie) (p : Int), (nb ts p).length ≤ 2 * ts.length
  | [], _ => by simp [nb]
  | t :: ts, p => by
    have e : nb (t :: ts) p = here t p ++ nb ts p := by simp [nb]
    have h1 := here_len t p
    have h2 := nb_len ts p
    rw [e, List.length_append, List.length_cons]
    omega
end Fd
namespace Fd
open PySem PySem.Spec PyProof.Rows L2
def spJoined (K : PySem.W.Frag) : Sp := fun vs H Q _ => ∃ (m : Nat) (a : Addr) (ws : List V) (ts : List Tie), vs = [.int m, .ref a] ∧ SqL K H a ws ∧ PairsAt H ws ts ∧ Good m ts ∧ m ≤ 16 ∧ ts.length ≤ 40 ∧
  ∀ (H' : Hp) (R : Addr) (as : List Addr), Same H H' → RowsAt H H' R as (rowsOf m ts) → Q (.ref R) H'
section
variable {P : Program} {w : World} {K : PySem.W.Frag} {mg : Str → Option Value} {base : Heap} {C : Addr}
theorem scJoined : FnScope ["many", "ties", "rows", "tie", "one", "other", "_", "row"] ["many", "ties"] (defScope sJoined) := ⟨rfl, rfl, rfl, by decide +kernel, rfl, by decide +kernel, by decide +kernel⟩
theorem c_joined (T : WTxt K mg C) : C8.Cal P w K mg base 4 "_joined" (spJoined K) [] := by
  refine cal_of T.fJoined scJoined (fun vs H Q E h => ?_) (fun f cdv A outer s H vs Q E hr h => ?_)
  · obtain ⟨m, a, ws, ts, rfl, _⟩ := h
    rfl
  · obtain ⟨m, a, ws, ts, rfl, hS, hP, g, hm, ht, k⟩ := h
    refine ⟨_, pss_cons (ps_setLc (i := 2) (own := [("_", 6)]) (g := gName 6) (tt := tYes) (by rfl) scJoined.nd rfl rfl (sw_true rfl rfl rfl (by decide +kernel)) (pi_range1 (by rfl) T.range (pa_cons (pv 0) pa_nil))
        (blkOk_by (own := [("_", 6)]) (N := ["many", "ties", "rows", "tie", "one", "other", "_", "row"]) (sc := defScope sJoined) (by decide +kernel)) (fun _ _ _ _ _ => pg_name (i := 6) scJoined.nd rfl (Or.inl rfl)) (fun _ _ _ _ _ => pts_nil) (fun _ _ _ _ _ => pe_lst pa_nil))
      (pss_cons (ps_for PassesOwn.never rfl (pi_list (pv 1)) (pg_name (i := 3) scJoined.nd rfl (Or.inl rfl))
        (pss_cons (ps_if (pt_not (pt_val (C8.pe_c (c_tie T) hr (by decide) (by rfl) (pa_cons (pv 0) (pa_cons (pv 3) pa_nil))))) (pss_one ps_never) pss_nil)
        (pss_cons (ps_asg (pv 3) (pg_tup (by rfl) (pgs_cons (pg_name (i := 4) scJoined.nd rfl (.inl rfl)) (pgs_cons (pg_name (i := 5) scJoined.nd rfl (.inl rfl)) pgs_nil))))
        (pss_cons (ps_if (pt_cmpR op_in_seq (pv 5) (pe_ix ix_list (pv 2) (pv 4) (fun _ _ => rfl)) (by rfl)) (pss_one ps_never) pss_nil)
        (pss_cons (ps_expr (pe_bm PySem.F.plainAttrs_list PySem.F.slot_list_append PySem.F.type_list_append mt_append (pe_ix ix_list (pv 2) (pv 4) (fun _ _ => rfl)) (pa_cons (pv 5) pa_nil)))
        (pss_one (ps_expr (pe_bm PySem.F.plainAttrs_list PySem.F.slot_list_append PySem.F.type_list_append mt_append (pe_ix ix_list (pv 2) (pv 5) (fun _ _ => rfl)) (pa_cons (pv 4) pa_nil)))))))))
      (pss_one (ps_ret (pe_lc (own := [("row", 7)]) (g := gName 7) (tt := tYes) (by rfl) scJoined.nd (pi_list (pv 2))
        (blkOk_by (own := [("row", 7)]) (N := ["many", "ties", "rows", "tie", "one", "other", "_", "row"]) (sc := defScope sJoined) (by decide +kernel)) (fun _ _ _ _ _ => pg_name (i := 7) scJoined.nd rfl (Or.inl rfl)) (fun _ _ _ _ _ => pts_nil)
        (fun _ _ _ _ _ => pe_callB (id := "sorted") (r := rSortedI K) cr_sortedI (by rfl) T.sorted (by decide +kernel) (pa_cons (pv 7) pa_nil)))))), ?_⟩
    -- rows = [[] for _ in range(many)]
    refine ⟨_, rfl, (m : Int), rfl, by omega, by omega, fun R hR => ?_⟩
    refine lc_range (lo := 0) (n := (m : Int).toNat) (fun i H1 => Same H H1 ∧ ∃ bs, RowsAt H H1 R bs (List.replicate i [])) ⟨Same.put hR, [], RowsAt.start hR⟩ (fun i H1 hi ⟨s1, bs, r1⟩ => ?_) (fun H1 ⟨s1, as, r1⟩ => ?_)
    · refine ⟨rfl, ?_⟩
      refine yes_ ?_
      refine iteT ?_
      refine ⟨Nat.zero_le _, fun p hp => ?_⟩
      have pR : R ≠ p := ne_of_none r1.top hp
      refine ⟨bs.map V.ref, by rw [upd_ne pR]; exact r1.top, ?_, ?_⟩
      · rw [List.length_map, r1.len, List.length_replicate]
        exact small (by omega)
      · refine ⟨Same.write (Same.step s1 hp) hR, bs ++ [p], ?_⟩
        have q := r1.more (r := []) s1 hp
        rw [List.replicate_succ']
        exact q
    · rw [Int.toNat_natCast] at r1
      -- for tie in ties
      refine ⟨_, rfl, a, rfl, ⟨_, s1.seq hS⟩, for_list (K := K) (a := a) (xs := ws) (fun i σ H2 => ∃ v1 v2 v3 : Option V, σ = [some (.int m), some (.ref a), some (.ref R), v1, v2, v3, none, none] ∧ Same H H2 ∧ RowsAt H H2 R as (nbRows m (ts.take i)))
        ⟨none, none, none, rfl, s1, by rw [List.take_zero, nbRows_nil]; exact r1⟩ (fun i σ H2 _ ⟨_, _, _, _, s2, _⟩ => s2.seq hS) ?_ ?_⟩
      · rintro i x σ H2 hi ⟨v1, v2, v3, rfl, s2, r2⟩
        obtain ⟨t, hti, hpair⟩ := paired_get hP hi
        obtain ⟨c, rfl, hc⟩ := PairAt.same s2 hpair
        have rg := g.rng t (List.mem_of_getElem? hti)
        have ap := g.apart hti
        obtain ⟨t1, t2⟩ := t
        obtain ⟨h1, h2, h3, h4, h5⟩ := rg
        obtain ⟨p, rfl⟩ : ∃ p : Nat, t1 = p := ⟨t1.toNat, by have : 0 ≤ t1 := h1; omega⟩
        obtain ⟨q, rfl⟩ : ∃ q : Nat, t2 = q := ⟨t2.toNat, by have : 0 ≤ t2 := h3; omega⟩
        have hp : p < m := by have : ((p : Int) < m) := h2; omega
        have hq : q < m := by have : ((q : Int) < m) := h4; omega
        have hpq : p ≠ q := fun z => h5 (by rw [z])
        have hil : i < ts.length := (List.getElem?_eq_some_iff.mp hti).1
        obtain ⟨b, eb, ebr, _, hb⟩ := r2.get (nbRows_at (ts := ts.take i) hp)
        have ok : tieOk m [.int p, .int q] = true := by
          show (isPt m (.int p) && isPt m (.int q) && !decide (V.int p = V.int q)) = true
          have e1 : isPt m (.int p) = true := by
            show (decide ((0 : Int) ≤ p) && decide ((p : Int) < m)) = true
            rw [decide_eq_true (by omega), decide_eq_true (by omega), Bool.and_self]
          have e2 : isPt m (.int q) = true := by
            show (decide ((0 : Int) ≤ q) && decide ((q : Int) < m)) = true
            rw [decide_eq_true (by omega), decide_eq_true (by omega), Bool.and_self]
          rw [e1, e2, decide_eq_false (fun z => h5 (V.int.inj z)), Bool.and_self, Bool.true_and, Bool.not_false]
        -- if not _is_tie(many, tie)
        refine ⟨_, rfl, _, rfl, m, .ref c, rfl, .inr ⟨c, [.int p, .int q], rfl, SqT.of hc, fun y hy => ?_, _, rfl, no_ (by rw [ok]; rfl) ?_⟩⟩
        · simp only [List.mem_cons, List.not_mem_nil, or_false] at hy
          rcases hy with rfl | rfl <;> exact ⟨_, .int _⟩
        -- one, other = tie
        refine ⟨_, rfl, c, [.int p, .int q], rfl, SqT.of hc, rfl, .int p, [.int q], rfl, .int q, [], rfl, rfl, ?_⟩
        -- if other in rows[one]
        have hno : inV (.int q) (iL (nb (ts.take i) p)) = false := by
          rw [inV_ints]
          refine decide_eq_false fun z => ?_
          rcases mem_nb.mp z with z | z
          · exact ap.1 z
          · exact ap.2 z
        refine ⟨_, rfl, _, rfl, _, rfl, R, as.map V.ref, p, .ref b, rfl, rfl, SqL.of r2.top, atI_nat ebr, b, iL (nb (ts.take i) p), rfl, .inl (SqL.of hb), rfl, flat_ints _, _, rfl, no_ hno ?_⟩
        -- rows[one].append(other)
        have l1 := nb_len (ts.take i) p
        have l2 := nb_len (ts.take i) q
        rw [List.length_take] at l1 l2
        refine ⟨_, rfl, _, rfl, R, as.map V.ref, p, .ref b, rfl, rfl, SqL.of r2.top, atI_nat ebr, .inl ⟨rfl, _, SqL.of hb⟩, _, rfl, b, _, _, rfl, rfl, hb, by rw [List.length_map]; exact small (by omega), ?_⟩
        have r3 := r2.write (r := nb (ts.take i) p ++ [(q : Int)]) eb
        have e3 : iL (nb (ts.take i) p ++ [(q : Int)]) = iL (nb (ts.take i) p) ++ [V.int q] := by
          unfold iL
          rw [List.map_append]
          rfl
        rw [e3] at r3
        obtain ⟨d, ed, edr, _, hd⟩ := r3.get (i := q) (r := nb (ts.take i) q) (by rw [List.getElem?_set_ne hpq]; exact nbRows_at hq)
        -- rows[other].append(one)
        refine ⟨_, rfl, _, rfl, R, as.map V.ref, q, .ref d, rfl, rfl, SqL.of r3.top, atI_nat edr, .inl ⟨rfl, _, SqL.of hd⟩, _, rfl, d, _, _, rfl, rfl, hd, by rw [List.length_map]; exact small (by omega), ?_⟩
        have r4 := r3.write (r := nb (ts.take i) q ++ [(p : Int)]) ed
        have e4 : iL (nb (ts.take i) q ++ [(p : Int)]) = iL (nb (ts.take i) q) ++ [V.int p] := by
          unfold iL
          rw [List.map_append]
          rfl
        rw [e4, nbRows_step hp hq hpq, ← take_next hti] at r4
        exact ⟨_, _, _, rfl, r3.sameW (r2.sameW s2 eb) ed, r4⟩
      · rintro σ H2 ⟨v1, v2, v3, rfl, s2, r2⟩
        have el : ts.take ws.length = ts := by
          rw [hP.length]
          exact List.take_length
        rw [el] at r2
        refine ⟨_, rfl, R, rfl, ⟨_, SqL.of r2.top⟩, fun D hD => ?_⟩
        refine lc_list (K := K) (a := R) (xs := as.map V.ref) (fun i H3 => Same H2 H3 ∧ ∃ bs, RowsAt H2 H3 D bs ((rowsOf m ts).take i)) ⟨Same.put hD, [], RowsAt.start hD⟩ (fun i H3 _ ⟨s3, _⟩ => s3.seq (SqL.of r2.top)) (fun i x H3 hi ⟨s3, bs, r3⟩ => ?_) (fun H3 ⟨s3, bs, r3⟩ => ?_)
        · have him : i < m := by
            have q := (List.getElem?_eq_some_iff.mp hi).1
            rw [List.length_map, r2.len, nbRows_len] at q
            exact q
          obtain ⟨b, eb, ebr, _, hb⟩ := r2.get (nbRows_at (ts := ts) him)
          obtain rfl : x = .ref b := Option.some.inj (hi.symm.trans ebr)
          refine ⟨rfl, ?_⟩
          refine yes_ ?_
          refine iteT ?_
          refine ⟨_, rfl, b, nb ts i, rfl, SqL.of (s3 _ _ hb), fun ns' p hp hs hnew => ?_⟩
          have e := row_sorted g hp hs
          subst e
          have pD : D ≠ p := ne_of_none r3.top hnew
          refine ⟨bs.map V.ref, by rw [upd_ne pD]; exact r3.top, ?_, Same.write (Same.step s3 hnew) hD, bs ++ [p], ?_⟩
          · rw [List.length_map, r3.len, List.length_take, rowsOf_len]
            exact small (by omega)
          · have q := r3.more (r := rowOf m ts i) s3 hnew
            rw [take_next (rowsOf_at him)]
            exact q
        · have e5 : (rowsOf m ts).take (as.map V.ref).length = rowsOf m ts := by
            rw [List.length_map, r2.len, nbRows_len]
            exact List.take_of_length_le (by rw [rowsOf_len]; exact Nat.le_refl _)
          rw [e5] at r3
          exact k _ D bs (s2.trans s3) (r3.older s2)
end
end Fd
namespace Fd
open PySem PySem.Spec PyProof.Rows L2
theorem flat_len {m : Nat} {ts : List Tie} {i : Nat} (hi : i ≤ 16) (hm : m ≤ 16) : ((pts i).flatMap (pickT m ts)).length ≤ 16 * 16 := by
  have h : ∀ l : List Int, (l.flatMap (pickT m ts)).length ≤ 16 * l.length := fun l => by
    induction l with
    | nil => simp
    | cons a l ih =>
      have h1 : (pickT m ts a).length ≤ 16 := by
        unfold pickT
        rw [List.length_map]
        have h2 := List.length_filter_le (fun y => decide (a < y)) (rowOf m ts a)
        have h3 := rowOf_len m ts a
        omega
      rw [List.flatMap_cons, List.length_append, List.length_cons]
      omega
  have h2 := h (pts i)
  rw [pts_len] at h2
  omega
/-! ### a web in the heap -/
def wF (m : Nat) (R : Addr) : List (Str × V) := [("many", .int m), ("_rows", .ref R)]
theorem lkHere {k : Str} {v : V} {r : List (Str × V)} : List.lookup k ((k, v) :: r) = some v := by simp [List.lookup]
theorem lkPast {k g : Str} {v : V} {r : List (Str × V)} (h : (k == g) = false) : List.lookup k ((g, v) :: r) = List.lookup k r := by simp [List.lookup, h]
theorem wF_many (m : Nat) (R : Addr) : (wF m R).lookup ("many" : Str) = some (.int m) := lkHere
theorem wF_rows (m : Nat) (R : Addr) : (wF m R).lookup ("_rows" : Str) = some (.ref R) := (lkPast (by decide +kernel)).trans lkHere
theorem wF_no (m : Nat) (R : Addr) {x : Str} (h1 : (x == ("many" : Str)) = false) (h2 : (x == ("_rows" : Str)) = false) : (wF m R).lookup x = none := (lkPast h1).trans ((lkPast h2).trans rfl)
theorem wF_new (m : Nat) (R : Addr) : putF "_rows" (.ref R) (putF "many" (.int m) []) = wF m R := by
  show (if ("many" : Str) = "_rows" then _ else (("many" : Str), V.int m) :: putF "_rows" (.ref R) []) = wF m R
  rw [if_neg (by decide +kernel)]
  rfl
structure WebAt (C : Addr) (H0 H : Hp) (p : Addr) (m : Nat) (ts : List Tie) : Prop where
  new : H0 p = none
  ex : ∃ (dx R : Addr) (as : List Addr), H p = some (.ins C dx (wF m R)) ∧ RowsAt H0 H R as (rowsOf m ts)
theorem WebAt.same {C p : Addr} {H0 H H' : Hp} {m : Nat} {ts : List Tie} (h : WebAt C H0 H p m ts) (s : Same H H') : WebAt C H0 H' p m ts := by
  obtain ⟨n, dx, R, as, h1, h2⟩ := h
  exact ⟨n, dx, R, as, s _ _ h1, h2.same s⟩
theorem WebAt.apart {C p : Addr} {H0 H H' : Hp} {m : Nat} {ts : List Tie} (h : WebAt C H0 H p m ts) (s : ∀ b o, H b = some o → H0 b = none → H' b = some o) : WebAt C H0 H' p m ts := by
  obtain ⟨n, dx, R, as, h1, h2⟩ := h
  exact ⟨n, dx, R, as, s _ _ h1 n, h2.apart s⟩
theorem WebAt.older {C p : Addr} {H0 H1 H : Hp} {m : Nat} {ts : List Tie} (h : WebAt C H1 H p m ts) (s : Same H0 H1) : WebAt C H0 H p m ts := by
  obtain ⟨n, dx, R, as, h1, h2⟩ := h
  exact ⟨s.free n, dx, R, as, h1, h2.older s⟩
def spInit (C : Addr) (K : PySem.W.Frag) : Sp := fun vs H Q _ => ∃ (H0 : Hp) (p dx : Addr) (m : Nat) (a : Addr) (ws : List V) (ts : List Tie), vs = [.ref p, .int m, .ref a] ∧ H p = some (.ins C dx []) ∧ Same H0 H ∧ H0 p = none ∧
  SqL K H0 a ws ∧ PairsAt H0 ws ts ∧ Good m ts ∧ 1 ≤ m ∧ m ≤ 16 ∧ ts.length ≤ 40 ∧
  ∀ H' : Hp, (∀ b o, H b = some o → b ≠ p → H' b = some o) → WebAt C H0 H' p m ts → Q .non H'
def spCheck (C : Addr) : Sp := fun vs H Q _ => ∃ (H0 : Hp) (p : Addr) (m : Nat) (ts : List Tie) (j : Nat), vs = [.ref p, .int j] ∧ WebAt C H0 H p m ts ∧ j < m ∧ Q .non H
def spBeside (C : Addr) : Sp := fun vs H Q _ => ∃ (H0 : Hp) (p : Addr) (m : Nat) (ts : List Tie) (j : Nat), vs = [.ref p, .int j] ∧ WebAt C H0 H p m ts ∧ j < m ∧
  ∀ D, H D = none → Q (.ref D) (upd H D (.lst (iL (rowOf m ts j))))
def spTied (C : Addr) : Sp := fun vs H Q _ => ∃ (H0 : Hp) (p : Addr) (m : Nat) (ts : List Tie) (i j : Nat), vs = [.ref p, .int i, .int j] ∧ WebAt C H0 H p m ts ∧ i < m ∧ j < m ∧
  Q (.bl (decide ((j : Int) ∈ rowOf m ts i))) H
def spTies (C : Addr) : Sp := fun vs H Q _ => ∃ (H0 : Hp) (p : Addr) (m : Nat) (ts : List Tie), vs = [.ref p] ∧ WebAt C H0 H p m ts ∧ Good m ts ∧ m ≤ 16 ∧
  ∀ (H' : Hp) (D : Addr) (ws : List V), Same H H' → H D = none → H' D = some (.lst ws) → PairsAt H' ws (toldT m ts) → Q (.ref D) H'
end Fd
namespace Fd
open PySem PySem.Spec PyProof.Rows L2
section
variable {P : Program} {w : World} {K : PySem.W.Frag} {mg : Str → Option Value} {base : Heap} {C : Addr}
theorem scInit : FnScope ["self", "many", "ties"] ["self", "many", "ties"] (defScope sWebInit) := ⟨rfl, rfl, rfl, by decide +kernel, rfl, by decide +kernel, by decide +kernel⟩
theorem c_init (T : WTxt K mg C) : C8.Mak P w K mg base 5 "Web" C (spInit C K) [] := by
  obtain ⟨tP, gP⟩ := T.mostP
  obtain ⟨tT, gT⟩ := T.mostT
  refine mak_of T.gWeb T.fInit scInit (fun vs H Q E h => ?_) (fun f cdv A outer s H vs Q E hr h => ?_)
  · obtain ⟨H0, p, dx, m, a, ws, ts, rfl, _⟩ := h
    rfl
  · obtain ⟨H0, p, dx, m, a, ws, ts, rfl, hp, s0, p0, hS, hP, g, m1, m16, ht, k⟩ := h
    refine ⟨_, pss_cons (ps_if (PW.pt (pw_or (pt_not (pt_val (C8.pe_c (c_num T) hr (by decide) (by rfl) (pa_cons (pv 1) pa_nil))))
        (pw_or1 (pt_not (pt_chain op_le op_le pe_int (pv 1) (pe_glob (v := .int 16) (by rfl) gP ⟨_, rfl⟩)))))) (pss_one ps_never) pss_nil)
      (pss_cons (ps_if (PW.pt (pw_or (pt_cmpR op_neTy (pe_callTy call_type1 (by rfl) T.type (by decide +kernel) (pa_cons (pv 2) pa_nil)) (pe_bltn (v := .ty "list") (by rfl) T.list (by decide +kernel) rfl) (nomark _))
        (pw_or1 (pt_cmpR op_gt (pe_callB call_len_seq (by rfl) T.len PySem.boot_len (pa_cons (pv 2) pa_nil)) (pe_glob (v := .int 40) (by rfl) gT ⟨_, rfl⟩) (nomark _))))) (pss_one ps_never) pss_nil)
      (pss_cons (ps_fld (pv 0) (pv 1) rfl)
      (pss_one (ps_fld (pv 0) (C8.pe_c (c_joined T) hr (by decide) (by rfl) (pa_cons (pv 1) (pa_cons (pv 2) pa_nil))) rfl)))), ?_⟩
    have hS' : SqL K H a ws := s0.seq hS
    have hl := hP.length
    -- if not _is_number(many) or not 1 <= many <= MOST_POINTS
    refine ⟨_, rfl, .int m, "int", rfl, .int _, true, rfl, ?_⟩
    refine iteF ?_
    refine ⟨_, rfl, 1, (m : Int), rfl, rfl, _, rfl, ?_⟩
    refine yep_ (decide_eq_true (by omega)) ?_
    refine ⟨(m : Int), 16, rfl, rfl, _, rfl, ?_⟩
    refine no_ (by rw [Bool.not_eq_false']; exact decide_eq_true (by omega)) ?_
    -- if type(ties) != list or len(ties) > MOST_TIES
    refine ⟨_, rfl, .ref a, "list", rfl, .lst hS', "list", "list", rfl, rfl, by decide, by decide, _, rfl, ?_⟩
    refine iteF ?_
    refine ⟨_, rfl, a, ws, rfl, .inl hS', _, 40, rfl, rfl, _, rfl, ?_⟩
    refine no_ (decide_eq_false (by omega)) ?_
    -- self.many = many
    refine ⟨_, rfl, _, rfl, p, C, dx, [], rfl, hp, T.cl, T.nMany, by show 0 < 1000; decide, ?_⟩
    -- self._rows = _joined(many, ties)
    have s1 : Same H0 (upd H p (.ins C dx (putF "many" (.int m) []))) := Same.write s0 p0
    refine ⟨_, rfl, _, rfl, m, a, ws, ts, rfl, s1.seq hS, hP.same s1, g, m16, ht, fun H' R as s' r' => ?_⟩
    have hp' : H' p = some (.ins C dx (putF "many" (.int m) [])) := s' _ _ upd_same
    refine ⟨_, rfl, p, C, dx, _, rfl, hp', T.cl, T.nRows, by show 1 < 1000; decide, ?_⟩
    refine k _ (fun b o e hb => ?_) ⟨p0, dx, R, as, by rw [upd_same, wF_new], ?_⟩
    · rw [upd_ne hb]
      exact s' _ _ (by rw [upd_ne hb]; exact e)
    · refine (r'.apart fun b o e hb => ?_).older s1
      rw [upd_ne (ne_of_none upd_same hb).symm]
      exact e
end
end Fd
namespace Fd
open PySem PySem.Spec PyProof.Rows L2
section
variable {P : Program} {w : World} {K : PySem.W.Frag} {mg : Str → Option Value} {base : Heap} {C : Addr}
theorem scCheck : FnScope ["self", "thing"] ["self", "thing"] (defScope sWebCheckPoint) := ⟨rfl, rfl, rfl, by decide +kernel, rfl, by decide +kernel, by decide +kernel⟩
theorem c_check (T : WTxt K mg C) (FC : FnM K C "_check_point" "Web._check_point" sWebCheckPoint ["self", "thing"]) : C8.Met P w K mg base 3 C "_check_point" (spCheck C) [] := by
  refine met_of T.cl FC scCheck (fun vs H Q E h => ?_) (fun f cdv A outer s H vs Q E hr h => ?_)
  · obtain ⟨H0, p, m, ts, j, rfl, _⟩ := h
    rfl
  · obtain ⟨H0, p, m, ts, j, rfl, ⟨p0, dx, R, as, hp, r⟩, hj, k⟩ := h
    refine ⟨_, pss_one (ps_if (pt_not (pt_val (C8.pe_c (c_point T) hr (by decide) (by rfl) (pa_cons (pe_fld (pv 0) rfl) (pa_cons (pv 1) pa_nil))))) (pss_one ps_never) pss_nil), ?_⟩
    refine ⟨_, rfl, p, C, dx, _, _, rfl, hp, T.cl, T.nMany, wF_many _ _, _, rfl, (m : Int), .int j, "int", rfl, .int _, _, rfl, no_ ?_ k⟩
    rw [Bool.not_eq_false']
    show (decide ((0 : Int) ≤ j) && decide ((j : Int) < m)) = true
    rw [decide_eq_true (by omega), decide_eq_true (by omega), Bool.and_self]
theorem scBeside : FnScope ["self", "point"] ["self", "point"] (defScope sWebBeside) := ⟨rfl, rfl, rfl, by decide +kernel, rfl, by decide +kernel, by decide +kernel⟩
theorem c_beside (T : WTxt K mg C) (FC : FnM K C "_check_point" "Web._check_point" sWebCheckPoint ["self", "thing"]) (FB : FnM K C "beside" "Web.beside" sWebBeside ["self", "point"]) : C8.Met P w K mg base 4 C "beside" (spBeside C) [] := by
  refine met_of T.cl FB scBeside (fun vs H Q E h => ?_) (fun f cdv A outer s H vs Q E hr h => ?_)
  · obtain ⟨H0, p, m, ts, j, rfl, _⟩ := h
    rfl
  · obtain ⟨H0, p, m, ts, j, rfl, W, hj, k⟩ := h
    obtain ⟨p0, dx, R, as, hp, r⟩ := id W
    refine ⟨_, pss_cons (ps_expr (C8.pe_mt (c_check T FC) hr (by decide) (pv 0) (pa_cons (pv 1) pa_nil)))
      (pss_one (ps_ret (pe_callTy call_list_of (by rfl) T.list (by decide +kernel) (pa_cons (pe_ix ix_list (pe_fld (pv 0) rfl) (pv 1) (fun _ _ => rfl)) pa_nil)))), ?_⟩
    obtain ⟨b, eb, ebr, _, hb⟩ := r.get (rowsOf_at (ts := ts) hj)
    refine ⟨_, rfl, p, dx, _, rfl, hp, wF_no _ _ (by decide +kernel) (by decide +kernel), _, rfl, H0, p, m, ts, j, rfl, W, hj, ?_⟩
    exact ⟨_, rfl, p, C, dx, _, _, rfl, hp, T.cl, T.nRows, wF_rows _ _, _, rfl, R, _, (j : Int), .ref b, rfl, rfl, SqL.of r.top, atI_nat ebr, b, _, rfl, .inl (SqL.of hb), k⟩
end
end Fd
namespace Fd
open PySem PySem.Spec PyProof.Rows L2
section
variable {P : Program} {w : World} {K : PySem.W.Frag} {mg : Str → Option Value} {base : Heap} {C : Addr}
theorem scTied : FnScope ["self", "one", "other"] ["self", "one", "other"] (defScope sWebTied) := ⟨rfl, rfl, rfl, by decide +kernel, rfl, by decide +kernel, by decide +kernel⟩
theorem c_tied (T : WTxt K mg C) (FC : FnM K C "_check_point" "Web._check_point" sWebCheckPoint ["self", "thing"]) (FD : FnM K C "tied" "Web.tied" sWebTied ["self", "one", "other"]) : C8.Met P w K mg base 4 C "tied" (spTied C) [] := by
  refine met_of T.cl FD scTied (fun vs H Q E h => ?_) (fun f cdv A outer s H vs Q E hr h => ?_)
  · obtain ⟨H0, p, m, ts, i, j, rfl, _⟩ := h
    rfl
  · obtain ⟨H0, p, m, ts, i, j, rfl, W, hi, hj, k⟩ := h
    obtain ⟨p0, dx, R, as, hp, r⟩ := id W
    refine ⟨_, pss_cons (ps_expr (C8.pe_mt (c_check T FC) hr (by decide) (pv 0) (pa_cons (pv 1) pa_nil))) (pss_cons (ps_expr (C8.pe_mt (c_check T FC) hr (by decide) (pv 0) (pa_cons (pv 2) pa_nil)))
      (pss_one (ps_ret (pe_cmpR op_in_seq (pv 2) (pe_ix ix_list (pe_fld (pv 0) rfl) (pv 1) (fun _ _ => rfl)) (by rfl))))), ?_⟩
    obtain ⟨b, eb, ebr, _, hb⟩ := r.get (rowsOf_at (ts := ts) hi)
    refine ⟨_, rfl, p, dx, _, rfl, hp, wF_no _ _ (by decide +kernel) (by decide +kernel), _, rfl, H0, p, m, ts, i, rfl, W, hi, ?_⟩
    refine ⟨_, rfl, p, dx, _, rfl, hp, wF_no _ _ (by decide +kernel) (by decide +kernel), _, rfl, H0, p, m, ts, j, rfl, W, hj, ?_⟩
    refine ⟨_, rfl, _, rfl, p, C, dx, _, _, rfl, hp, T.cl, T.nRows, wF_rows _ _, _, rfl, R, _, (i : Int), .ref b, rfl, rfl, SqL.of r.top, atI_nat ebr, b, _, rfl, .inl (SqL.of hb), rfl, flat_ints _, ?_⟩
    have e := inV_ints (rowOf m ts i) (j : Int)
    show Q (.bl (inV (.int j) (iL (rowOf m ts i)))) H
    rw [e]
    exact k
end
end Fd
namespace Fd
open PySem PySem.Spec PyProof.Rows L2
/-- a comprehension over a list, each item told by values alone, some left out -/
theorem lc_filt {K : PySem.W.Frag} {H : Hp} {σ : L2.St} {i j : Nat} {R : Addr} {xs : List V} {tt : TT} {te : TE} {f : V → V} {p : V → Bool} {Q : VK} (hi : σ[i]? = some (some (.ref R))) (hj : j < σ.length) (hR : SqL K H R xs) (len : xs.length ≤ 900)
    (hp : ∀ (H1 : Hp) (x : V) (Q' : Bool → Hp → Prop), x ∈ xs → Same H H1 → (∀ H2, Same H1 H2 → Q' (p x) H2) → tt ((wipe σ [j]).set j (some x)) H1 Q')
    (ht : ∀ (H1 : Hp) (x : V) (Q' : VK), x ∈ xs → p x = true → Same H H1 → (∀ H2, Same H1 H2 → Q' (f x) H2) → te ((wipe σ [j]).set j (some x)) H1 Q')
    (k : ∀ (H' : Hp) (D : Addr), Same H H' → H D = none → H' D = some (.lst ((xs.filter p).map f)) → Q (.ref D) H') : tLc (iList K (tVar i)) (gName j) tt te [j] σ H Q := by
  refine ⟨_, hi, R, rfl, ⟨_, hR⟩, fun D hD => ?_⟩
  refine lc_list (K := K) (a := R) (xs := xs) (fun q H1 => Same H H1 ∧ H1 D = some (.lst (((xs.take q).filter p).map f))) ⟨Same.put hD, by rw [upd_same]; rfl⟩ (fun q H1 _ ⟨s1, _⟩ => s1.seq hR) (fun q x H1 hq ⟨s1, d1⟩ => ?_) (fun H1 ⟨s1, d1⟩ => ?_)
  · have hm := List.mem_of_getElem? hq
    have hl : ((xs.take q).filter p).length ≤ 900 := by
      have := List.length_filter_le p (xs.take q)
      rw [List.length_take] at this
      omega
    refine ⟨by simp [wipe], ?_⟩
    refine hp H1 x _ hm s1 fun H2 s2 => ?_
    by_cases c : p x = true
    · rw [if_pos c]
      refine ht H2 x _ hm c (s1.trans s2) fun H3 s3 => ?_
      have s13 := s2.trans s3
      refine ⟨_, s13 _ _ d1, by rw [List.length_map]; exact small (by omega), Same.write (s1.trans s13) hD, ?_⟩
      rw [upd_same, take_next hq, List.filter_append, List.map_append, List.filter_cons_of_pos c, List.filter_nil]
      rfl
    · have c' := Bool.eq_false_iff.mpr c
      rw [if_neg (by rw [c']; decide)]
      refine ⟨s1.trans s2, ?_⟩
      rw [take_next hq, List.filter_append, List.filter_cons_of_neg (by rw [c']; decide), List.filter_nil, List.append_nil]
      exact s2 _ _ d1
  · rw [List.take_length] at d1
    exact k H1 D s1 hD d1
theorem lc_vals {K : PySem.W.Frag} {H : Hp} {σ : L2.St} {i j : Nat} {R : Addr} {xs : List V} {te : TE} {f : V → V} {Q : VK} (hi : σ[i]? = some (some (.ref R))) (hj : j < σ.length) (hR : SqL K H R xs) (len : xs.length ≤ 900)
    (ht : ∀ (H1 : Hp) (x : V) (Q' : VK), x ∈ xs → Same H H1 → (∀ H2, Same H1 H2 → Q' (f x) H2) → te ((wipe σ [j]).set j (some x)) H1 Q')
    (k : ∀ (H' : Hp) (D : Addr), Same H H' → H D = none → H' D = some (.lst (xs.map f)) → Q (.ref D) H') : tLc (iList K (tVar i)) (gName j) tYes te [j] σ H Q :=
  lc_filt (p := fun _ => true) hi hj hR len (fun H1 x Q' _ _ k => yes_ (by exact k H1 (Same.refl H1))) (fun H1 x Q' hm _ s k => ht H1 x Q' hm s k) (fun H' D s d e => k H' D s d (by rw [List.filter_eq_self.mpr (fun _ _ => rfl)] at e; exact e))
/-- len(set(xs)), whole numbers -/
def diffN (ns : List Int) : Nat := (firstMet (fun i => ns.getD i 0) ns.length).length
def tLenSetG (K : PySem.W.Frag) (ta : TE) : TE := fun σ H Q => ta σ H fun x H1 => ∃ (l : Addr) (ns : List Int), x = V.ref l ∧ SqL K H1 l (ns.map V.int) ∧ ns.length ≤ 1000 ∧ Q (.int (diffN ns)) H1
section
variable {X : Cx}
theorem pe_lenSetG {a : Expr} {ta : TE} {p p2 q pos : Pos} (hc : X.calm = true) (hg : Gl X "len") (hm : X.mg "len" = none) (hg2 : Gl X "set") (hm2 : X.mg "set" = none) (ha : PE X a ta)
    (na : starEach [a] X.env = (false, eval a X.env) :: starEach [] X.env := by rfl) : PE X (.Call (.Name "len" p) [.Call (.Name "set" p2) [a] [] q] [] pos) (tLenSetG X.K ta) := by
  refine ⟨fun pins s σ H Q I h => ?_⟩
  refine Call_ (ld_blt I hg hm PySem.boot_len ?_)
  refine PyProof.Rows.callWith_builtin1 (PyProof.Rows.args_cons ?_ rfl) rfl rfl
  refine Call_ (ld_blt I hg2 hm2 PyProof.Rows.boot_set ?_)
  refine PyProof.Rows.callWith_type1 (PyProof.Rows.args_cons (thn (ha.run pins s σ H _ I h) fun v s1 ⟨x, H1, I1, r1, q1⟩ => PyProof.Rows.args_nil ?_) na) na rfl
  obtain ⟨l, ns, rfl, hq, h1, q1⟩ := q1
  cases r1
  obtain ⟨its, r, pl, hz⟩ := I1.list hq
  have hl : its.toArray.size = ns.length := by rw [List.size_toArray, ← r.length, List.length_map]
  refine call_set_list (I1.ok.hd hc) pl.isList (ns := ns) (by simpa using r.ints) (by unfold scanBound; omega) fun h' tk hS hk => ?_
  rw [hl] at hS
  refine PyProof.Rows.args_nil ?_
  obtain ⟨o, es, ep, t, ho, hex, hd, _, _, _, hf, hn⟩ := hS
  have I2 : Inv X pins σ H1 { s1 with heap := h', toks := tk } := I1.kept fun b o e => hk b o (Heap.lt_size e) e
  have le : diffN ns ≤ ns.length := firstMet_length_le _ _
  refine call_len_set ho hex hd hf (by rw [hn]; unfold diffN at le; omega) ⟨.int (diffN ns), H1, I2.tok _, ⟨_, by rw [hn]; rfl⟩, q1⟩
end
theorem fm_le (val : Nat → Int) : ∀ i, (firstMet val i).length ≤ i := firstMet_length_le val
theorem diffN_eq (ns : List Int) : diffN ns = ns.length ↔ ns.Nodup := by
  constructor
  · intro h
    have key : ∀ i, i ≤ ns.length → (firstMet (fun i => ns.getD i 0) i).length = i := fun i hi => by
      have step : ∀ d i, i + d = ns.length → (firstMet (fun i => ns.getD i 0) i).length = i := fun d => by
        induction d with
        | zero =>
          intro i e
          have : i = ns.length := by omega
          subst this
          exact h
        | succ d ih =>
          intro i e
          have h1 := ih (i + 1) (by omega)
          rw [firstMet_succ] at h1
          have h2 := fm_le (fun i => ns.getD i 0) i
          unfold step_dedup at h1
          split at h1
          · omega
          · rw [List.length_append] at h1
            have : ([ns.getD i 0] : List Int).length = 1 := rfl
            omega
      exact step (ns.length - i) i (by omega)
    refine List.pairwise_iff_getElem.mpr fun i j hi hj hij e => ?_
    have h1 := key (j + 1) hj
    have h0 := key j (by omega)
    rw [firstMet_succ] at h1
    have any : (firstMet (fun i => ns.getD i 0) j).any (· == ns.getD j 0) = true := by
      rw [firstMet_any]
      refine List.any_eq_true.mpr ⟨ns[i], List.mem_map.mpr ⟨i, List.mem_range.mpr hij, by simp [List.getD_eq_getElem?_getD, List.getElem?_eq_getElem hi]⟩, ?_⟩
      rw [e]
      simp [List.getD_eq_getElem?_getD, List.getElem?_eq_getElem hj]
    unfold step_dedup at h1
    rw [if_pos any] at h1
    omega
  · intro nd
    unfold diffN
    rw [firstMet_nodup ns nd ns.length (Nat.le_refl _), List.take_length]
end Fd
namespace Fd
open PySem PySem.Spec PyProof.Rows L2
structure P8Txt (K : PySem.W.Frag) (mg : Str → Option Value) (C : Addr) : Prop where
  all : mg "all" = none
  any : mg "any" = none
  zip : mg "zip" = none
  set : mg "set" = none
  str : mg "str" = none
  comb : mg "combinations" = some (.type "itertools.combinations")
  five : ∃ t, mg "FIVE" = some (.str "five" t)
  three : ∃ t, mg "THREE" = some (.str "three" t)
  fPts : Fn K mg "_are_points" sArePoints ["web", "things"]
  fRise : Fn K mg "_rise" sRise ["points"]
  fDiffer : Fn K mg "_differ" sDiffer ["points"]
  fRow : Fn K mg "_is_row" sIsRow ["web", "row"]
  fHeads : Fn K mg "_are_heads" sAreHeads ["web", "kind", "heads"]
  fRows : Fn K mg "_are_rows" sAreRows ["web", "pairs", "rows"]
  fPairs : Fn K mg "_pairs" sPairs ["kind", "heads"]
  fKnot : Fn K mg "is_knot" sIsKnot ["web", "found"]
  fC : FnM K C "_check_point" "Web._check_point" sWebCheckPoint ["self", "thing"]
  fT : FnM K C "tied" "Web.tied" sWebTied ["self", "one", "other"]
def inB (m : Int) (x : Int) : Bool := decide (0 ≤ x) && decide (x < m)
def ptsB (m : Int) (xs : List Int) : Bool := xs.all (inB m)
/-- each with the next one -/
def steps2 (xs : List Int) : List (Int × Int) := xs.zip xs.tail
def riseB (xs : List Int) : Bool := (steps2 xs).all fun p => decide (p.1 < p.2)
def tiesB (m : Nat) (ts : List Tie) (xs : List Int) : Bool := (steps2 xs).all fun p => decide (p.2 ∈ rowOf m ts p.1)
def rowB (m : Nat) (ts : List Tie) (xs : List Int) : Bool := ptsB m xs && decide (2 ≤ xs.length) && tiesB m ts xs
def spPts (C : Addr) : Sp := fun vs H Q _ => ∃ (H0 : Hp) (p R : Addr) (m : Nat) (ts : List Tie) (xs : List Int), vs = [.ref p, .ref R] ∧ WebAt C H0 H p m ts ∧ H R = some (.lst (iL xs)) ∧ xs.length ≤ 100 ∧ ∀ H', Same H H' → Q (.bl (ptsB m xs)) H'
def spRise : Sp := fun vs H Q _ => ∃ (R : Addr) (xs : List Int), vs = [.ref R] ∧ H R = some (.lst (iL xs)) ∧ xs.length ≤ 100 ∧ ∀ H', Same H H' → Q (.bl (riseB xs)) H'
def spDiffer : Sp := fun vs H Q _ => ∃ (R : Addr) (xs : List Int), vs = [.ref R] ∧ H R = some (.lst (iL xs)) ∧ xs.length ≤ 1000 ∧ ∀ H', Same H H' → Q (.bl (decide xs.Nodup)) H'
def spRow (C : Addr) : Sp := fun vs H Q _ => ∃ (H0 : Hp) (p R : Addr) (m : Nat) (ts : List Tie) (xs : List Int), vs = [.ref p, .ref R] ∧ WebAt C H0 H p m ts ∧ H R = some (.lst (iL xs)) ∧ xs.length ≤ 100 ∧ ∀ H', Same H H' → Q (.bl (rowB m ts xs)) H'
section
variable {P : Program} {w : World} {K : PySem.W.Frag} {mg : Str → Option Value} {base : Heap} {C : Addr}
abbrev nPts : List Str := ["web", "things", "thing"]
theorem scPts : FnScope nPts ["web", "things"] (defScope sArePoints) := ⟨rfl, rfl, rfl, by decide +kernel, rfl, by decide +kernel, by decide +kernel⟩
theorem all_bl (xs : List Int) (f : Int → Bool) : (xs.map f).all id = xs.all f := by rw [List.all_map]; rfl
theorem c_arepts (T : WTxt K mg C) (U : P8Txt K mg C) : C8.Cal P w K mg base 3 "_are_points" (spPts C) [] := by
  refine cal_of U.fPts scPts (fun vs H Q E h => ?_) (fun f cdv A outer s H vs Q E hr h => ?_)
  · obtain ⟨H0, p, R, m, ts, xs, rfl, _⟩ := h
    rfl
  · obtain ⟨H0, p, R, m, ts, xs, rfl, W, hR, len, k⟩ := h
    obtain ⟨p0, dx, Rw, aw, hp, _⟩ := id W
    refine ⟨_, pss_one (ps_ret (pe_and (pe_cmpR op_eqTy (pe_callTy call_type1 (by rfl) T.type (by decide +kernel) (pa_cons (pv 1) pa_nil)) (pe_bltn (v := .ty "list") (by rfl) T.list (by decide +kernel) rfl) (nomark _))
      (pe_one (pe_callB (cr_all rfl) (by rfl) U.all (by decide +kernel) (pa_cons (pe_lc (own := [("thing", 2)]) (g := gName 2) (tt := tYes) (te := tCall (spPoint K) [] C8.E0 (tCons (tFld K (tVar 0) "many") (tCons (tVar 2) tNil))) (by rfl) scPts.nd (pi_list (pv 1))
          (blkOk_by (own := [("thing", 2)]) (N := nPts) (sc := defScope sArePoints) (by decide +kernel)) (fun _ _ _ _ _ => pg_name (i := 2) scPts.nd rfl (Or.inl rfl)) (fun _ _ _ _ _ => pts_nil)
          (fun _ _ _ _ _ => C8.pe_c (c_point T) hr (by decide) (by rfl) (pa_cons (pe_fld (pv 0) rfl) (pa_cons (pv 2) pa_nil)))) pa_nil))))), ?_⟩
    have hRq := SqL.of (K := K) hR
    refine ⟨_, rfl, .ref R, "list", rfl, .lst hRq, "list", "list", rfl, rfl, by decide, by decide, _, rfl, ?_⟩
    refine iteT ?_
    dsimp only [tCB, tCons, tNil]
    refine lc_vals (K := K) (f := fun x => .bl (isPt m x)) rfl (Nat.lt_of_lt_of_eq (by decide : 2 < 3) rfl) hRq (by rw [List.length_map]; omega) (fun H1 x Q' hx s1 q => ?_) (fun H1 D s1 hD d1 => ?_)
    · obtain ⟨y, _, rfl⟩ := List.mem_map.mp hx
      exact ⟨_, rfl, p, C, dx, _, _, rfl, s1 _ _ hp, T.cl, T.nMany, wF_many _ _, _, rfl, (m : Int), .int y, "int", rfl, .int y, q H1 (Same.refl H1)⟩
    · have e : (iL xs).map (fun x => V.bl (isPt m x)) = (xs.map (inB m)).map V.bl := by
        unfold iL
        rw [List.map_map, List.map_map]
        rfl
      rw [e] at d1
      refine ⟨D, xs.map (inB m), rfl, SqL.of d1, ?_⟩
      rw [all_bl]
      exact k H1 s1
end
end Fd
namespace Fd
open PySem PySem.Spec PyProof.Rows L2
theorem cut1 (xs : List Int) : cutV (iL xs) (some 1) none = iL xs.tail := by
  unfold cutV
  have e1 : HT.sIx (iL xs).length 0 (some 1) = min 1 (iL xs).length := HT.sIx_nat _ _ 1
  have e2 : HT.sIx (iL xs).length (iL xs).length none = (iL xs).length := rfl
  rw [e1, e2]
  cases xs with
  | nil => rfl
  | cons x xs =>
    have : min 1 (iL (x :: xs)).length = 1 := by
      show min 1 (_ + 1) = 1
      omega
    rw [this, List.take_of_length_le (by rw [List.length_drop]; omega)]
    rfl
theorem steps2_len (xs : List Int) : (steps2 xs).length = xs.length - 1 := by
  unfold steps2
  rw [List.length_zip, List.length_tail]
  omega
theorem steps2_at {xs : List Int} {i : Nat} {x y : Int} (hx : xs[i]? = some x) (hy : xs.tail[i]? = some y) : (steps2 xs)[i]? = some (x, y) := by
  unfold steps2
  rw [List.getElem?_zip_eq_some]
  exact ⟨hx, hy⟩
theorem wipe2 {σ : L2.St} {a b : Nat} (hab : a ≠ b) (X Y : Option V) : wipe (((wipe σ [a, b]).set a X).set b Y) [a, b] = wipe σ [a, b] := by
  apply List.ext_getElem?
  intro i
  simp only [wipe, List.foldr, List.foldl, List.getElem?_set, List.length_set]
  by_cases h1 : a = i
  · by_cases h2 : b = i
    · exact absurd (h1.trans h2.symm) hab
    · simp [h1, h2]
  · by_cases h2 : b = i
    · simp [h1, h2]
    · simp [h1, h2]
theorem steps_W {K : PySem.W.Frag} {H1 : Hp} {R S D : Addr} {xs : List Int} {σ : L2.St} {a b : Nat} {te : TE} {fb : Int → Int → Bool} {Qd : Hp → Prop} (hab : a ≠ b) (hR : H1 R = some (.lst (iL xs))) (hS : H1 S = some (.lst (iL xs.tail))) (hD : H1 D = none) (len : xs.length ≤ 100)
    (ht : ∀ (H2 : Hp) (x y : Int) (Q' : VK), (x, y) ∈ steps2 xs → Same H1 H2 → (∀ H3, Same H2 H3 → Q' (.bl (fb x y)) H3) → te (((wipe σ [a, b]).set a (some (.int x))).set b (some (.int y))) H2 Q')
    (k : ∀ H2, Same H1 H2 → H2 D = some (.lst (((steps2 xs).map fun p => fb p.1 p.2).map V.bl)) → Qd H2) :
    ∃ W : Nat → Nat → Hp → Prop, (∃ m, W 0 m (upd H1 D (.lst []))) ∧ ∀ i m H, W i m H →
      ((Itz K R S).stop i H ∧ Qd H) ∨ ((Itz K R S).go i H ∧ ∃ Nx : Hp → Prop, (∀ H', Nx H' → ∃ m', m' < m ∧ W (i + 1) m' H') ∧ ∀ x H', (Itz K R S).yld i H x H' → (gTup K 2 (gCons (gName a) (gCons (gName b) gNil))) x (wipe σ [a, b]) H' fun σ2 H2 => wipe σ2 [a, b] = wipe σ [a, b] ∧ tYes σ2 H2 fun b H3 =>
        if b = true then te σ2 H3 fun y H4 => ∃ acc, H4 D = some (.lst acc) ∧ acc.length < sizeLine ∧ Nx (upd H4 D (.lst (acc ++ [y]))) else Nx H3) := by
  have sl := steps2_len xs
  refine lc_it (walk_zip (K := K) (a := R) (b := S) (xs := iL xs) (ys := iL xs.tail) rfl) (fun i H2 => Same H1 H2 ∧ H2 D = some (.lst ((((steps2 xs).take i).map fun p => fb p.1 p.2).map V.bl))) ⟨Same.put hD, by rw [upd_same]; rfl⟩ (fun i H2 _ ⟨s2, _⟩ => ⟨SqL.of (s2 _ _ hR), SqL.of (s2 _ _ hS)⟩) (fun i v H2 H3 hi ⟨s2, d2⟩ y => ?_) (fun H2 ⟨s2, d2⟩ => ?_)
  · obtain ⟨T, x0, y0, rfl, hT, rfl, ex, ey⟩ := y
    obtain ⟨x, hx, rfl⟩ := iL_at ex
    obtain ⟨z, hz, rfl⟩ := iL_at ey
    have hst := steps2_at hx hz
    refine ⟨T, _, rfl, SqT.of upd_same, rfl, _, _, rfl, _, _, rfl, rfl, ?_⟩
    refine ⟨wipe2 hab _ _, ?_⟩
    refine yes_ ?_
    refine iteT ?_
    have s3 := Same.put (o := .tup [.int x, .int z]) hT
    refine ht _ x z _ (List.mem_of_getElem? hst) (s2.trans s3) fun H4 s4 => ?_
    refine ⟨_, s4 _ _ (s3 _ _ d2), ?_, Same.write (s2.trans (s3.trans s4)) hD, ?_⟩
    · rw [List.length_map, List.length_map, List.length_take]
      exact small (by omega)
    · rw [upd_same, take_next hst, List.map_append, List.map_append]
      rfl
  · have e : min (iL xs).length (iL xs.tail).length = (steps2 xs).length := by
      rw [sl, List.length_map, List.length_map, List.length_tail]
      omega
    rw [e, List.take_length] at d2
    exact k H2 s2 d2
section
variable {P : Program} {w : World} {K : PySem.W.Frag} {mg : Str → Option Value} {base : Heap} {C : Addr}
abbrev nRise : List Str := ["points", "one", "other"]
theorem scRise : FnScope nRise ["points"] (defScope sRise) := ⟨rfl, rfl, rfl, by decide +kernel, rfl, by decide +kernel, by decide +kernel⟩
theorem c_rise (T : WTxt K mg C) (U : P8Txt K mg C) : C8.Cal P w K mg base 1 "_rise" spRise [] := by
  refine cal_of U.fRise scRise (fun vs H Q E h => ?_) (fun f cdv A outer s H vs Q E hr h => ?_)
  · obtain ⟨R, xs, rfl, _⟩ := h
    rfl
  · obtain ⟨R, xs, rfl, hR, len, k⟩ := h
    refine ⟨_, pss_one (ps_ret (pe_callB (cr_all rfl) (by rfl) U.all (by decide +kernel) (pa_cons (pe_lc (own := [("one", 1), ("other", 2)]) (g := gTup K 2 (gCons (gName 1) (gCons (gName 2) gNil))) (tt := tYes) (te := tOp (rI0 fun i j => .bl (decide (i < j))) (tVar 1) (tVar 2)) (by rfl) scRise.nd
          (pi_zip (by rfl) U.zip (pa_cons (pv 0) (pa_cons (pe_slice sl_list (pv 0) (po_some pe_int) po_none) pa_nil)))
          (blkOk_by (own := [("one", 1), ("other", 2)]) (N := nRise) (sc := defScope sRise) (by decide +kernel))
          (fun _ _ _ _ _ => pg_tup (by rfl) (pgs_cons (pg_name (i := 1) scRise.nd rfl (Or.inl rfl)) (pgs_cons (pg_name (i := 2) scRise.nd rfl (Or.inl rfl)) pgs_nil))) (fun _ _ _ _ _ => pts_nil)
          (fun _ _ _ _ _ => pe_cmpR op_lt (pv 1) (pv 2) (nomark _))) pa_nil))), ?_⟩
    refine ⟨_, rfl, _, rfl, 1, rfl, R, iL xs, rfl, SqL.of hR, fun S hS => ?_⟩
    rw [cut1]
    have s1 := Same.put (o := .lst (iL xs.tail)) hS
    refine ⟨R, S, _, _, rfl, SqL.of (s1 _ _ hR), SqL.of upd_same, fun D hD => ?_⟩
    refine steps_W (fb := fun x y => decide (x < y)) (by decide) (s1 _ _ hR) upd_same hD len (fun H2 x y Q' _ s2 q => ?_) (fun H2 s2 d2 => ?_)
    · exact ⟨_, rfl, _, rfl, x, y, rfl, rfl, q H2 (Same.refl H2)⟩
    · refine ⟨D, _, rfl, SqL.of d2, ?_⟩
      rw [List.all_map]
      exact k H2 (s1.trans s2)
theorem scDiffer : FnScope ["points"] ["points"] (defScope sDiffer) := ⟨rfl, rfl, rfl, by decide +kernel, rfl, by decide +kernel, by decide +kernel⟩
theorem c_differ (T : WTxt K mg C) (U : P8Txt K mg C) : C8.Cal P w K mg base 1 "_differ" spDiffer [] := by
  refine cal_of U.fDiffer scDiffer (fun vs H Q E h => ?_) (fun f cdv A outer s H vs Q E hr h => ?_)
  · obtain ⟨R, xs, rfl, _⟩ := h
    rfl
  · obtain ⟨R, xs, rfl, hR, len, k⟩ := h
    refine ⟨_, pss_one (ps_ret (pe_cmpR op_eq (pe_lenSetG rfl (by rfl) T.len (by rfl) U.set (pv 0)) (pe_callB call_len_seq (by rfl) T.len PySem.boot_len (pa_cons (pv 0) pa_nil)) (nomark _))), ?_⟩
    refine ⟨_, rfl, R, xs, rfl, SqL.of hR, len, _, rfl, R, iL xs, rfl, .inl (SqL.of hR), rfl, ?_⟩
    have q := k H (Same.refl H)
    rw [show decide xs.Nodup = decide (V.int (diffN xs) = V.int (iL xs).length) from ?_] at q
    · exact q
    · rw [decide_eq_decide, ← diffN_eq, List.length_map]
      constructor
      · intro z
        rw [z]
      · intro z
        have := V.int.inj z
        omega
end
end Fd
namespace Fd
open PySem PySem.Spec PyProof.Rows L2
/-! ### lists of lists of ints as data -/
def rowD (r : List Int) : PyData := .list (r.map PyData.int)
def lstD (rss : List (List Int)) : PyData := .list (rss.map rowD)
theorem rows_lay : ∀ rss : List (List Int), PyData.canLayAll0 (rss.map rowD) = true
  | [] => by simp [PyData.canLayAll0]
  | r :: rss => by
    have h : (rowD r).canLay0 = true := by simp only [rowD, PyData.canLay0]; exact inl_lay r
    simp [PyData.canLayAll0, h, rows_lay rss]
theorem rows_depth : ∀ rss : List (List Int), PyData.depthAll (rss.map rowD) ≤ 1
  | [] => by simp [PyData.depthAll]
  | r :: rss => by
    have h1 := rows_depth rss
    have h2 : (rowD r).depth = 1 := by simp only [rowD, PyData.depth, inl_depth]
    simp only [List.map_cons, PyData.depthAll]
    omega
theorem lstD_shaped (rss : List (List Int)) : SeqAt.shaped (lstD rss) = true := by
  have h := rows_depth rss
  refine shaped_by (by simp only [lstD, PyData.canLay0]; exact rows_lay rss) ?_
  simp only [lstD, PyData.depth]
  omega
theorem lstD_refl (rss : List (List Int)) : PyData.eqv (lstD rss) (lstD rss) = true := SeqAt.eqv_refl _ (SeqAt.canLay_of_shaped (lstD_shaped rss))
def RowIs (H : Hp) (a : Addr) (r : List Int) : Prop := H a = some (.lst (iL r))
structure ListsAt (H : Hp) (D : Addr) (rss : List (List Int)) : Prop where
  ex : ∃ as : List Addr, H D = some (.lst (as.map V.ref)) ∧ Paired (RowIs H) as rss
theorem ListsAt.same {H H' : Hp} {D : Addr} {rss : List (List Int)} (h : ListsAt H D rss) (s : Same H H') : ListsAt H' D rss := by
  obtain ⟨as, h1, h2⟩ := h.ex
  exact ⟨as, s _ _ h1, Paired.mono (fun a r e => s _ _ e) h2⟩
theorem paired_of {α β : Type} {F : α → β → Prop} : ∀ {xs : List α} {ys : List β}, xs.length = ys.length → (∀ (i : Nat) (a : α) (b : β), xs[i]? = some a → ys[i]? = some b → F a b) → Paired F xs ys
  | [], [], _, _ => .nil
  | [], _ :: _, h, _ => by simp at h
  | _ :: _, [], h, _ => by simp at h
  | a :: xs, b :: ys, h, k => .cons (k 0 a b rfl rfl) (paired_of (by simpa using h) fun i x y e1 e2 => k (i + 1) x y (by simpa using e1) (by simpa using e2))
theorem RowsAt.lists {H0 H : Hp} {R : Addr} {as : List Addr} {rss : List (List Int)} (h : RowsAt H0 H R as rss) : ListsAt H R rss := ⟨as, h.top, paired_of h.len fun i a r e1 e2 => (h.row i a r e1 e2).2⟩
theorem dp_row {K : PySem.W.Frag} {H : Hp} {a : Addr} {r : List Int} (h : RowIs H a r) : Dp K H (.ref a) (rowD r) := dp_ints (SqL.of h)
theorem dp_rows {K : PySem.W.Frag} {H : Hp} : ∀ {as : List Addr} {rss : List (List Int)}, Paired (RowIs H) as rss → DpAll K H (as.map V.ref) (rss.map rowD)
  | _, _, .nil => .nil
  | _, _, .cons r t => .cons (dp_row r) (dp_rows t)
theorem dp_lists {K : PySem.W.Frag} {H : Hp} {D : Addr} {rss : List (List Int)} (h : ListsAt H D rss) : Dp K H (.ref D) (lstD rss) := by
  obtain ⟨as, h1, h2⟩ := h.ex
  exact .lst (SqL.of h1) (dp_rows h2)
/-- a new row is put behind the others -/
theorem rows_more {H : Hp} {D q : Addr} {as : List Addr} {rss : List (List Int)} {r : List Int} (d : H D = some (.lst (as.map V.ref))) (h : Paired (RowIs H) as rss) (hq : RowIs H q r) (n : ∀ a ∈ q :: as, a ≠ D) :
    ListsAt (upd H D (.lst (as.map V.ref ++ [.ref q]))) D (rss ++ [r]) := by
  refine ⟨as ++ [q], by rw [upd_same, List.map_append]; rfl, Paired.snoc ?_ ?_⟩
  · refine paired_of h.length fun i a r' e1 e2 => ?_
    obtain ⟨r'', e3, k⟩ := paired_get h e1
    cases Option.some.inj (e2.symm.trans e3)
    show upd H D _ a = _
    rw [upd_ne (n a (List.mem_cons_of_mem _ (List.mem_of_getElem? e1)))]
    exact k
  · show upd H D _ q = _
    rw [upd_ne (n q List.mem_cons_self)]
    exact hq
theorem RowsAt.more' {H0 H H' : Hp} {R q : Addr} {as : List Addr} {rss : List (List Int)} {r : List Int} (h : RowsAt H0 H R as rss) (s : Same H0 H) (s' : Same H H') (hq : H q = none) (d : H' q = some (.lst (iL r))) :
    RowsAt H0 (upd H' R (.lst (as.map V.ref ++ [.ref q]))) R (as ++ [q]) (rss ++ [r]) := by
  have Rq : R ≠ q := ne_of_none h.top hq
  have h2 := h.same s'
  have qas : q ∉ as := fun hm => by
    obtain ⟨j, hj⟩ := List.mem_iff_getElem?.mp hm
    have hj2 : j < rss.length := by
      rw [← h.len]
      exact (List.getElem?_eq_some_iff.mp hj).1
    have z := (h.row j q _ hj (List.getElem?_eq_getElem hj2)).2
    rw [hq] at z
    cases z
  refine ⟨by rw [upd_same, List.map_append]; rfl, h.new, by simp [h.len], List.nodup_append.mpr ⟨h.nd, by simp, fun x hx y hy e => ?_⟩, fun hm => ?_, fun j a z e1 e2 => ?_⟩
  · rw [List.mem_singleton.mp hy] at e
    exact qas (e ▸ hx)
  · rcases List.mem_append.mp hm with c | c
    · exact h.out c
    · exact Rq (List.mem_singleton.mp c)
  · by_cases hj : j < as.length
    · rw [List.getElem?_append_left hj] at e1
      rw [List.getElem?_append_left (by rw [← h.len]; exact hj)] at e2
      obtain ⟨k1, k2⟩ := h2.row j a z e1 e2
      have aR : a ≠ R := fun e => h.out (e ▸ List.mem_of_getElem? e1)
      exact ⟨k1, by rw [upd_ne aR]; exact k2⟩
    · have hj' : as.length ≤ j := Nat.le_of_not_lt hj
      rw [List.getElem?_append_right hj'] at e1
      rw [List.getElem?_append_right (by rw [← h.len]; exact hj')] at e2
      obtain ⟨_, e1b⟩ := List.getElem?_eq_some_iff.mp e1
      obtain ⟨_, e2b⟩ := List.getElem?_eq_some_iff.mp e2
      simp only [List.getElem_singleton] at e1b e2b
      subst e1b
      subst e2b
      exact ⟨s.free hq, by rw [upd_ne Rq.symm]; exact d⟩
theorem row_empty (r : List Int) : PyData.eqv (rowD r) (.list []) = decide (r = []) := by
  cases r with
  | nil => rfl
  | cons x r =>
    simp only [rowD, List.map_cons, PyData.eqv, PyData.eqvAll]
    rfl
end Fd
namespace Fd
open PySem PySem.Spec PyProof.Rows L2
/-- cells with these contents, in this order -/
abbrev Cells {α : Type} (o : α → HO) (H : Hp) (bs : List Addr) (as : List α) : Prop := Paired (fun (b : Addr) (a : α) => H b = some (o a)) bs as
theorem Cells.same {α : Type} {o : α → HO} {H H' : Hp} {bs : List Addr} {as : List α} (h : Cells o H bs as) (s : Same H H') : Cells o H' bs as := Paired.mono (fun _ _ e => s _ _ e) h
theorem Cells.write {α : Type} {o : α → HO} {H : Hp} {bs : List Addr} {as : List α} {D : Addr} {u : HO} (h : Cells o H bs as) (n : ∀ b ∈ bs, b ≠ D) : Cells o (upd H D u) bs as :=
  paired_of h.length fun i b a e1 e2 => by
    obtain ⟨a', e3, k⟩ := paired_get h e1
    cases Option.some.inj (e2.symm.trans e3)
    show upd H D u b = _
    rw [upd_ne (n b (List.mem_of_getElem? e1))]
    exact k
/-- a comprehension over a list, a cell for each item, some left out -/
theorem lc_at {α : Type} {o : α → HO} {K : PySem.W.Frag} {H : Hp} {σ : L2.St} {i j : Nat} {R : Addr} {xs : List V} {tt : TT} {te : TE} {f : V → α} {p : V → Bool} {Q : VK} (hi : σ[i]? = some (some (.ref R))) (hj : j < σ.length) (hR : SqL K H R xs) (len : xs.length ≤ 900)
    (hp : ∀ (H1 : Hp) (x : V) (Q' : Bool → Hp → Prop), x ∈ xs → Same H H1 → (∀ H2, Same H1 H2 → Q' (p x) H2) → tt ((wipe σ [j]).set j (some x)) H1 Q')
    (ht : ∀ (H1 : Hp) (x : V) (Q' : VK), x ∈ xs → p x = true → Same H H1 → (∀ H2 b, Same H1 H2 → H2 b = some (o (f x)) → (H1 b = none ∨ H b ≠ none) → Q' (.ref b) H2) → te ((wipe σ [j]).set j (some x)) H1 Q')
    (k : ∀ (H' : Hp) (D : Addr) (bs : List Addr), Same H H' → H D = none → H' D = some (.lst (bs.map V.ref)) → Cells o H' bs ((xs.filter p).map f) → Q (.ref D) H') : tLc (iList K (tVar i)) (gName j) tt te [j] σ H Q := by
  refine ⟨_, hi, R, rfl, ⟨_, hR⟩, fun D hD => ?_⟩
  refine lc_list (K := K) (a := R) (xs := xs) (fun q H1 => Same H H1 ∧ ∃ bs : List Addr, H1 D = some (.lst (bs.map V.ref)) ∧ Cells o H1 bs (((xs.take q).filter p).map f) ∧ ∀ b ∈ bs, b ≠ D) ⟨Same.put hD, [], upd_same, .nil, fun b hb => by cases hb⟩ (fun q H1 _ ⟨s1, _⟩ => s1.seq hR) (fun q x H1 hq ⟨s1, bs, d1, c1, n1⟩ => ?_) (fun H1 ⟨s1, bs, d1, c1, n1⟩ => ?_)
  · have hm := List.mem_of_getElem? hq
    have hl : ((xs.take q).filter p).length ≤ 900 := by
      have := List.length_filter_le p (xs.take q)
      rw [List.length_take] at this
      omega
    have bl := c1.length
    rw [List.length_map] at bl
    refine ⟨by simp [wipe], ?_⟩
    refine hp H1 x _ hm s1 fun H2 s2 => ?_
    by_cases c : p x = true
    · rw [if_pos c]
      refine ht H2 x _ hm c (s1.trans s2) fun H3 b s3 hb nb => ?_
      have s13 := s2.trans s3
      have bD : b ≠ D := fun z => by
        subst z
        rcases nb with z | z
        · rw [s2 _ _ d1] at z
          cases z
        · exact z hD
      refine ⟨_, s13 _ _ d1, by rw [List.length_map]; exact small (by omega), Same.write (s1.trans s13) hD, bs ++ [b], by rw [upd_same, List.map_append]; rfl, ?_, fun y hy => ?_⟩
      · rw [take_next hq, List.filter_append, List.map_append, List.filter_cons_of_pos c, List.filter_nil]
        exact Paired.snoc ((c1.same s13).write n1) (by rw [upd_ne bD]; exact hb)
      · rcases List.mem_append.mp hy with z | z
        · exact n1 y z
        · rw [List.mem_singleton.mp z]
          exact bD
    · have c' := Bool.eq_false_iff.mpr c
      rw [if_neg (by rw [c']; decide)]
      refine ⟨s1.trans s2, bs, s2 _ _ d1, ?_, n1⟩
      rw [take_next hq, List.filter_append, List.filter_cons_of_neg (by rw [c']; decide), List.filter_nil, List.append_nil]
      exact c1.same s2
  · rw [List.take_length] at c1
    exact k H1 D bs s1 hD d1 c1
theorem wipe0 {σ : L2.St} {a b : Nat} (hab : a ≠ b) (X : Option V) : wipe ((wipe σ [a, b]).set a X) [a, b] = wipe σ [a, b] := by
  apply List.ext_getElem?
  intro i
  simp only [wipe, List.getElem?_set, List.length_set]
  by_cases h1 : a = i
  · by_cases h2 : b = i
    · exact absurd (h1.trans h2.symm) hab
    · simp [h1, h2]
  · by_cases h2 : b = i
    · simp [h1, h2]
    · simp [h1, h2]
theorem SqL.cell {K : PySem.W.Frag} {H H' : Hp} {B : Addr} {l : List V} (h : SqL K H B l) (e : H' B = H B) : SqL K H' B l := by
  rcases h with h | h
  · exact .inl (by rcases h with h | ⟨o, h⟩; exact .inl (e.trans h); exact .inr ⟨o, e.trans h⟩)
  · exact .inr h
theorem wipe1 {σ : L2.St} {a b : Nat} (hab : a ≠ b) (X Y : Option V) : wipe ((wipe ((wipe σ [a, b]).set a X) [b]).set b Y) [b] = wipe ((wipe σ [a, b]).set a X) [b] := by
  simp [wipe]
/-- two fors, values -/
theorem lc2_W {K : PySem.W.Frag} {H1 : Hp} {R D : Addr} {xs : List V} {ys : V → List V} {f : V → V → V} {σ : L2.St} {a b : Nat} {wi1 : TI} {te : TE} {Qd : Hp → Prop} (hab : a ≠ b) (hR : SqL K H1 R xs) (hD : H1 D = none) (len : (xs.flatMap ys).length ≤ 900)
    (hin : ∀ (H2 : Hp) (x : V) (k : It → Hp → Prop), x ∈ xs → Same H1 H2 → (∀ H3 B, Same H2 H3 → SqL K H3 B (ys x) → (H2 B = none ∨ H1 B ≠ none) → k (Itl K B) H3) → wi1 ((wipe σ [a, b]).set a (some x)) H2 k)
    (ht : ∀ (H2 : Hp) (x y : V) (Q' : VK), x ∈ xs → y ∈ ys x → Same H1 H2 → (∀ H3, Same H2 H3 → Q' (f x y) H3) → te ((wipe ((wipe σ [a, b]).set a (some x)) [b]).set b (some y)) H2 Q')
    (k : ∀ H2, Same H1 H2 → H2 D = some (.lst (xs.flatMap fun x => (ys x).map (f x))) → Qd H2) :
    ∃ W : Nat → Nat → Hp → Prop, (∃ m, W 0 m (upd H1 D (.lst []))) ∧ ∀ i m H, W i m H →
      ((Itl K R).stop i H ∧ Qd H) ∨ ((Itl K R).go i H ∧ ∃ Nx : Hp → Prop, (∀ H', Nx H' → ∃ m', m' < m ∧ W (i + 1) m' H') ∧ ∀ x H', (Itl K R).yld i H x H' → (gName a) x (wipe σ [a, b]) H' fun σ2 H2 => wipe σ2 [a, b] = wipe σ [a, b] ∧ tYes σ2 H2 fun c H3 =>
        if c = true then wi1 σ2 H3 fun J1 H4 => ∃ W1 : Nat → Nat → Hp → Prop, (∃ m, W1 0 m H4) ∧ ∀ j q H, W1 j q H → (J1.stop j H ∧ Nx H) ∨ (J1.go j H ∧ ∃ Nx1 : Hp → Prop, (∀ H', Nx1 H' → ∃ q', q' < q ∧ W1 (j + 1) q' H') ∧ ∀ x H', J1.yld j H x H' →
          (gName b) x (wipe σ2 [b]) H' fun σ3 H5 => wipe σ3 [b] = wipe σ2 [b] ∧ tYes σ3 H5 fun c H6 => if c = true then te σ3 H6 fun y H7 => ∃ acc, H7 D = some (.lst acc) ∧ acc.length < sizeLine ∧ Nx1 (upd H7 D (.lst (acc ++ [y]))) else Nx1 H6) else Nx H3) := by
  have part : ∀ n, ((xs.take n).flatMap fun x => (ys x).map (f x)).length ≤ (xs.flatMap ys).length := fun n => by
    have e : xs.flatMap ys = (xs.take n).flatMap ys ++ (xs.drop n).flatMap ys := by rw [← List.flatMap_append, List.take_append_drop]
    rw [e, List.length_append, List.length_flatMap, List.length_flatMap]
    simp only [List.length_map]
    omega
  refine ⟨fun i m H => m = xs.length - i ∧ i ≤ xs.length ∧ Same H1 H ∧ H D = some (.lst ((xs.take i).flatMap fun x => (ys x).map (f x))), ⟨_, rfl, Nat.zero_le _, Same.put hD, by rw [upd_same]; rfl⟩, ?_⟩
  rintro i m H ⟨rfl, hi, s1, d1⟩
  by_cases hlt : i < xs.length
  · have ex : xs[i]? = some xs[i] := List.getElem?_eq_getElem hlt
    generalize xs[i] = x at ex
    have hx := List.mem_of_getElem? ex
    refine .inr ⟨⟨xs, x, s1.seq hR, ex⟩, fun H2 => i + 1 ≤ xs.length ∧ Same H1 H2 ∧ H2 D = some (.lst ((xs.take (i + 1)).flatMap fun x => (ys x).map (f x))), fun H' q => ⟨xs.length - (i + 1), by omega, rfl, q⟩, fun y H' hy => ?_⟩
    obtain ⟨rfl, hy⟩ := hy
    obtain rfl : y = x := Option.some.inj ((hy xs (s1.seq hR)).symm.trans ex)
    have hl := part (i + 1)
    rw [take_next ex, List.flatMap_append, List.length_append] at hl
    have e1 : ([y].flatMap fun x => (ys x).map (f x)) = (ys y).map (f y) := by simp
    rw [e1, List.length_map] at hl
    refine ⟨wipe0 hab _, ?_⟩
    refine yes_ ?_
    refine iteT ?_
    refine hin H' y _ hx s1 fun H3 B s3 hB nb => ?_
    have bD : B ≠ D := fun z => by
      subst z
      rcases nb with z | z
      · rw [d1] at z
        cases z
      · exact z hD
    refine ⟨fun j q H4 => q = (ys y).length - j ∧ j ≤ (ys y).length ∧ Same H1 H4 ∧ SqL K H4 B (ys y) ∧ H4 D = some (.lst (((xs.take i).flatMap fun x => (ys x).map (f x)) ++ ((ys y).take j).map (f y))), ⟨_, rfl, Nat.zero_le _, s1.trans s3, hB, by rw [List.take_zero, List.map_nil, List.append_nil]; exact s3 _ _ d1⟩, ?_⟩
    rintro j q H4 ⟨rfl, hj, s4, b4, d4⟩
    by_cases hjl : j < (ys y).length
    · have ey : (ys y)[j]? = some (ys y)[j] := List.getElem?_eq_getElem hjl
      generalize (ys y)[j] = z at ey
      refine .inr ⟨⟨ys y, z, b4, ey⟩, fun H5 => j + 1 ≤ (ys y).length ∧ Same H1 H5 ∧ SqL K H5 B (ys y) ∧ H5 D = some (.lst (((xs.take i).flatMap fun x => (ys x).map (f x)) ++ ((ys y).take (j + 1)).map (f y))), fun H' q => ⟨(ys y).length - (j + 1), by omega, rfl, q⟩, fun v H5 hv => ?_⟩
      obtain ⟨rfl, hv⟩ := hv
      obtain rfl : v = z := Option.some.inj ((hv _ b4).symm.trans ey)
      refine ⟨wipe1 hab _ _, ?_⟩
      refine yes_ ?_
      refine iteT ?_
      refine ht H5 y v _ hx (List.mem_of_getElem? ey) s4 fun H6 s6 => ?_
      have s16 := s4.trans s6
      refine ⟨_, s6 _ _ d4, ?_, hjl, Same.write s16 hD, SqL.cell (s6.seq b4) (upd_ne bD), ?_⟩
      · rw [List.length_append, List.length_map, List.length_take]
        exact small (by omega)
      · rw [upd_same, take_next ey, List.map_append, ← List.append_assoc]
        rfl
    · have ej : j = (ys y).length := by omega
      subst ej
      refine .inl ⟨⟨_, b4, Nat.le_refl _⟩, hlt, s4, ?_⟩
      rw [take_next ex, List.flatMap_append, e1]
      rw [List.take_length] at d4
      exact d4
  · have e : i = xs.length := by omega
    subst e
    rw [List.take_length] at d1
    exact .inl ⟨⟨xs, s1.seq hR, Nat.le_refl _⟩, k H s1 d1⟩
/-- two fors, cells -/
theorem lc2_C {α : Type} {o : α → HO} {K : PySem.W.Frag} {H1 : Hp} {R D : Addr} {xs : List V} {ys : V → List V} {f : V → V → α} {σ : L2.St} {a b : Nat} {wi1 : TI} {te : TE} {Qd : Hp → Prop} (hab : a ≠ b) (hR : SqL K H1 R xs) (hD : H1 D = none) (len : (xs.flatMap ys).length ≤ 900)
    (hin : ∀ (H2 : Hp) (x : V) (k : It → Hp → Prop), x ∈ xs → Same H1 H2 → (∀ H3 B, Same H2 H3 → SqL K H3 B (ys x) → (H2 B = none ∨ H1 B ≠ none) → k (Itl K B) H3) → wi1 ((wipe σ [a, b]).set a (some x)) H2 k)
    (ht : ∀ (H2 : Hp) (x y : V) (Q' : VK), x ∈ xs → y ∈ ys x → Same H1 H2 → (∀ H3 c, Same H2 H3 → H3 c = some (o (f x y)) → (H2 c = none ∨ H1 c ≠ none) → Q' (.ref c) H3) → te ((wipe ((wipe σ [a, b]).set a (some x)) [b]).set b (some y)) H2 Q')
    (k : ∀ H2 (bs : List Addr), Same H1 H2 → H2 D = some (.lst (bs.map V.ref)) → Cells o H2 bs (xs.flatMap fun x => (ys x).map (f x)) → Qd H2) :
    ∃ W : Nat → Nat → Hp → Prop, (∃ m, W 0 m (upd H1 D (.lst []))) ∧ ∀ i m H, W i m H →
      ((Itl K R).stop i H ∧ Qd H) ∨ ((Itl K R).go i H ∧ ∃ Nx : Hp → Prop, (∀ H', Nx H' → ∃ m', m' < m ∧ W (i + 1) m' H') ∧ ∀ x H', (Itl K R).yld i H x H' → (gName a) x (wipe σ [a, b]) H' fun σ2 H2 => wipe σ2 [a, b] = wipe σ [a, b] ∧ tYes σ2 H2 fun c H3 =>
        if c = true then wi1 σ2 H3 fun J1 H4 => ∃ W1 : Nat → Nat → Hp → Prop, (∃ m, W1 0 m H4) ∧ ∀ j q H, W1 j q H → (J1.stop j H ∧ Nx H) ∨ (J1.go j H ∧ ∃ Nx1 : Hp → Prop, (∀ H', Nx1 H' → ∃ q', q' < q ∧ W1 (j + 1) q' H') ∧ ∀ x H', J1.yld j H x H' →
          (gName b) x (wipe σ2 [b]) H' fun σ3 H5 => wipe σ3 [b] = wipe σ2 [b] ∧ tYes σ3 H5 fun c H6 => if c = true then te σ3 H6 fun y H7 => ∃ acc, H7 D = some (.lst acc) ∧ acc.length < sizeLine ∧ Nx1 (upd H7 D (.lst (acc ++ [y]))) else Nx1 H6) else Nx H3) := by
  have part : ∀ n, ((xs.take n).flatMap fun x => (ys x).map (f x)).length ≤ (xs.flatMap ys).length := fun n => by
    have e : xs.flatMap ys = (xs.take n).flatMap ys ++ (xs.drop n).flatMap ys := by rw [← List.flatMap_append, List.take_append_drop]
    rw [e, List.length_append, List.length_flatMap, List.length_flatMap]
    simp only [List.length_map]
    omega
  refine ⟨fun i m H => m = xs.length - i ∧ i ≤ xs.length ∧ Same H1 H ∧ ∃ bs : List Addr, H D = some (.lst (bs.map V.ref)) ∧ Cells o H bs ((xs.take i).flatMap fun x => (ys x).map (f x)) ∧ ∀ b ∈ bs, b ≠ D, ⟨_, rfl, Nat.zero_le _, Same.put hD, [], upd_same, .nil, fun b hb => by cases hb⟩, ?_⟩
  rintro i m H ⟨rfl, hi, s1, bs, d1, c1, n1⟩
  by_cases hlt : i < xs.length
  · have ex : xs[i]? = some xs[i] := List.getElem?_eq_getElem hlt
    generalize xs[i] = x at ex
    have hx := List.mem_of_getElem? ex
    refine .inr ⟨⟨xs, x, s1.seq hR, ex⟩, fun H2 => i + 1 ≤ xs.length ∧ Same H1 H2 ∧ ∃ bs : List Addr, H2 D = some (.lst (bs.map V.ref)) ∧ Cells o H2 bs ((xs.take (i + 1)).flatMap fun x => (ys x).map (f x)) ∧ ∀ b ∈ bs, b ≠ D, fun H' q => ⟨xs.length - (i + 1), by omega, rfl, q⟩, fun y H' hy => ?_⟩
    obtain ⟨rfl, hy⟩ := hy
    obtain rfl : y = x := Option.some.inj ((hy xs (s1.seq hR)).symm.trans ex)
    have hl := part (i + 1)
    rw [take_next ex, List.flatMap_append, List.length_append] at hl
    have e1 : ([y].flatMap fun x => (ys x).map (f x)) = (ys y).map (f y) := by simp
    rw [e1, List.length_map] at hl
    refine ⟨wipe0 hab _, ?_⟩
    refine yes_ ?_
    refine iteT ?_
    refine hin H' y _ hx s1 fun H3 B s3 hB nb => ?_
    have bD : B ≠ D := fun z => by
      subst z
      rcases nb with z | z
      · rw [d1] at z
        cases z
      · exact z hD
    refine ⟨fun j q H4 => q = (ys y).length - j ∧ j ≤ (ys y).length ∧ Same H1 H4 ∧ SqL K H4 B (ys y) ∧ ∃ bs : List Addr, H4 D = some (.lst (bs.map V.ref)) ∧ Cells o H4 bs (((xs.take i).flatMap fun x => (ys x).map (f x)) ++ ((ys y).take j).map (f y)) ∧ ∀ b ∈ bs, b ≠ D, ⟨_, rfl, Nat.zero_le _, s1.trans s3, hB, bs, s3 _ _ d1, by rw [List.take_zero, List.map_nil, List.append_nil]; exact c1.same s3, n1⟩, ?_⟩
    rintro j q H4 ⟨rfl, hj, s4, b4, bs4, d4, c4, n4⟩
    by_cases hjl : j < (ys y).length
    · have ey : (ys y)[j]? = some (ys y)[j] := List.getElem?_eq_getElem hjl
      generalize (ys y)[j] = z at ey
      refine .inr ⟨⟨ys y, z, b4, ey⟩, fun H5 => j + 1 ≤ (ys y).length ∧ Same H1 H5 ∧ SqL K H5 B (ys y) ∧ ∃ bs : List Addr, H5 D = some (.lst (bs.map V.ref)) ∧ Cells o H5 bs (((xs.take i).flatMap fun x => (ys x).map (f x)) ++ ((ys y).take (j + 1)).map (f y)) ∧ ∀ b ∈ bs, b ≠ D, fun H' q => ⟨(ys y).length - (j + 1), by omega, rfl, q⟩, fun v H5 hv => ?_⟩
      obtain ⟨rfl, hv⟩ := hv
      obtain rfl : v = z := Option.some.inj ((hv _ b4).symm.trans ey)
      refine ⟨wipe1 hab _ _, ?_⟩
      refine yes_ ?_
      refine iteT ?_
      refine ht H5 y v _ hx (List.mem_of_getElem? ey) s4 fun H6 cc s6 hc nc => ?_
      have s16 := s4.trans s6
      have cD : cc ≠ D := fun z => by
        subst z
        rcases nc with z | z
        · rw [d4] at z
          cases z
        · exact z hD
      have bl := c4.length
      rw [List.length_append, List.length_map, List.length_take] at bl
      refine ⟨_, s6 _ _ d4, by rw [List.length_map]; exact small (by omega), hjl, Same.write s16 hD, SqL.cell (s6.seq b4) (upd_ne bD), bs4 ++ [cc], by rw [upd_same, List.map_append]; rfl, ?_, fun z hz => ?_⟩
      · rw [take_next ey, List.map_append, ← List.append_assoc]
        exact Paired.snoc ((c4.same s6).write n4) (by rw [upd_ne cD]; exact hc)
      · rcases List.mem_append.mp hz with q | q
        · exact n4 z q
        · rw [List.mem_singleton.mp q]
          exact cD
    · have ej : j = (ys y).length := by omega
      subst ej
      refine .inl ⟨⟨_, b4, Nat.le_refl _⟩, hlt, s4, bs4, d4, ?_, n4⟩
      rw [take_next ex, List.flatMap_append, e1]
      rw [List.take_length] at c4
      exact c4
  · have e : i = xs.length := by omega
    subst e
    rw [List.take_length] at c1
    exact .inl ⟨⟨xs, s1.seq hR, Nat.le_refl _⟩, k H bs s1 d1 c1⟩
theorem SqT.keep8 {K : PySem.W.Frag} {H H' : Hp} {B : Addr} {l : List V} (s : Same H H') (h : SqT K H B l) : SqT K H' B l := by
  rcases h with h | h
  · exact .inl (by rcases h with h | ⟨o, h⟩; exact .inl (s _ _ h); exact .inr ⟨o, s _ _ h⟩)
  · exact .inr h
theorem SqT.cell {K : PySem.W.Frag} {H H' : Hp} {B : Addr} {l : List V} (h : SqT K H B l) (e : H' B = H B) : SqT K H' B l := by
  rcases h with h | h
  · exact .inl (by rcases h with h | ⟨o, h⟩; exact .inl (e.trans h); exact .inr ⟨o, e.trans h⟩)
  · exact .inr h
/-- two fors, the inner one over a tuple -/
theorem lc2_WT {K : PySem.W.Frag} {H1 : Hp} {R D : Addr} {xs : List V} {ys : V → List V} {f : V → V → V} {σ : L2.St} {a b : Nat} {wi1 : TI} {te : TE} {Qd : Hp → Prop} (hab : a ≠ b) (hR : SqL K H1 R xs) (hD : H1 D = none) (len : (xs.flatMap ys).length ≤ 900)
    (hin : ∀ (H2 : Hp) (x : V) (k : It → Hp → Prop), x ∈ xs → Same H1 H2 → (∀ H3 B, Same H2 H3 → SqT K H3 B (ys x) → (H2 B = none ∨ H1 B ≠ none) → k (Itt K B) H3) → wi1 ((wipe σ [a, b]).set a (some x)) H2 k)
    (ht : ∀ (H2 : Hp) (x y : V) (Q' : VK), x ∈ xs → y ∈ ys x → Same H1 H2 → (∀ H3, Same H2 H3 → Q' (f x y) H3) → te ((wipe ((wipe σ [a, b]).set a (some x)) [b]).set b (some y)) H2 Q')
    (k : ∀ H2, Same H1 H2 → H2 D = some (.lst (xs.flatMap fun x => (ys x).map (f x))) → Qd H2) :
    ∃ W : Nat → Nat → Hp → Prop, (∃ m, W 0 m (upd H1 D (.lst []))) ∧ ∀ i m H, W i m H →
      ((Itl K R).stop i H ∧ Qd H) ∨ ((Itl K R).go i H ∧ ∃ Nx : Hp → Prop, (∀ H', Nx H' → ∃ m', m' < m ∧ W (i + 1) m' H') ∧ ∀ x H', (Itl K R).yld i H x H' → (gName a) x (wipe σ [a, b]) H' fun σ2 H2 => wipe σ2 [a, b] = wipe σ [a, b] ∧ tYes σ2 H2 fun c H3 =>
        if c = true then wi1 σ2 H3 fun J1 H4 => ∃ W1 : Nat → Nat → Hp → Prop, (∃ m, W1 0 m H4) ∧ ∀ j q H, W1 j q H → (J1.stop j H ∧ Nx H) ∨ (J1.go j H ∧ ∃ Nx1 : Hp → Prop, (∀ H', Nx1 H' → ∃ q', q' < q ∧ W1 (j + 1) q' H') ∧ ∀ x H', J1.yld j H x H' →
          (gName b) x (wipe σ2 [b]) H' fun σ3 H5 => wipe σ3 [b] = wipe σ2 [b] ∧ tYes σ3 H5 fun c H6 => if c = true then te σ3 H6 fun y H7 => ∃ acc, H7 D = some (.lst acc) ∧ acc.length < sizeLine ∧ Nx1 (upd H7 D (.lst (acc ++ [y]))) else Nx1 H6) else Nx H3) := by
  have part : ∀ n, ((xs.take n).flatMap fun x => (ys x).map (f x)).length ≤ (xs.flatMap ys).length := fun n => by
    have e : xs.flatMap ys = (xs.take n).flatMap ys ++ (xs.drop n).flatMap ys := by rw [← List.flatMap_append, List.take_append_drop]
    rw [e, List.length_append, List.length_flatMap, List.length_flatMap]
    simp only [List.length_map]
    omega
  refine ⟨fun i m H => m = xs.length - i ∧ i ≤ xs.length ∧ Same H1 H ∧ H D = some (.lst ((xs.take i).flatMap fun x => (ys x).map (f x))), ⟨_, rfl, Nat.zero_le _, Same.put hD, by rw [upd_same]; rfl⟩, ?_⟩
  rintro i m H ⟨rfl, hi, s1, d1⟩
  by_cases hlt : i < xs.length
  · have ex : xs[i]? = some xs[i] := List.getElem?_eq_getElem hlt
    generalize xs[i] = x at ex
    have hx := List.mem_of_getElem? ex
    refine .inr ⟨⟨xs, x, s1.seq hR, ex⟩, fun H2 => i + 1 ≤ xs.length ∧ Same H1 H2 ∧ H2 D = some (.lst ((xs.take (i + 1)).flatMap fun x => (ys x).map (f x))), fun H' q => ⟨xs.length - (i + 1), by omega, rfl, q⟩, fun y H' hy => ?_⟩
    obtain ⟨rfl, hy⟩ := hy
    obtain rfl : y = x := Option.some.inj ((hy xs (s1.seq hR)).symm.trans ex)
    have hl := part (i + 1)
    rw [take_next ex, List.flatMap_append, List.length_append] at hl
    have e1 : ([y].flatMap fun x => (ys x).map (f x)) = (ys y).map (f y) := by simp
    rw [e1, List.length_map] at hl
    refine ⟨wipe0 hab _, ?_⟩
    refine yes_ ?_
    refine iteT ?_
    refine hin H' y _ hx s1 fun H3 B s3 hB nb => ?_
    have bD : B ≠ D := fun z => by
      subst z
      rcases nb with z | z
      · rw [d1] at z
        cases z
      · exact z hD
    refine ⟨fun j q H4 => q = (ys y).length - j ∧ j ≤ (ys y).length ∧ Same H1 H4 ∧ SqT K H4 B (ys y) ∧ H4 D = some (.lst (((xs.take i).flatMap fun x => (ys x).map (f x)) ++ ((ys y).take j).map (f y))), ⟨_, rfl, Nat.zero_le _, s1.trans s3, hB, by rw [List.take_zero, List.map_nil, List.append_nil]; exact s3 _ _ d1⟩, ?_⟩
    rintro j q H4 ⟨rfl, hj, s4, b4, d4⟩
    by_cases hjl : j < (ys y).length
    · have ey : (ys y)[j]? = some (ys y)[j] := List.getElem?_eq_getElem hjl
      generalize (ys y)[j] = z at ey
      refine .inr ⟨⟨ys y, z, b4, ey⟩, fun H5 => j + 1 ≤ (ys y).length ∧ Same H1 H5 ∧ SqT K H5 B (ys y) ∧ H5 D = some (.lst (((xs.take i).flatMap fun x => (ys x).map (f x)) ++ ((ys y).take (j + 1)).map (f y))), fun H' q => ⟨(ys y).length - (j + 1), by omega, rfl, q⟩, fun v H5 hv => ?_⟩
      obtain ⟨rfl, hv⟩ := hv
      obtain rfl : v = z := Option.some.inj ((hv _ b4).symm.trans ey)
      refine ⟨wipe1 hab _ _, ?_⟩
      refine yes_ ?_
      refine iteT ?_
      refine ht H5 y v _ hx (List.mem_of_getElem? ey) s4 fun H6 s6 => ?_
      have s16 := s4.trans s6
      refine ⟨_, s6 _ _ d4, ?_, hjl, Same.write s16 hD, SqT.cell (SqT.keep8 s6 b4) (upd_ne bD), ?_⟩
      · rw [List.length_append, List.length_map, List.length_take]
        exact small (by omega)
      · rw [upd_same, take_next ey, List.map_append, ← List.append_assoc]
        rfl
    · have ej : j = (ys y).length := by omega
      subst ej
      refine .inl ⟨⟨_, b4, Nat.le_refl _⟩, hlt, s4, ?_⟩
      rw [take_next ex, List.flatMap_append, e1]
      rw [List.take_length] at d4
      exact d4
  · have e : i = xs.length := by omega
    subst e
    rw [List.take_length] at d1
    exact .inl ⟨⟨xs, s1.seq hR, Nat.le_refl _⟩, k H s1 d1⟩
end Fd
namespace Fd
open PySem PySem.Spec PyProof.Rows L2
theorem ptsB_at {m : Nat} {xs : List Int} (h : ptsB m xs = true) {x : Int} (hx : x ∈ xs) : ∃ i : Nat, x = (i : Int) ∧ i < m := by
  have := List.all_eq_true.mp h x hx
  unfold inB at this
  rw [Bool.and_eq_true, decide_eq_true_iff, decide_eq_true_iff] at this
  exact ⟨x.toNat, by omega, by omega⟩
theorem steps2_mem {xs : List Int} {x y : Int} (h : (x, y) ∈ steps2 xs) : x ∈ xs ∧ y ∈ xs := by
  unfold steps2 at h
  have z := List.of_mem_zip h
  exact ⟨z.1, List.mem_of_mem_tail z.2⟩
theorem cut_take (xs : List V) (k : Nat) (h : k ≤ xs.length) : cutV xs none (some (k : Int)) = xs.take k := by
  unfold cutV
  have e2 : HT.sIx xs.length xs.length (some (k : Int)) = min k xs.length := HT.sIx_nat _ _ k
  have e1 : HT.sIx xs.length 0 none = 0 := rfl
  rw [e1, e2, Nat.min_eq_left h, List.drop_zero, Nat.sub_zero]
theorem cut_drop (xs : List V) (k : Nat) (h : k ≤ xs.length) : cutV xs (some (k : Int)) none = xs.drop k := by
  unfold cutV
  have e2 : HT.sIx xs.length 0 (some (k : Int)) = min k xs.length := HT.sIx_nat _ _ k
  have e1 : HT.sIx xs.length xs.length none = xs.length := rfl
  rw [e1, e2, Nat.min_eq_left h]
  exact List.take_of_length_le (by rw [List.length_drop]; omega)
def pairsL (kd : Str) (hs : List Int) : List Tie := if kd = "five" then cbL.map (fun c => (hs.getD c.1 0, hs.getD c.2 0)) else (hs.take 3).flatMap fun a => (hs.drop 3).map fun b => (a, b)
def tupO (t : Tie) : HO := .tup [.int t.1, .int t.2]
theorem pairs_of_cells {H : Hp} {bs : List Addr} {ts : List Tie} (h : Cells tupO H bs ts) : PairsAt H (bs.map V.ref) ts :=
  match bs, ts, h with
  | _, _, .nil => .nil
  | _, _, .cons r t => .cons ⟨_, rfl, r⟩ (pairs_of_cells t)
theorem cells_map {H : Hp} : ∀ {bs : List Addr} {ps : List Tie}, Paired (fun (b : Addr) (q : V × V) => H b = some (.tup [q.1, q.2])) bs (ps.map fun t => (V.int t.1, V.int t.2)) → Cells tupO H bs ps
  | [], [], _ => .nil
  | _ :: _, [], h => by cases h
  | [], _ :: _, h => by cases h
  | _ :: _, _ :: _, .cons r t => .cons r (cells_map t)
def spPairs (K : PySem.W.Frag) : Sp := fun vs H Q _ => ∃ (kd : Str) (R : Addr) (hs : List Int), vs = [.str kd, .ref R] ∧ H R = some (.lst (iL hs)) ∧ ((kd = "five" ∧ hs.length = 5) ∨ (kd ≠ "five" ∧ hs.length = 6)) ∧
  ∀ (H' : Hp) (D : Addr) (bs : List Addr), Same H H' → H D = none → H' D = some (.lst (bs.map V.ref)) → Cells tupO H' bs (pairsL kd hs) → Q (.ref D) H'
section
variable {P : Program} {w : World} {K : PySem.W.Frag} {mg : Str → Option Value} {base : Heap} {C : Addr}
abbrev nRow : List Str := ["web", "row", "one", "other"]
theorem scRow : FnScope nRow ["web", "row"] (defScope sIsRow) := ⟨rfl, rfl, rfl, by decide +kernel, rfl, by decide +kernel, by decide +kernel⟩
theorem c_isrow (T : WTxt K mg C) (U : P8Txt K mg C) : C8.Cal P w K mg base 5 "_is_row" (spRow C) [] := by
  refine cal_of U.fRow scRow (fun vs H Q E h => ?_) (fun f cdv A outer s H vs Q E hr h => ?_)
  · obtain ⟨H0, p, R, m, ts, xs, rfl, _⟩ := h
    rfl
  · obtain ⟨H0, p, R, m, ts, xs, rfl, W, hR, len, k⟩ := h
    obtain ⟨p0, dx, Rw, aw, hp, _⟩ := id W
    refine ⟨_, pss_cons (ps_if (PW.pt (pw_or (pt_not (pt_val (C8.pe_c (c_arepts T U) hr (by decide) (by rfl) (pa_cons (pv 0) (pa_cons (pv 1) pa_nil)))))
        (pw_or1 (pt_cmpR op_lt (pe_callB call_len_seq (by rfl) T.len PySem.boot_len (pa_cons (pv 1) pa_nil)) pe_int (nomark _))))) (pss_one (ps_ret pe_bl)) pss_nil)
      (pss_one (ps_ret (pe_callB (cr_all rfl) (by rfl) U.all (by decide +kernel) (pa_cons (pe_lc (own := [("one", 2), ("other", 3)]) (g := gTup K 2 (gCons (gName 2) (gCons (gName 3) gNil))) (tt := tYes) (te := tMeth C "tied" (spTied C) [] C8.E0 (tVar 0) (tCons (tVar 2) (tCons (tVar 3) tNil))) (by rfl) scRow.nd
          (pi_zip (by rfl) U.zip (pa_cons (pv 1) (pa_cons (pe_slice sl_list (pv 1) (po_some pe_int) po_none) pa_nil)))
          (blkOk_by (own := [("one", 2), ("other", 3)]) (N := nRow) (sc := defScope sIsRow) (by decide +kernel))
          (fun _ _ _ _ _ => pg_tup (by rfl) (pgs_cons (pg_name (i := 2) scRow.nd rfl (Or.inl rfl)) (pgs_cons (pg_name (i := 3) scRow.nd rfl (Or.inl rfl)) pgs_nil))) (fun _ _ _ _ _ => pts_nil)
          (fun _ _ _ _ _ => C8.pe_mt (c_tied T U.fC U.fT) hr (by decide) (pv 0) (pa_cons (pv 2) (pa_cons (pv 3) pa_nil)))) pa_nil)))), ?_⟩
    refine ⟨_, rfl, _, rfl, H0, p, R, m, ts, xs, rfl, W, hR, len, fun H1 s1 => ⟨ptsB m xs, rfl, ?_⟩⟩
    by_cases c1 : ptsB m xs = true
    · rw [c1]
      refine iteF ?_
      refine ⟨_, rfl, R, iL xs, rfl, .inl (SqL.of (s1 _ _ hR)), _, _, rfl, rfl, _, rfl, ?_⟩
      rw [List.length_map]
      by_cases c2 : 2 ≤ xs.length
      · refine no_ (decide_eq_false (by omega)) ?_
        refine ⟨_, rfl, _, rfl, 1, rfl, R, iL xs, rfl, SqL.of (s1 _ _ hR), fun S hS => ?_⟩
        rw [cut1]
        have s2 := s1.trans (Same.put (o := .lst (iL xs.tail)) hS)
        refine ⟨R, S, _, _, rfl, SqL.of (s2 _ _ hR), SqL.of upd_same, fun D hD => ?_⟩
        refine steps_W (fb := fun x y => decide (y ∈ rowOf m ts x)) (by decide) (s2 _ _ hR) upd_same hD len (fun H2 x y Q' hxy s3 q => ?_) (fun H2 s3 d3 => ?_)
        · obtain ⟨hx, hy⟩ := steps2_mem hxy
          obtain ⟨i, rfl, hi⟩ := ptsB_at c1 hx
          obtain ⟨j, rfl, hj⟩ := ptsB_at c1 hy
          have s23 := s2.trans s3
          exact ⟨_, rfl, p, dx, _, rfl, s23 _ _ hp, wF_no _ _ (by decide +kernel) (by decide +kernel), _, rfl, _, rfl, H0, p, m, ts, i, j, rfl, W.same s23, hi, hj, q H2 (Same.refl H2)⟩
        · refine ⟨D, _, rfl, SqL.of d3, ?_⟩
          rw [List.all_map]
          have q := k H2 (s2.trans s3)
          unfold rowB at q
          rw [c1, decide_eq_true c2] at q
          exact q
      · refine yep_ (decide_eq_true (by omega)) ?_
        have q := k H1 s1
        unfold rowB at q
        rw [decide_eq_false c2, Bool.and_false, Bool.false_and] at q
        exact q
    · have c1' := Bool.eq_false_iff.mpr c1
      rw [c1']
      refine iteT ?_
      have q := k H1 s1
      unfold rowB at q
      rw [c1'] at q
      exact q
abbrev nPairs : List Str := ["kind", "heads", "one", "other"]
theorem scPairs : FnScope nPairs ["kind", "heads"] (defScope sPairs) := ⟨rfl, rfl, rfl, by decide +kernel, rfl, by decide +kernel, by decide +kernel⟩
theorem c_pairs (T : WTxt K mg C) (U : P8Txt K mg C) : C8.Cal P w K mg base 1 "_pairs" (spPairs K) [] := by
  obtain ⟨t5, g5⟩ := U.five
  refine cal_of U.fPairs scPairs (fun vs H Q E h => ?_) (fun f cdv A outer s H vs Q E hr h => ?_)
  · obtain ⟨kd, R, hs, rfl, _⟩ := h
    rfl
  · obtain ⟨kd, R, hs, rfl, hR, ln, k⟩ := h
    refine ⟨_, pss_cons (ps_if (pt_cmpR op_eq (pv 0) (pe_glob (v := .str "five") (by rfl) g5 ⟨_, rfl⟩) (nomark _)) (pss_one (ps_ret (pe_combos rfl (by rfl) T.list (by rfl) U.comb (pv 1)))) pss_nil)
      (pss_one (ps_ret (pe_lc2 (own := [("one", 2), ("other", 3)]) (vs1 := [3]) (g := gName 2) (g1 := gName 3) (tt := tYes) (tt1 := tYes) (te := tTup (tCons (tVar 2) (tCons (tVar 3) tNil))) (wi1 := iList K (tSl (rSlL K) (tVar 1) (tPart (tC (.int 3))) tNoPart)) (by rfl) scPairs.nd
          (pi_list (pe_slice sl_list (pv 1) po_none (po_some pe_int)))
          (blkOk_by (own := [("one", 2), ("other", 3)]) (N := nPairs) (sc := defScope sPairs) (by decide +kernel)) (by simp)
          (fun _ _ _ _ _ => pg_name (i := 2) scPairs.nd rfl (Or.inl rfl)) (fun _ _ _ _ _ => pts_nil)
          (fun _ _ _ _ _ => pi_list (pe_slice sl_list (pv 1) (po_some pe_int) po_none))
          (fun _ _ _ _ _ => pg_name (i := 3) scPairs.nd rfl (Or.inl rfl)) (fun _ _ _ _ _ => pts_nil)
          (fun _ _ _ _ _ => pe_tup (pa_cons (pv 2) (pa_cons (pv 3) pa_nil)))))), ?_⟩
    refine ⟨_, rfl, rfl, _, rfl, ?_⟩
    rcases ln with ⟨rfl, l5⟩ | ⟨hk, l6⟩
    · refine yep_ (decide_eq_true rfl) ?_
      obtain ⟨x0, x1, x2, x3, x4, rfl⟩ : ∃ x0 x1 x2 x3 x4, hs = [x0, x1, x2, x3, x4] := by
        match hs, l5 with
        | [x0, x1, x2, x3, x4], _ => exact ⟨x0, x1, x2, x3, x4, rfl⟩
      refine ⟨_, rfl, R, .int x0, .int x1, .int x2, .int x3, .int x4, rfl, SqL.of hR, fun H' D as s1 n1 n2 d1 c1 => k H' D as s1 n1 d1 ?_⟩
      exact cells_map (ps := pairsL "five" [x0, x1, x2, x3, x4]) c1
    · refine no_ (decide_eq_false fun z => hk (V.str.inj z)) ?_
      refine ⟨_, rfl, 3, rfl, R, iL hs, rfl, SqL.of hR, fun S hS => ?_⟩
      have s1 := Same.put (o := .lst (cutV (iL hs) none (some 3))) hS
      refine ⟨S, rfl, ⟨_, SqL.of upd_same⟩, fun D hD => ?_⟩
      have e1 : cutV (iL hs) none (some 3) = iL (hs.take 3) := by
        have z := cut_take (iL hs) 3 (by rw [List.length_map]; omega)
        unfold iL at z ⊢
        rw [List.map_take]
        exact z
      have e2 : cutV (iL hs) (some 3) none = iL (hs.drop 3) := by
        have z := cut_drop (iL hs) 3 (by rw [List.length_map]; omega)
        unfold iL at z ⊢
        rw [List.map_drop]
        exact z
      rw [e1] at s1 hD ⊢
      refine lc2_C (K := K) (o := tupO) (ys := fun _ => iL (hs.drop 3)) (f := fun x y => match x, y with | .int i, .int j => (i, j) | _, _ => (0, 0)) (by decide) (SqL.of upd_same) hD ?_ (fun H2 x k2 hx s2 q => ?_) (fun H2 x y Q' hx hy s2 q => ?_) (fun H2 bs s2 d2 c2 => ?_)
      · rw [List.length_flatMap]
        have : ((iL (hs.take 3)).map fun _ => (iL (hs.drop 3)).length) = List.replicate 3 3 := by
          rw [List.map_const', List.length_map, List.length_map, List.length_take, List.length_drop, l6]
          rfl
        rw [this]
        decide
      · refine ⟨_, rfl, 3, rfl, R, iL hs, rfl, SqL.of (s2 _ _ (s1 _ _ hR)), fun B hB => ⟨B, rfl, ?_⟩⟩
        rw [e2]
        exact ⟨⟨_, SqL.of upd_same⟩, q _ B (Same.put hB) (SqL.of upd_same) (.inl hB)⟩
      · obtain ⟨i, _, rfl⟩ := List.mem_map.mp hx
        obtain ⟨j, _, rfl⟩ := List.mem_map.mp hy
        refine ⟨_, rfl, _, rfl, by show 2 ≤ sizeLine; decide, fun t ht => ?_⟩
        exact q _ t (Same.put ht) upd_same (.inl ht)
      · refine k H2 D bs (s1.trans s2) (s1.free hD) d2 ?_
        have e3 : ((iL (hs.take 3)).flatMap fun x => (iL (hs.drop 3)).map ((fun x y => match x, y with | .int i, .int j => (i, j) | _, _ => (0, 0) : V → V → Tie) x)) = pairsL kd hs := by
          unfold pairsL iL
          rw [if_neg hk, List.flatMap_map]
          simp only [List.map_map]
          rfl
        rw [e3] at c2
        exact c2
end
end Fd
namespace Fd
open PySem PySem.Spec PyProof.Rows L2
def headsB (m : Nat) (kd : Str) (hs : List Int) : Bool :=
  ptsB m hs && (if kd = "five" then decide (hs.length = 5) && riseB hs else decide (kd = "three") && decide (hs.length = 6) && (riseB (hs.take 3) && (riseB (hs.drop 3) && (decide hs.Nodup && decide (hs.getD 0 0 < hs.getD 3 0)))))
def spHeads (C : Addr) : Sp := fun vs H Q _ => ∃ (H0 : Hp) (p R : Addr) (m : Nat) (ts : List Tie) (kd : Str) (hs : List Int), vs = [.ref p, .str kd, .ref R] ∧ WebAt C H0 H p m ts ∧ H R = some (.lst (iL hs)) ∧ hs.length ≤ 100 ∧ ∀ H', Same H H' → Q (.bl (headsB m kd hs)) H'
section
variable {P : Program} {w : World} {K : PySem.W.Frag} {mg : Str → Option Value} {base : Heap} {C : Addr}
theorem scHeads : FnScope ["web", "kind", "heads"] ["web", "kind", "heads"] (defScope sAreHeads) := ⟨rfl, rfl, rfl, by decide +kernel, rfl, by decide +kernel, by decide +kernel⟩
theorem c_areheads (T : WTxt K mg C) (U : P8Txt K mg C) : C8.Cal P w K mg base 4 "_are_heads" (spHeads C) [] := by
  obtain ⟨t5, g5⟩ := U.five
  obtain ⟨t3, g3⟩ := U.three
  refine cal_of U.fHeads scHeads (fun vs H Q E h => ?_) (fun f cdv A outer s H vs Q E hr h => ?_)
  · obtain ⟨H0, p, R, m, ts, kd, hs, rfl, _⟩ := h
    rfl
  · obtain ⟨H0, p, R, m, ts, kd, hs, rfl, W, hR, len, k⟩ := h
    refine ⟨_, pss_cons (ps_if (PW.pt (pw_or (pt_cmpR op_neTy (pe_callTy call_type1 (by rfl) T.type (by decide +kernel) (pa_cons (pv 1) pa_nil)) (pe_bltn (v := .ty "str") (by rfl) U.str (by decide +kernel) rfl) (nomark _))
        (pw_or1 (pt_not (pt_val (C8.pe_c (c_arepts T U) hr (by decide) (by rfl) (pa_cons (pv 0) (pa_cons (pv 2) pa_nil)))))))) (pss_one (ps_ret pe_bl)) pss_nil)
      (pss_cons (ps_if (pt_cmpR op_eq (pv 1) (pe_glob (v := .str "five") (by rfl) g5 ⟨_, rfl⟩) (nomark _)) (pss_one (ps_ret (pe_and (pe_cmpR op_eq (pe_callB call_len_seq (by rfl) T.len PySem.boot_len (pa_cons (pv 2) pa_nil)) pe_int (nomark _))
          (pe_one (C8.pe_c (c_rise T U) hr (by decide) (by rfl) (pa_cons (pv 2) pa_nil)))))) pss_nil)
      (pss_cons (ps_if (PW.pt (pw_or (pt_cmpR op_ne (pv 1) (pe_glob (v := .str "three") (by rfl) g3 ⟨_, rfl⟩) (nomark _)) (pw_or1 (pt_cmpR op_ne (pe_callB call_len_seq (by rfl) T.len PySem.boot_len (pa_cons (pv 2) pa_nil)) pe_int (nomark _))))) (pss_one (ps_ret pe_bl)) pss_nil)
      (pss_one (ps_ret (pe_and (C8.pe_c (c_rise T U) hr (by decide) (by rfl) (pa_cons (pe_slice sl_list (pv 2) po_none (po_some pe_int)) pa_nil))
        (pe_and (C8.pe_c (c_rise T U) hr (by decide) (by rfl) (pa_cons (pe_slice sl_list (pv 2) (po_some pe_int) po_none) pa_nil))
        (pe_and (C8.pe_c (c_differ T U) hr (by decide) (by rfl) (pa_cons (pv 2) pa_nil))
        (pe_one (pe_cmpR op_lt (pe_ix ix_list (pv 2) pe_int (fun _ _ => rfl)) (pe_ix ix_list (pv 2) pe_int (fun _ _ => rfl)) (nomark _)))))))))), ?_⟩
    refine ⟨_, rfl, .str kd, "str", rfl, .str kd, "str", "str", rfl, rfl, by decide, by decide, _, rfl, ?_⟩
    refine iteF ?_
    refine ⟨_, rfl, _, rfl, H0, p, R, m, ts, hs, rfl, W, hR, len, fun H1 s1 => ⟨ptsB m hs, rfl, ?_⟩⟩
    by_cases c1 : ptsB m hs = true
    · rw [c1]
      refine iteF ?_
      refine ⟨_, rfl, rfl, _, rfl, ?_⟩
      by_cases c5 : kd = "five"
      · subst c5
        refine yep_ (decide_eq_true rfl) ?_
        refine ⟨_, rfl, R, iL hs, rfl, .inl (SqL.of (s1 _ _ hR)), rfl, _, rfl, ?_⟩
        have e : headsB m "five" hs = (decide (hs.length = 5) && riseB hs) := by
          unfold headsB
          rw [c1, if_pos rfl, Bool.true_and]
        rw [e] at k
        by_cases c2 : hs.length = 5
        · refine yep_ (by rw [List.length_map, c2]; exact decide_eq_true rfl) ?_
          refine ⟨_, rfl, R, hs, rfl, s1 _ _ hR, len, fun H2 s2 => ?_⟩
          have q := k H2 (s1.trans s2)
          rw [decide_eq_true c2, Bool.true_and] at q
          exact q
        · refine no_ (by rw [List.length_map]; exact decide_eq_false fun z => c2 (by have := V.int.inj z; omega)) ?_
          have q := k H1 s1
          rw [decide_eq_false c2, Bool.false_and] at q
          exact q
      · refine no_ (decide_eq_false fun z => c5 (V.str.inj z)) ?_
        have e : headsB m kd hs = (decide (kd = "three") && decide (hs.length = 6) && (riseB (hs.take 3) && (riseB (hs.drop 3) && (decide hs.Nodup && decide (hs.getD 0 0 < hs.getD 3 0))))) := by
          unfold headsB
          rw [c1, if_neg c5, Bool.true_and]
        rw [e] at k
        refine ⟨_, rfl, rfl, _, rfl, ?_⟩
        by_cases c3 : kd = "three"
        · subst c3
          rw [decide_eq_true rfl, Bool.true_and] at k
          refine no_ (by rw [decide_eq_true rfl]; rfl) ?_
          refine ⟨_, rfl, R, iL hs, rfl, .inl (SqL.of (s1 _ _ hR)), rfl, _, rfl, ?_⟩
          by_cases c6 : hs.length = 6
          · refine no_ (by rw [List.length_map, c6]; show (!decide (V.int 6 = V.int 6)) = false; rw [decide_eq_true rfl]; rfl) ?_
            rw [decide_eq_true c6, Bool.true_and] at k
            have e1 : cutV (iL hs) none (some 3) = iL (hs.take 3) := by
              have z := cut_take (iL hs) 3 (by rw [List.length_map]; omega)
              unfold iL at z ⊢
              rw [List.map_take]
              exact z
            have e2 : cutV (iL hs) (some 3) none = iL (hs.drop 3) := by
              have z := cut_drop (iL hs) 3 (by rw [List.length_map]; omega)
              unfold iL at z ⊢
              rw [List.map_drop]
              exact z
            refine ⟨_, rfl, 3, rfl, R, iL hs, rfl, SqL.of (s1 _ _ hR), fun B hB => ?_⟩
            rw [e1]
            have s2 := s1.trans (Same.put (o := .lst (iL (hs.take 3))) hB)
            refine ⟨B, hs.take 3, rfl, upd_same, by rw [List.length_take]; omega, fun H2 s3 => ⟨riseB (hs.take 3), rfl, ?_⟩⟩
            have s4 := s2.trans s3
            by_cases d1 : riseB (hs.take 3) = true
            · refine yep_ d1 ?_
              rw [d1, Bool.true_and] at k
              refine ⟨_, rfl, 3, rfl, R, iL hs, rfl, SqL.of (s4 _ _ hR), fun B2 hB2 => ?_⟩
              rw [e2]
              have s5 := s4.trans (Same.put (o := .lst (iL (hs.drop 3))) hB2)
              refine ⟨B2, hs.drop 3, rfl, upd_same, by rw [List.length_drop]; omega, fun H3 s6 => ⟨riseB (hs.drop 3), rfl, ?_⟩⟩
              have s7 := s5.trans s6
              by_cases d2 : riseB (hs.drop 3) = true
              · refine yep_ d2 ?_
                rw [d2, Bool.true_and] at k
                refine ⟨_, rfl, R, hs, rfl, s7 _ _ hR, by omega, fun H4 s8 => ⟨decide hs.Nodup, rfl, ?_⟩⟩
                have s9 := s7.trans s8
                by_cases d3 : hs.Nodup
                · refine yep_ (decide_eq_true d3) ?_
                  rw [decide_eq_true d3, Bool.true_and] at k
                  have g0 : (iL hs)[0]? = some (.int (hs.getD 0 0)) := iL_get (by rw [List.getD_eq_getElem?_getD, List.getElem?_eq_getElem (by omega)]; rfl)
                  have g3 : (iL hs)[3]? = some (.int (hs.getD 3 0)) := iL_get (by rw [List.getD_eq_getElem?_getD, List.getElem?_eq_getElem (by omega)]; rfl)
                  exact ⟨_, rfl, R, iL hs, ((0 : Nat) : Int), _, rfl, rfl, SqL.of (s9 _ _ hR), atI_nat g0, _, rfl, R, iL hs, ((3 : Nat) : Int), _, rfl, rfl, SqL.of (s9 _ _ hR), atI_nat g3, _, _, rfl, rfl, k H4 s9⟩
                · refine no_ (decide_eq_false d3) ?_
                  have q := k H4 s9
                  rw [decide_eq_false d3, Bool.false_and] at q
                  exact q
              · have d2' := Bool.eq_false_iff.mpr d2
                refine no_ d2' ?_
                have q := k H3 s7
                rw [d2', Bool.false_and] at q
                exact q
            · have d1' := Bool.eq_false_iff.mpr d1
              refine no_ d1' ?_
              have q := k H2 s4
              rw [d1', Bool.false_and] at q
              exact q
          · refine yep_ (by rw [List.length_map, decide_eq_false (fun z => c6 (by have := V.int.inj z; omega))]; rfl) ?_
            have q := k H1 s1
            rw [decide_eq_false c6, Bool.false_and] at q
            exact q
        · refine yep_ (by rw [decide_eq_false (fun z => c3 (V.str.inj z))]; rfl) ?_
          refine iteT ?_
          have q := k H1 s1
          rw [decide_eq_false c3, Bool.false_and, Bool.false_and] at q
          exact q
    · have c1' := Bool.eq_false_iff.mpr c1
      rw [c1']
      refine iteT ?_
      have q := k H1 s1
      unfold headsB at q
      rw [c1', Bool.false_and] at q
      exact q
end
end Fd
namespace Fd
open PySem PySem.Spec PyProof.Rows L2
def rdRow (H : Hp) : V → List Int
  | .ref b => match H b with
    | some (.lst vs) => vs.filterMap fun v => match v with | .int i => some i | _ => none
    | _ => []
  | _ => []
theorem rdRow_at {H : Hp} {b : Addr} {r : List Int} (h : H b = some (.lst (iL r))) : rdRow H (.ref b) = r := by
  simp only [rdRow, h]
  unfold iL
  rw [List.filterMap_map]
  exact List.filterMap_some
theorem rows_read {H : Hp} {R : Addr} {rss : List (List Int)} (h : ListsAt H R rss) : ∃ as : List Addr, H R = some (.lst (as.map V.ref)) ∧ (as.map V.ref).map (rdRow H) = rss ∧ ∀ x ∈ as.map V.ref, ∃ b, x = .ref b ∧ H b = some (.lst (iL (rdRow H x))) := by
  obtain ⟨as, h1, h2⟩ := h.ex
  refine ⟨as, h1, ?_, fun x hx => ?_⟩
  · clear h1 h
    induction h2 with
    | nil => rfl
    | cons r t ih =>
      rw [List.map_cons, List.map_cons, rdRow_at r, ih]
  · obtain ⟨b, hb, rfl⟩ := List.mem_map.mp hx
    obtain ⟨i, hi⟩ := List.mem_iff_getElem?.mp hb
    obtain ⟨r, _, k⟩ := paired_get h2 hi
    exact ⟨b, rfl, by rw [rdRow_at k]; exact k⟩
theorem rdRow_mem {H : Hp} {as : List Addr} {rss : List (List Int)} (e : (as.map V.ref).map (rdRow H) = rss) {x : V} (hx : x ∈ as.map V.ref) : rdRow H x ∈ rss := e ▸ List.mem_map.mpr ⟨x, hx, rfl⟩
theorem map_via {γ β : Type} {L : List V} {f : V → γ} {rss : List γ} (e : L.map f = rss) (g : γ → β) : L.map (fun x => g (f x)) = rss.map g := by
  rw [← e, List.map_map]
  rfl
theorem flat_via {γ β : Type} {L : List V} {f : V → γ} {rss : List γ} (e : L.map f = rss) (g : γ → List β) : L.flatMap (fun x => g (f x)) = rss.flatMap g := by
  rw [← e, List.flatMap_map]
def rdTup (H : Hp) : V → Tie
  | .ref b => match H b with
    | some (.tup [.int i, .int j]) => (i, j)
    | _ => (0, 0)
  | _ => (0, 0)
theorem rdTup_at {H : Hp} {b : Addr} {t : Tie} (h : H b = some (tupO t)) : rdTup H (.ref b) = t := by
  unfold tupO at h
  simp only [rdTup, h]
theorem tups_read {H : Hp} {bs : List Addr} {ts : List Tie} (h : Cells tupO H bs ts) : (bs.map V.ref).map (rdTup H) = ts ∧ ∀ x ∈ bs.map V.ref, ∃ b, x = .ref b ∧ H b = some (tupO (rdTup H x)) := by
  refine ⟨?_, fun x hx => ?_⟩
  · induction h with
    | nil => rfl
    | cons r t ih =>
      rw [List.map_cons, List.map_cons, rdTup_at r, ih]
  · obtain ⟨b, hb, rfl⟩ := List.mem_map.mp hx
    obtain ⟨i, hi⟩ := List.mem_iff_getElem?.mp hb
    obtain ⟨r, _, k⟩ := paired_get h hi
    exact ⟨b, rfl, by rw [rdTup_at k]; exact k⟩
def lastI (r : List Int) : Int := r.getD (r.length - 1) 0
def endsOf (r : List Int) : Tie := (r.getD 0 0, lastI r)
def mid (r : List Int) : List Int := (r.drop 1).take (r.length - 2)
theorem atI_first {r : List Int} (h : 1 ≤ r.length) : atI (iL r) 0 = some (.int (r.getD 0 0)) :=
  atI_nat (j := 0) (iL_get (z := r.getD 0 0) (by rw [List.getD_eq_getElem?_getD, List.getElem?_eq_getElem (by omega)]; rfl))
theorem atI_last {r : List Int} (h : 1 ≤ r.length) : atI (iL r) (-1) = some (.int (lastI r)) := by
  have e : (iL r)[r.length - 1]? = some (.int (lastI r)) := iL_get (by unfold lastI; rw [List.getD_eq_getElem?_getD, List.getElem?_eq_getElem (by omega)]; rfl)
  have e2 : ixN r.length (-1) = some (r.length - 1) := by
    unfold ixN
    rw [if_neg (by decide), if_pos (by omega)]
    congr 1
    omega
  unfold atI
  rw [List.length_map, e2]
  exact e
theorem cut_mid (r : List Int) : cutV (iL r) (some 1) (some (-1)) = iL (mid r) := by
  unfold cutV mid
  have e1 : HT.sIx (iL r).length 0 (some 1) = min 1 r.length := by
    have z : HT.sIx (iL r).length 0 (some 1) = min 1 (iL r).length := HT.sIx_nat _ _ 1
    rw [z, List.length_map]
  have e2 : HT.sIx (iL r).length (iL r).length (some (-1)) = r.length - 1 := by
    show (if (-1 : Int) < 0 then ((-1 : Int) + ((iL r).length : Int)).toNat else min (-1 : Int).toNat (iL r).length) = _
    rw [if_pos (by decide), List.length_map]
    omega
  rw [e1, e2]
  unfold iL
  rw [← List.map_drop, ← List.map_take]
  congr 1
  cases r with
  | nil => rfl
  | cons x r =>
    have : min 1 (x :: r).length = 1 := by
      show min 1 (_ + 1) = 1
      omega
    rw [this]
    congr 1
end Fd
namespace Fd
open PySem PySem.Spec PyProof.Rows L2
def innerL (rss : List (List Int)) : List Int := rss.flatMap mid
def headsL8 (ps : List Tie) : List Int := ps.flatMap fun t => [t.1, t.2]
def rowsB (m : Nat) (ts : List Tie) (ps : List Tie) (rss : List (List Int)) : Bool :=
  rss.all (rowB m ts) && (decide (rss.map endsOf = ps) && (decide (innerL rss).Nodup && !((innerL rss).any fun p => decide (p ∈ headsL8 ps))))
def spRows (C : Addr) : Sp := fun vs H Q _ => ∃ (H0 : Hp) (p Pr R : Addr) (m : Nat) (ts : List Tie) (bs : List Addr) (ps : List Tie) (rss : List (List Int)), vs = [.ref p, .ref Pr, .ref R] ∧ WebAt C H0 H p m ts ∧ H Pr = some (.lst (bs.map V.ref)) ∧ Cells tupO H bs ps ∧ ps.length ≤ 50 ∧ ListsAt H R rss ∧ rss.length ≤ 30 ∧ (∀ r ∈ rss, r.length ≤ 30) ∧
  ∀ H', Same H H' → Q (.bl (rowsB m ts ps rss)) H'
theorem mid_len (r : List Int) : (mid r).length ≤ r.length := by
  unfold mid
  rw [List.length_take, List.length_drop]
  omega
theorem flat_len8 {α β : Type} (xs : List α) (f : α → List β) (k : Nat) (h : ∀ x ∈ xs, (f x).length ≤ k) : (xs.flatMap f).length ≤ xs.length * k := by
  induction xs with
  | nil => simp
  | cons x xs ih =>
    rw [List.flatMap_cons, List.length_append, List.length_cons, Nat.succ_mul]
    have h1 := h x List.mem_cons_self
    have h2 := ih fun y hy => h y (List.mem_cons_of_mem _ hy)
    omega
theorem prds_inj : ∀ {xs ys : List Tie}, PyData.eqv (.list (xs.map prd)) (.list (ys.map prd)) = true → xs = ys
  | [], [], _ => rfl
  | [], _ :: _, h => by simp [PyData.eqv, PyData.eqvAll] at h
  | _ :: _, [], h => by simp [PyData.eqv, PyData.eqvAll] at h
  | x :: xs, y :: ys, h => by
    have h2 : (PyData.eqv (prd x) (prd y) && PyData.eqv (.list (xs.map prd)) (.list (ys.map prd))) = true := by
      simp only [List.map_cons, PyData.eqv, PyData.eqvAll] at h ⊢
      exact h
    rw [Bool.and_eq_true] at h2
    rw [prd_eqv] at h2
    rw [of_decide_eq_true h2.1, prds_inj h2.2]
section
variable {P : Program} {w : World} {K : PySem.W.Frag} {mg : Str → Option Value} {base : Heap} {C : Addr}
abbrev nRows : List Str := ["web", "pairs", "rows", "ends", "heads", "inner", "row", "pair", "head", "point"]
theorem scRows : FnScope nRows ["web", "pairs", "rows"] (defScope sAreRows) := ⟨rfl, rfl, rfl, by decide +kernel, rfl, by decide +kernel, by decide +kernel⟩
theorem c_arerows (T : WTxt K mg C) (U : P8Txt K mg C) : C8.Cal P w K mg base 6 "_are_rows" (spRows C) [] := by
  refine cal_of U.fRows scRows (fun vs H Q E h => ?_) (fun f cdv A outer s H vs Q E hr h => ?_)
  · obtain ⟨H0, p, Pr, R, m, ts, bs, ps, rss, rfl, _⟩ := h
    rfl
  · obtain ⟨H0, p, Pr, R, m, ts, bs, ps, rss, rfl, W, hP, hps, pl, hR, rl, rsh, k⟩ := h
    have hun : (A.deeper (envOfC "_are_rows" (defScope sAreRows) s.heap.objs.size f cdv)).units + 64 < cLine := by
      have := hr.un
      omega
    refine ⟨_, pss_cons (ps_if (PW.pt (pw_or (pt_cmpR op_neTy (pe_callTy call_type1 (by rfl) T.type (by decide +kernel) (pa_cons (pv 2) pa_nil)) (pe_bltn (v := .ty "list") (by rfl) T.list (by decide +kernel) rfl) (nomark _))
        (pw_or1 (pt_not (pt_val (pe_callB (cr_all rfl) (by rfl) U.all (by decide +kernel) (pa_cons (pe_lc (own := [("row", 6)]) (g := gName 6) (tt := tYes) (te := tCall (spRow C) [] C8.E0 (tCons (tVar 0) (tCons (tVar 6) tNil))) (by rfl) scRows.nd (pi_list (pv 2))
          (blkOk_by (own := [("row", 6)]) (N := nRows) (sc := defScope sAreRows) (by decide +kernel)) (fun _ _ _ _ _ => pg_name (i := 6) scRows.nd rfl (Or.inl rfl)) (fun _ _ _ _ _ => pts_nil)
          (fun _ _ _ _ _ => C8.pe_c (c_isrow T U) hr (by decide) (by rfl) (pa_cons (pv 0) (pa_cons (pv 6) pa_nil)))) pa_nil)))))) ) (pss_one (ps_ret pe_bl)) pss_nil)
      (pss_cons (ps_setLc (i := 3) (own := [("row", 6)]) (g := gName 6) (tt := tYes) (te := tTup (tCons (tOp (rIxL K) (tVar 6) (tC (.int 0))) (tCons (tOp (rIxL K) (tVar 6) (tUn (rU fun i => .int (-i)) (tC (.int 1)))) tNil))) (by rfl) scRows.nd rfl rfl (sw_true rfl rfl rfl (by decide +kernel)) (pi_list (pv 2))
          (blkOk_by (own := [("row", 6)]) (N := nRows) (sc := defScope sAreRows) (by decide +kernel)) (fun _ _ _ _ _ => pg_name (i := 6) scRows.nd rfl (Or.inl rfl)) (fun _ _ _ _ _ => pts_nil)
          (fun _ _ _ _ _ => pe_tup (pa_cons (pe_ix ix_list (pv 6) pe_int (fun _ _ => rfl)) (pa_cons (pe_ix ix_list (pv 6) (pe_un un_neg pe_int) (fun _ _ => rfl)) pa_nil))))
      (pss_cons (ps_set (i := 4) scRows.nd rfl (Or.inr rfl) (pe_lc2 (own := [("pair", 7), ("head", 8)]) (vs1 := [8]) (g := gName 7) (g1 := gName 8) (tt := tYes) (tt1 := tYes) (te := tVar 8) (wi1 := iTup K (tVar 7)) (by rfl) scRows.nd (pi_list (pv 1))
          (blkOk_by (own := [("pair", 7), ("head", 8)]) (N := nRows) (sc := defScope sAreRows) (by decide +kernel)) (by simp)
          (fun _ _ _ _ _ => pg_name (i := 7) scRows.nd rfl (Or.inl rfl)) (fun _ _ _ _ _ => pts_nil)
          (fun _ _ _ _ _ => pi_tup (pv 7)) (fun _ _ _ _ _ => pg_name (i := 8) scRows.nd rfl (Or.inl rfl)) (fun _ _ _ _ _ => pts_nil) (fun _ _ _ _ _ => pv 8)))
      (pss_cons (ps_setLc2 (i := 5) (own := [("row", 6), ("point", 9)]) (vs1 := [9]) (g := gName 6) (g1 := gName 9) (tt := tYes) (tt1 := tYes) (te := tVar 9) (wi1 := iList K (tSl (rSlL K) (tVar 6) (tPart (tC (.int 1))) (tPart (tUn (rU fun i => .int (-i)) (tC (.int 1)))))) (by rfl) scRows.nd rfl rfl (sw_true rfl rfl rfl (by decide +kernel)) (pi_list (pv 2))
          (blkOk_by (own := [("row", 6), ("point", 9)]) (N := nRows) (sc := defScope sAreRows) (by decide +kernel)) (by simp)
          (fun _ _ _ _ _ => pg_name (i := 6) scRows.nd rfl (Or.inl rfl)) (fun _ _ _ _ _ => pts_nil)
          (fun _ _ _ _ _ => pi_list (pe_slice sl_list (pv 6) (po_some pe_int) (po_some (pe_un un_neg pe_int)))) (fun _ _ _ _ _ => pg_name (i := 9) scRows.nd rfl (Or.inl rfl)) (fun _ _ _ _ _ => pts_nil) (fun _ _ _ _ _ => pv 9))
      (pss_one (ps_ret (pe_and (pe_cmpR (op_eqD hun) (pv 3) (pv 1) (nomark _)) (pe_and (C8.pe_c (c_differ T U) hr (by decide) (by rfl) (pa_cons (pv 5) pa_nil))
        (pe_one (pe_not (pe_callB (cr_any rfl) (by rfl) U.any (by decide +kernel) (pa_cons (pe_lc (own := [("point", 9)]) (g := gName 9) (tt := tYes) (te := tOp (rIn K false) (tVar 9) (tVar 4)) (by rfl) scRows.nd (pi_list (pv 5))
          (blkOk_by (own := [("point", 9)]) (N := nRows) (sc := defScope sAreRows) (by decide +kernel)) (fun _ _ _ _ _ => pg_name (i := 9) scRows.nd rfl (Or.inl rfl)) (fun _ _ _ _ _ => pts_nil)
          (fun _ _ _ _ _ => pe_cmpR op_in_seq (pv 9) (pv 4) (by rfl))) pa_nil))))))))))) , ?_⟩
    obtain ⟨p0, dx, Rw, aw, hp, _⟩ := id W
    obtain ⟨as, hRa, eas, rd⟩ := rows_read hR
    have al : (as.map V.ref).length = rss.length := by rw [← eas]; simp
    have hRq := SqL.of (K := K) hRa
    have inR : ∀ x ∈ as.map V.ref, rdRow H x ∈ rss := fun x hx => rdRow_mem eas hx
    refine ⟨_, rfl, .ref R, "list", rfl, .lst hRq, "list", "list", rfl, rfl, by decide, by decide, _, rfl, ?_⟩
    refine iteF ?_
    dsimp only [tNot, tB, tCB, tCons, tNil]
    refine lc_vals (K := K) (σ := L2.start nRows [.ref p, .ref Pr, .ref R]) (i := 2) (j := 6) (f := fun x => .bl (rowB m ts (rdRow H x))) rfl (Nat.lt_of_lt_of_eq (by decide : 6 < 10) rfl) hRq (by omega) (fun H1 x Q' hx s1 q => ?_) (fun H1 D s1 hD d1 => ?_)
    · obtain ⟨b, rfl, hb⟩ := rd x hx
      have := rsh _ (inR _ hx)
      exact ⟨_, rfl, _, rfl, H0, p, b, m, ts, rdRow H (.ref b), rfl, W.same s1, s1 _ _ hb, by omega, fun H2 s2 => q H2 s2⟩
    · have e : (as.map V.ref).map (fun x => V.bl (rowB m ts (rdRow H x))) = (rss.map (rowB m ts)).map V.bl := by
        rw [map_via eas fun r => V.bl (rowB m ts r), List.map_map]
        rfl
      rw [e] at d1
      refine ⟨D, rss.map (rowB m ts), rfl, SqL.of d1, _, rfl, ?_⟩
      have ea : (rss.map (rowB m ts)).all id = rss.all (rowB m ts) := by rw [List.all_map]; rfl
      rw [ea]
      by_cases c1 : rss.all (rowB m ts) = true
      · rw [c1]
        refine iteF ?_
        have l2 : ∀ r ∈ rss, 2 ≤ r.length := fun r hr => by
          have z := List.all_eq_true.mp c1 r hr
          unfold rowB at z
          rw [Bool.and_eq_true, Bool.and_eq_true, decide_eq_true_iff] at z
          exact z.1.2
        -- ends
        try dsimp only [gName, tSeq, tAsg, tNext]
        refine lc_at (K := K) (o := tupO) (p := fun _ => true) (f := fun x => endsOf (rdRow H x)) rfl (Nat.lt_of_lt_of_eq (by decide : 6 < 10) rfl) (s1.seq hRq) (by omega) (fun H2 x Q' _ _ k => yes_ (by exact k H2 (Same.refl H2))) (fun H2 x Q' hx _ s2 q => ?_) (fun H2 D2 es s2 hD2 d2 ce => ?_)
        · obtain ⟨b, rfl, hb⟩ := rd x hx
          have l := l2 _ (inR _ hx)
          have hb2 := SqL.of (K := K) (s2 _ _ (s1 _ _ hb))
          refine ⟨_, rfl, b, _, 0, _, rfl, rfl, hb2, atI_first (by omega), _, rfl, 1, rfl, b, _, -1, _, rfl, rfl, hb2, atI_last (by omega), by show 2 ≤ sizeLine; decide, fun t ht => ?_⟩
          exact q _ t (Same.put ht) upd_same (.inl ht)
        have ee : ((as.map V.ref).filter fun _ => true).map (fun x => endsOf (rdRow H x)) = rss.map endsOf := by
          rw [List.filter_eq_self.mpr (fun _ _ => rfl)]
          exact map_via eas endsOf
        rw [ee] at ce
        have s12 := s1.trans s2
        -- heads
        try dsimp only [gName, tSeq, tAsg, tNext]
        obtain ⟨ebs, rdt⟩ := tups_read hps
        have bl : (bs.map V.ref).length = ps.length := by rw [← ebs]; simp
        refine ⟨_, rfl, Pr, rfl, ⟨_, SqL.of (s12 _ _ hP)⟩, fun D3 hD3 => ?_⟩
        refine lc2_WT (K := K) (ys := fun x => [.int (rdTup H x).1, .int (rdTup H x).2]) (f := fun _ y => y) (by decide) (SqL.of (s12 _ _ hP)) hD3 ?_ (fun H3 x k3 hx s3 q => ?_) (fun H3 x y Q' hx hy s3 q => ?_) (fun H3 s3 d3 => ?_)
        · have z := flat_len8 (bs.map V.ref) (fun x => [V.int (rdTup H x).1, .int (rdTup H x).2]) 2 fun _ _ => Nat.le_refl _
          omega
        · obtain ⟨b, rfl, hb⟩ := rdt x hx
          have hb3 := (s12.trans s3) _ _ hb
          exact ⟨_, rfl, b, rfl, ⟨_, SqT.of hb3⟩, q H3 b (Same.refl H3) (SqT.of hb3) (.inr (by rw [s12 _ _ hb]; intro z; cases z))⟩
        · exact ⟨_, rfl, q H3 (Same.refl H3)⟩
        have s13 := s12.trans s3
        have eh : ((bs.map V.ref).flatMap fun x => [V.int (rdTup H x).1, .int (rdTup H x).2].map fun y => y) = iL (headsL8 ps) := by
          have z := flat_via ebs fun t => [V.int t.1, V.int t.2]
          simp only [List.map_id'] at z ⊢
          rw [z]
          unfold headsL8 iL
          rw [List.map_flatMap]
          rfl
        rw [eh] at d3
        -- inner
        try dsimp only [gName, tSeq, tAsg, tNext]
        have sh : (innerL rss).length ≤ 900 := by
          have z := flat_len8 rss mid 30 fun r hr => by
            have z1 := mid_len r
            have z2 := rsh r hr
            omega
          unfold innerL
          omega
        refine ⟨_, rfl, R, rfl, ⟨_, SqL.of (s13 _ _ hRa)⟩, fun D4 hD4 => ?_⟩
        have ei : ((as.map V.ref).flatMap fun x => iL (mid (rdRow H x))) = iL (innerL rss) := by
          have z := flat_via eas fun r => iL (mid r)
          rw [z]
          unfold innerL iL
          rw [List.map_flatMap]
        refine lc2_W (K := K) (ys := fun x => iL (mid (rdRow H x))) (f := fun _ y => y) (by decide) (SqL.of (s13 _ _ hRa)) hD4 (by rw [ei, List.length_map]; exact sh) (fun H4 x k4 hx s4 q => ?_) (fun H4 x y Q' hx hy s4 q => ?_) (fun H4 s4 d4 => ?_)
        · obtain ⟨b, rfl, hb⟩ := rd x hx
          refine ⟨_, rfl, 1, rfl, 1, rfl, -1, rfl, b, _, rfl, SqL.of ((s13.trans s4) _ _ hb), fun B hB => ⟨B, rfl, ?_⟩⟩
          rw [cut_mid]
          exact ⟨⟨_, SqL.of upd_same⟩, q _ B (Same.put hB) (SqL.of upd_same) (.inl hB)⟩
        · exact ⟨_, rfl, q H4 (Same.refl H4)⟩
        have s14 := s13.trans s4
        have ei2 : ((as.map V.ref).flatMap fun x => (iL (mid (rdRow H x))).map fun y => y) = iL (innerL rss) := by
          simp only [List.map_id']
          exact ei
        rw [ei2] at d4
        have d34 := s4 _ _ d3
        have d24 := (s3.trans s4) _ _ d2
        have ce4 := ce.same (s3.trans s4)
        -- ends == pairs and ..
        refine ⟨_, rfl, _, rfl, .list ((rss.map endsOf).map prd), .list (ps.map prd), dp_pairs (SqL.of d24) (pairs_of_cells ce4), dp_pairs (SqL.of (s14 _ _ hP)) (pairs_of_cells (hps.same s14)), prds_shaped _, prds_shaped _, _, rfl, ?_⟩
        unfold rowsB at k
        rw [c1, Bool.true_and] at k
        by_cases c2 : rss.map endsOf = ps
        · refine yep_ (by rw [c2, prds_refl]) ?_
          rw [decide_eq_true c2, Bool.true_and] at k
          refine ⟨_, rfl, D4, innerL rss, rfl, d4, by omega, fun H5 s5 => ⟨decide (innerL rss).Nodup, rfl, ?_⟩⟩
          have s15 := s14.trans s5
          by_cases c3 : (innerL rss).Nodup
          · refine yep_ (decide_eq_true c3) ?_
            rw [decide_eq_true c3, Bool.true_and] at k
            dsimp only [tNotV, tCB, tCons, tNil]
            refine lc_vals (K := K) (σ := [some (.ref p), some (.ref Pr), some (.ref R), some (.ref D2), some (.ref D3), some (.ref D4), none, none, none, none]) (i := 5) (j := 9) (f := fun x => .bl (inV x (iL (headsL8 ps)))) rfl (Nat.lt_of_lt_of_eq (by decide : 9 < 10) rfl) (SqL.of (s5 _ _ d4)) (by rw [List.length_map]; exact sh) (fun H6 x Q' hx s6 q => ?_) (fun H6 D7 s6 hD7 d7 => ?_)
            · obtain ⟨y, _, rfl⟩ := List.mem_map.mp hx
              exact ⟨_, rfl, _, rfl, D3, iL (headsL8 ps), rfl, .inl (SqL.of (s6 _ _ (s5 _ _ d34))), rfl, flat_ints _, q H6 (Same.refl H6)⟩
            · have e7 : (iL (innerL rss)).map (fun x => V.bl (inV x (iL (headsL8 ps)))) = ((innerL rss).map fun p => decide (p ∈ headsL8 ps)).map V.bl := by
                unfold iL
                rw [List.map_map, List.map_map]
                refine List.map_congr_left fun p _ => ?_
                have z := inV_ints (headsL8 ps) p
                unfold iL at z
                simp only [Function.comp, z]
              rw [e7] at d7
              refine ⟨D7, _, rfl, SqL.of d7, _, rfl, ?_⟩
              have q := k H6 (s15.trans s6)
              rw [List.any_map]
              exact q
          · refine no_ (decide_eq_false c3) ?_
            have q := k H5 s15
            rw [decide_eq_false c3, Bool.false_and] at q
            exact q
        · refine no_ (Bool.eq_false_iff.mpr fun z => c2 (prds_inj z)) ?_
          have q := k H4 s14
          rw [decide_eq_false c2, Bool.false_and] at q
          exact q
      · have c1' := Bool.eq_false_iff.mpr c1
        rw [c1']
        refine iteT ?_
        have q := k H1 s1
        unfold rowsB at q
        rw [c1', Bool.false_and] at q
        exact q
end
end Fd
namespace Fd
open PySem PySem.Spec PyProof.Rows L2
def knotB (m : Nat) (ts : List Tie) (kd : Str) (hs : List Int) (rss : List (List Int)) : Bool := headsB m kd hs && rowsB m ts (pairsL kd hs) rss
def spKnot (C : Addr) : Sp := fun vs H Q _ => ∃ (H0 : Hp) (p F Hd R : Addr) (m : Nat) (ts : List Tie) (kd : Str) (hs : List Int) (rss : List (List Int)), vs = [.ref p, .ref F] ∧ WebAt C H0 H p m ts ∧ H F = some (.tup [.str kd, .ref Hd, .ref R]) ∧ H Hd = some (.lst (iL hs)) ∧ hs.length ≤ 100 ∧ ListsAt H R rss ∧ rss.length ≤ 30 ∧ (∀ r ∈ rss, r.length ≤ 30) ∧
  ∀ H', Same H H' → Q (.bl (knotB m ts kd hs rss)) H'
theorem headsB_len {m : Nat} {kd : Str} {hs : List Int} (h : headsB m kd hs = true) : (kd = "five" ∧ hs.length = 5) ∨ (kd ≠ "five" ∧ hs.length = 6) := by
  unfold headsB at h
  rw [Bool.and_eq_true] at h
  by_cases c : kd = "five"
  · rw [if_pos c, Bool.and_eq_true] at h
    exact .inl ⟨c, of_decide_eq_true h.2.1⟩
  · rw [if_neg c, Bool.and_eq_true, Bool.and_eq_true] at h
    exact .inr ⟨c, of_decide_eq_true h.2.1.2⟩
theorem pairsL_len {kd : Str} {hs : List Int} (h : (kd = "five" ∧ hs.length = 5) ∨ (kd ≠ "five" ∧ hs.length = 6)) : (pairsL kd hs).length ≤ 50 := by
  unfold pairsL
  rcases h with ⟨c, _⟩ | ⟨c, l⟩
  · rw [if_pos c, List.length_map]
    decide
  · rw [if_neg c]
    have z := flat_len8 (hs.take 3) (fun a => (hs.drop 3).map fun b => (a, b)) 3 fun _ _ => by rw [List.length_map, List.length_drop]; omega
    rw [List.length_take] at z
    omega
section
variable {P : Program} {w : World} {K : PySem.W.Frag} {mg : Str → Option Value} {base : Heap} {C : Addr}
abbrev nKnot : List Str := ["web", "found", "kind", "heads", "rows"]
theorem scKnot : FnScope nKnot ["web", "found"] (defScope sIsKnot) := ⟨rfl, rfl, rfl, by decide +kernel, rfl, by decide +kernel, by decide +kernel⟩
theorem c_isknot (T : WTxt K mg C) (U : P8Txt K mg C) : C8.Cal P w K mg base 7 "is_knot" (spKnot C) [] := by
  refine cal_of U.fKnot scKnot (fun vs H Q E h => ?_) (fun f cdv A outer s H vs Q E hr h => ?_)
  · obtain ⟨H0, p, F, Hd, R, m, ts, kd, hs, rss, rfl, _⟩ := h
    rfl
  · obtain ⟨H0, p, F, Hd, R, m, ts, kd, hs, rss, rfl, W, hF, hH, hl, hR, rl, rsh, k⟩ := h
    refine ⟨_, pss_cons (ps_if (PW.pt (pw_or (pt_cmpR op_neTy (pe_callTy call_type1 (by rfl) T.type (by decide +kernel) (pa_cons (pv 1) pa_nil)) (pe_bltn (v := .ty "tuple") (by rfl) T.tuple (by decide +kernel) rfl) (nomark _))
        (pw_or1 (pt_cmpR op_ne (pe_callB call_len_seq (by rfl) T.len PySem.boot_len (pa_cons (pv 1) pa_nil)) pe_int (nomark _))))) (pss_one (ps_ret pe_bl)) pss_nil)
      (pss_cons (ps_asg (pv 1) (pg_tup (by rfl) (pgs_cons (pg_name (i := 2) scKnot.nd rfl (.inl rfl)) (pgs_cons (pg_name (i := 3) scKnot.nd rfl (.inl rfl)) (pgs_cons (pg_name (i := 4) scKnot.nd rfl (.inl rfl)) pgs_nil)))))
      (pss_one (ps_ret (pe_and (C8.pe_c (c_areheads T U) hr (by decide) (by rfl) (pa_cons (pv 0) (pa_cons (pv 2) (pa_cons (pv 3) pa_nil))))
        (pe_one (C8.pe_c (c_arerows T U) hr (by decide) (by rfl) (pa_cons (pv 0) (pa_cons (C8.pe_c (c_pairs T U) hr (by decide) (by rfl) (pa_cons (pv 2) (pa_cons (pv 3) pa_nil))) (pa_cons (pv 4) pa_nil))))))))), ?_⟩
    have hFq := SqT.of (K := K) hF
    refine ⟨_, rfl, .ref F, "tuple", rfl, .tup hFq, "tuple", "tuple", rfl, rfl, by decide, by decide, _, rfl, ?_⟩
    refine iteF ?_
    refine ⟨_, rfl, F, _, rfl, .inr hFq, rfl, _, rfl, ?_⟩
    refine no_ (by show (!decide (V.int 3 = V.int 3)) = false; rw [decide_eq_true rfl]; rfl) ?_
    refine ⟨_, rfl, F, _, rfl, hFq, rfl, _, _, rfl, _, _, rfl, _, _, rfl, rfl, ?_⟩
    refine ⟨_, rfl, _, rfl, _, rfl, H0, p, Hd, m, ts, kd, hs, rfl, W, hH, hl, fun H1 s1 => ⟨headsB m kd hs, rfl, ?_⟩⟩
    unfold knotB at k
    by_cases c1 : headsB m kd hs = true
    · refine yep_ c1 ?_
      rw [c1, Bool.true_and] at k
      have hd := headsB_len c1
      refine ⟨_, rfl, _, rfl, _, rfl, kd, Hd, hs, rfl, s1 _ _ hH, hd, fun H2 D bs s2 hD d2 c2 => ?_⟩
      have s12 := s1.trans s2
      exact ⟨_, rfl, H0, p, D, R, m, ts, bs, pairsL kd hs, rss, rfl, W.same s12, d2, c2, pairsL_len hd, hR.same s12, rl, rsh, fun H3 s3 => k H3 (s12.trans s3)⟩
    · have c1' := Bool.eq_false_iff.mpr c1
      refine no_ c1' ?_
      have q := k H1 s1
      rw [c1', Bool.false_and] at q
      exact q
end
end Fd
namespace Fd
open PySem PySem.Spec PyProof.Rows L2
def cellAt (ns : List Int) (k : Nat) : Int := ns.getD k 0
def spCell (K : PySem.W.Frag) : Sp := fun vs H Q _ => ∃ (a : Addr) (ns : List Int) (k : Nat), vs = [.ref a, .int k] ∧ SqL K H a (iL ns) ∧ Q (.int (cellAt ns k)) H
theorem hu65 {k : Nat} {A : Around} (hr : Room k A) : A.units + 65 < cLine := by
  have := hr.un
  omega
/-- a new pair put behind the others -/
theorem PairsAt.more {H : Hp} {D t : Addr} {ws : List V} {ts : List Tie} {o q : Int} (hD : H D = some (.lst ws)) (h : PairsAt H ws ts) (ht : H t = none) :
    PairsAt (upd (upd H t (.tup [.int o, .int q])) D (.lst (ws ++ [.ref t]))) (ws ++ [.ref t]) (ts ++ [(o, q)]) := by
  have tD : D ≠ t := ne_of_none hD ht
  refine Paired.snoc ?_ ⟨t, rfl, by rw [upd_ne tD.symm, upd_same]⟩
  refine Paired.mono (fun v u ⟨a, e, k⟩ => ⟨a, e, ?_⟩) h
  rw [upd_ne (ne_of k hD (by intro z; cases z)), upd_ne (ne_of_none k ht)]
  exact k
theorem cut_iL (ns : List Int) (lo hi : Option Int) : ∃ ms : List Int, cutV (iL ns) lo hi = iL ms ∧ ms.length ≤ ns.length := by
  refine ⟨(ns.drop (HT.sIx (iL ns).length 0 lo)).take (HT.sIx (iL ns).length (iL ns).length hi - HT.sIx (iL ns).length 0 lo), ?_, ?_⟩
  · unfold cutV iL
    rw [List.map_take, List.map_drop]
  · rw [List.length_take, List.length_drop]
    omega
theorem cut_len (xs : List V) : (cutV xs (some 2) (some 42)).length ≤ 40 := by
  unfold cutV
  rw [List.length_take]
  have e1 : HT.sIx xs.length 0 (some 2) = min 2 xs.length := HT.sIx_nat _ _ 2
  have e2 : HT.sIx xs.length xs.length (some 42) = min 42 xs.length := HT.sIx_nat _ _ 42
  rw [e1, e2]
  omega
section
variable {P : Program} {w : World} {K : PySem.W.Frag} {mg : Str → Option Value} {base : Heap} {C : Addr}
theorem scCell : FnScope ["_law_script", "_law_k"] ["_law_script", "_law_k"] (defScope sLawCellAt) := ⟨rfl, rfl, rfl, by decide +kernel, rfl, by decide +kernel, by decide +kernel⟩
theorem c_cell (T : WTxt K mg C) (FCell : Fn K mg "_law_cell_at" sLawCellAt ["_law_script", "_law_k"]) : C8.Cal P w K mg base 1 "_law_cell_at" (spCell K) [] := by
  refine cal_of FCell scCell (fun vs H Q E h => ?_) (fun f cdv A outer s H vs Q E hr h => ?_)
  · obtain ⟨a, ns, k, rfl, _⟩ := h
    rfl
  · obtain ⟨a, ns, i, rfl, hS, k⟩ := h
    refine ⟨_, pss_cons (ps_if (pt_cmpR op_lt (pv 1) (pe_callB call_len_seq (by rfl) T.len PySem.boot_len (pa_cons (pv 0) pa_nil)) (nomark _)) (pss_one (ps_ret (pe_ix ix_list (pv 0) (pv 1) (fun _ _ => rfl)))) pss_nil)
      (pss_one (ps_ret pe_int)), ?_⟩
    refine ⟨_, rfl, _, rfl, a, iL ns, rfl, .inl hS, (i : Int), _, rfl, rfl, _, rfl, ?_⟩
    refine ite2 (fun c => ?_) (fun c => ?_)
    · have c' : i < ns.length := by
        have := of_decide_eq_true c
        rw [List.length_map] at this
        omega
      refine ⟨_, rfl, _, rfl, a, iL ns, (i : Int), .int (cellAt ns i), rfl, rfl, hS, atI_nat ?_, k⟩
      refine iL_get ?_
      unfold cellAt
      rw [List.getD_eq_getElem?_getD, List.getElem?_eq_getElem c']
      rfl
    · have c' : ¬ i < ns.length := fun z => c (decide_eq_true (by rw [List.length_map]; omega))
      have e : cellAt ns i = 0 := by
        unfold cellAt
        rw [List.getD_eq_getElem?_getD, List.getElem?_eq_none (by omega)]
        rfl
      rw [e] at k
      exact k
end
end Fd
namespace Fd
open PySem PySem.Spec PyProof.Rows L2
theorem inl_eqv : ∀ (xs ys : List Int), PyData.eqvAll (xs.map PyData.int) (ys.map PyData.int) = decide (xs = ys)
  | [], [] => by simp [PyData.eqvAll]
  | [], y :: ys => by simp [PyData.eqvAll]
  | x :: xs, [] => by simp [PyData.eqvAll]
  | x :: xs, y :: ys => by
    rw [List.map_cons, List.map_cons, PyData.eqvAll, inl_eqv xs ys, Bool.eq_iff_iff]
    simp [PyData.eqv]
theorem ints_eqv (xs ys : List Int) : PyData.eqv (.list (xs.map PyData.int)) (.list (ys.map PyData.int)) = decide (xs = ys) := by
  rw [← inl_eqv]
  simp [PyData.eqv]
theorem map_erase : ∀ (l : List Int) (j : Nat), (iL l).eraseIdx j = iL (l.eraseIdx j)
  | [], _ => by simp
  | x :: l, 0 => rfl
  | x :: l, j + 1 => by
    show V.int x :: (iL l).eraseIdx j = iL (x :: l.eraseIdx j)
    rw [map_erase l j]
    rfl
theorem perm_erase {α : Type} : ∀ {l : List α} {i : Nat} {x : α}, l[i]? = some x → (x :: l.eraseIdx i).Perm l
  | [], i, x, h => by simp at h
  | a :: l, 0, x, h => by
    cases Option.some.inj h
    exact List.Perm.refl _
  | a :: l, i + 1, x, h => (List.Perm.swap a x (l.eraseIdx i)).trans ((perm_erase (l := l) (i := i) (x := x) h).cons a)
def muL (i : Nat) (σ : L2.St) (H : Hp) : Nat := match σ[i]? with
  | some (some (V.ref a)) => match H a with
    | some (.lst xs) => xs.length
    | _ => 0
  | _ => 0
def spOrder (_K : PySem.W.Frag) : Sp := fun vs H Q _ => ∃ (c : Int) (m : Nat), vs = [.int c, .int m] ∧ m ≤ 16 ∧
  ∀ (H' : Hp) (D : Addr) (r' : List Int), Same H H' → H D = none → H' D = some (.lst (iL r')) → r'.Perm (pts m) → Q (.ref D) H'
section
variable {P : Program} {w : World} {K : PySem.W.Frag} {mg : Str → Option Value} {base : Heap} {C : Addr}
theorem scOrder : FnScope ["_law_cell", "_law_many", "_law_left", "_law_made"] ["_law_cell", "_law_many"] (defScope sLawOrderBy) := ⟨rfl, rfl, rfl, by decide +kernel, rfl, by decide +kernel, by decide +kernel⟩
theorem c_order (T : WTxt K mg C) (FO : Fn K mg "_law_order_by" sLawOrderBy ["_law_cell", "_law_many"]) : C8.Cal P w K mg base 1 "_law_order_by" (spOrder K) [] := by
  refine cal_of FO scOrder (fun vs H Q E h => ?_) (fun f cdv A outer s H vs Q E hr h => ?_)
  · obtain ⟨c, m, rfl, _⟩ := h
    rfl
  · obtain ⟨c, m, rfl, m16, k⟩ := h
    have r100 : (pts m).length ≤ 100 := by rw [pts_len]; omega
    have hun : (A.deeper (envOfC "_law_order_by" (defScope sLawOrderBy) s.heap.objs.size f cdv)).units + 64 < cLine := by
      have := hr.un
      omega
    refine ⟨_, pss_cons (ps_set (i := 2) scOrder.nd rfl (Or.inl rfl) (pe_listRg rfl (by rfl) T.list (prg_1 (by rfl) T.range (pv 1))))
      (pss_cons (ps_set (i := 3) scOrder.nd rfl (Or.inl rfl) (pe_lst pa_nil))
      (pss_cons (ps_while PassesOwn.never (pt_cmpR (op_neD hun) (pv 2) (pe_lst pa_nil) (nomark _))
        (pss_cons (ps_expr (pe_bm PySem.F.plainAttrs_list PySem.F.slot_list_append PySem.F.type_list_append mt_append (pv 3) (pa_cons (pe_bm PySem.F.plainAttrs_list PySem.F.slot_list_pop PySem.F.type_list_pop mt_popAt (pv 2)
            (pa_cons (pe_op op_mod (pv 0) (pe_callB call_len_seq (by rfl) T.len PySem.boot_len (pa_cons (pv 2) pa_nil))) pa_nil)) pa_nil)))
        (pss_one (ps_set (i := 0) scOrder.nd rfl (Or.inl rfl) (pe_op op_fdiv (pv 0) (pe_op op_add (pe_callB call_len_seq (by rfl) T.len PySem.boot_len (pa_cons (pv 2) pa_nil)) pe_int))))))
      (pss_one (ps_ret (pv 3))))), ?_⟩
    have erg : rgV 0 (m : Int) = iL (pts m) := by
      unfold rgV iL pts
      rw [List.map_map, Int.sub_zero, Int.toNat_natCast]
      refine List.map_congr_left fun i _ => ?_
      simp
    refine ⟨_, rfl, (m : Int), rfl, RgOk.of_le (by omega) (by omega) (by omega) (by omega), fun L hL => ?_⟩
    rw [erg] at *
    generalize hr9 : pts m = r at *
    refine ⟨Nat.zero_le _, fun D hD => ?_⟩
    have LD : L ≠ D := ne_of_none upd_same hD
    have H0D : H D = none := by
      rw [upd_ne LD.symm] at hD
      exact hD
    refine while_by (fun σ H1 => ∃ (c1 : Int) (lf md : List Int), σ = [some (.int c1), some (.int m), some (.ref L), some (.ref D)] ∧ Same H H1 ∧ H1 L = some (.lst (iL lf)) ∧ H1 D = some (.lst (iL md)) ∧ (md ++ lf).Perm r) (muL 2)
      ⟨c, r, [], rfl, Same.step (Same.put hL) hD, by rw [upd_ne LD, upd_same], upd_same, List.Perm.refl r⟩ ?_ ?_
    · rintro σ H1 ⟨c1, lf, md, rfl, s1, hl1, hd1, pm⟩
      have len : md.length + lf.length = r.length := by
        have := pm.length_eq
        rw [List.length_append] at this
        exact this
      refine ⟨_, rfl, Nat.zero_le _, fun N hN => ?_⟩
      have s2 := Same.put (o := .lst []) hN
      have LN : L ≠ N := ne_of_none hl1 hN
      have DN : D ≠ N := ne_of_none hd1 hN
      refine ⟨.list (lf.map PyData.int), .list (([] : List Int).map PyData.int), dp_ints (SqL.of (s2 _ _ hl1)), dp_ints (SqL.of upd_same), inl_shaped _, inl_shaped _, _, rfl, ?_⟩
      rw [ints_eqv]
      by_cases c2 : lf = []
      · refine no_ (by rw [decide_eq_true c2]; rfl) ?_
        subst c2
        rw [List.append_nil] at pm
        exact ⟨_, rfl, k _ D md (s1.trans s2) H0D (s2 _ _ hd1) pm⟩
      · refine yep_ (by rw [decide_eq_false c2]; rfl) ?_
        have lpos : 0 < lf.length := List.length_pos_iff.mpr c2
        have m0 := Int.emod_nonneg c1 (show (lf.length : Int) ≠ 0 by omega)
        have m1 := Int.emod_lt_of_pos c1 (show (0 : Int) < lf.length by omega)
        obtain ⟨j, ej⟩ : ∃ j : Nat, c1 % (lf.length : Int) = j := ⟨(c1 % (lf.length : Int)).toNat, by omega⟩
        have hj : j < lf.length := by omega
        have e2 : ((iL lf).length : Int) = (lf.length : Int) := by rw [List.length_map]
        refine ⟨_, rfl, .inl ⟨rfl, _, SqL.of (s2 _ _ hd1)⟩, ?_⟩
        refine ⟨_, rfl, .inl ⟨rfl, _, SqL.of (s2 _ _ hl1)⟩, _, rfl, _, rfl, L, iL lf, rfl, .inl (SqL.of (s2 _ _ hl1)), _, _, rfl, rfl, by rw [e2]; omega, ?_⟩
        have e3 : c1 % ((iL lf).length : Int) = (j : Int) := by rw [e2]; exact ej
        refine ⟨L, iL lf, c1 % ((iL lf).length : Int), j, .int lf[j], rfl, rfl, s2 _ _ hl1, by rw [e3]; omega, by rw [e3]; omega, by rw [e3, seqIndex_of (by omega) (by rw [List.length_map]; omega), Int.toNat_natCast], iL_get (List.getElem?_eq_getElem hj), ?_⟩
        have eE : (iL lf).eraseIdx j = iL (lf.eraseIdx j) := map_erase _ _
        rw [eE]
        refine ⟨D, iL md, _, rfl, rfl, by rw [upd_ne LD.symm, upd_ne DN]; exact hd1, by rw [List.length_map]; exact small (by omega), ?_⟩
        have eM : iL md ++ [V.int lf[j]] = iL (md ++ [lf[j]]) := by
          unfold iL
          rw [List.map_append]
          rfl
        rw [eM]
        have hl3 : (upd (upd (upd H1 N (.lst [])) L (.lst (iL (lf.eraseIdx j)))) D (.lst (iL (md ++ [lf[j]])))) L = some (.lst (iL (lf.eraseIdx j))) := by rw [upd_ne LD, upd_same]
        have le : (lf.eraseIdx j).length = lf.length - 1 := List.length_eraseIdx_of_lt hj
        refine ⟨_, rfl, _, rfl, L, iL (lf.eraseIdx j), rfl, .inl (SqL.of hl3), _, _, rfl, rfl, _, _, rfl, rfl, ⟨by rw [List.length_map]; omega, by rw [List.length_map]; omega⟩, ?_⟩
        refine ⟨⟨_, lf.eraseIdx j, md ++ [lf[j]], rfl, ?_, hl3, upd_same, ?_⟩, ?_⟩
        · exact Same.write (Same.write (s1.trans s2) hL) H0D
        · rw [List.append_assoc]
          exact ((perm_erase (List.getElem?_eq_getElem hj)).append_left md).trans pm
        · show (match (upd (upd (upd H1 N (.lst [])) L (.lst (iL (lf.eraseIdx j)))) D (.lst (iL (md ++ [lf[j]])))) L with | some (.lst xs) => xs.length | _ => 0) < (match H1 L with | some (.lst xs) => xs.length | _ => 0)
          rw [hl3, hl1]
          show (iL (lf.eraseIdx j)).length < (iL lf).length
          rw [List.length_map, List.length_map, le]
          omega
    · rintro σ H1 Q1 Q2 hq ⟨v, e1, l0, h⟩
      refine ⟨v, e1, l0, fun p hp => ?_⟩
      obtain ⟨d, e, h1, h2, h3, h4, c, e6, q⟩ := h p hp
      exact ⟨d, e, h1, h2, h3, h4, c, e6, hq _ _ q⟩
end
end Fd
namespace Fd
open PySem PySem.Spec PyProof.Rows L2
structure L8Txt (K : PySem.W.Frag) (mg : Str → Option Value) : Prop where
  isi : mg "isinstance" = none
  bool : mg "bool" = none
  min : mg "min" = none
  max : mg "max" = none
  rev : mg "reversed" = none
  fCell : Fn K mg "_law_cell_at" sLawCellAt ["_law_script", "_law_k"]
  fOrder : Fn K mg "_law_order_by" sLawOrderBy ["_law_cell", "_law_many"]
  fEnds : Fn K mg "_law_ends" sLawEnds ["_law_kind", "_law_heads"]
  fPairs : Fn K mg "_law_pairs" sLawPairs ["_law_size"]
  fKnotBy : Fn K mg "_law_knot_by" sLawKnotBy ["_law_script"]
  fTiesOf : Fn K mg "_law_ties_of" sLawTiesOf ["_law_rows"]
  fSpH : Fn K mg "_law_spoilt_heads" sLawSpoiltHeads ["_law_heads", "_law_cell", "_law_many"]
  fSpR : Fn K mg "_law_spoilt_rows" sLawSpoiltRows ["_law_rows", "_law_cell", "_law_many"]
  fRelaid : Fn K mg "_law_relaid" sLawRelaid ["_law_kind", "_law_heads", "_law_rows"]
  fOther : Fn K mg "_law_other_heads" sLawOtherHeads ["_law_heads", "_law_cell"]
  fFit : Fn K mg "_law_heads_fit" sLawHeadsFit ["_law_kind", "_law_heads", "_law_many"]
  fIsKnot : Fn K mg "_law_is_knot" sLawIsKnot ["_law_kind", "_law_heads", "_law_rows", "_law_ties", "_law_many"]
def gridL (n : Nat) : List Tie := (List.range (n * n)).map fun k => (((k / n : Nat) : Int), ((k % n : Nat) : Int))
def spGrid : Sp := fun vs H Q _ => ∃ n : Nat, vs = [.int n] ∧ 1 ≤ n ∧ n ≤ 6 ∧ ∀ (H' : Hp) (D : Addr) (bs : List Addr), Same H H' → H D = none → H' D = some (.lst (bs.map V.ref)) → Cells tupO H' bs (gridL n) → Q (.ref D) H'
section
variable {P : Program} {w : World} {K : PySem.W.Frag} {mg : Str → Option Value} {base : Heap} {C : Addr}
abbrev nGrid : List Str := ["_law_size", "_law_k"]
theorem scGrid : FnScope nGrid ["_law_size"] (defScope sLawPairs) := ⟨rfl, rfl, rfl, by decide +kernel, rfl, by decide +kernel, by decide +kernel⟩
theorem c_grid (T : WTxt K mg C) (L : L8Txt K mg) : C8.Cal P w K mg base 1 "_law_pairs" spGrid [] := by
  refine cal_of L.fPairs scGrid (fun vs H Q E h => ?_) (fun f cdv A outer s H vs Q E hr h => ?_)
  · obtain ⟨n, rfl, _⟩ := h
    rfl
  · obtain ⟨n, rfl, n1, n6, k⟩ := h
    refine ⟨_, pss_one (ps_ret (pe_lc (own := [("_law_k", 1)]) (g := gName 1) (tt := tYes) (te := tTup (tCons (tOp (rI CDiv fun i j => .int (i / j)) (tVar 1) (tVar 0)) (tCons (tOp (rI (fun _ j => 0 < j) fun i j => .int (i % j)) (tVar 1) (tVar 0)) tNil))) (by rfl) scGrid.nd (pi_range1 (by rfl) T.range (pa_cons (pe_op op_mul (pv 0) (pv 0)) pa_nil))
          (blkOk_by (own := [("_law_k", 1)]) (N := nGrid) (sc := defScope sLawPairs) (by decide +kernel)) (fun _ _ _ _ _ => pg_name (i := 1) scGrid.nd rfl (Or.inl rfl)) (fun _ _ _ _ _ => pts_nil)
          (fun _ _ _ _ _ => pe_tup (pa_cons (pe_op op_fdiv (pv 1) (pv 0)) (pa_cons (pe_op op_mod (pv 1) (pv 0)) pa_nil))))), ?_⟩
    have nn : n * n ≤ 36 := Nat.le_trans (Nat.mul_le_mul n6 n6) (by decide)
    refine ⟨_, rfl, _, rfl, (n : Int), (n : Int), rfl, rfl, .inl ⟨by omega, by omega⟩, ((n : Int) * n), rfl, ?_, ?_, fun D hD => ?_⟩
    · have : ((n : Int) * n) = ((n * n : Nat) : Int) := by rw [Int.natCast_mul]
      omega
    · have : ((n : Int) * n) = ((n * n : Nat) : Int) := by rw [Int.natCast_mul]
      omega
    have en : ((n : Int) * n).toNat = n * n := by rw [← Int.natCast_mul, Int.toNat_natCast]
    rw [en]
    refine lc_range (lo := 0) (n := n * n) (fun i H1 => Same H H1 ∧ ∃ bs : List Addr, H1 D = some (.lst (bs.map V.ref)) ∧ Cells tupO H1 bs ((gridL n).take i) ∧ ∀ b ∈ bs, b ≠ D) ⟨Same.put hD, [], upd_same, .nil, fun b hb => by cases hb⟩ (fun i H1 hi ⟨s1, bs, d1, c1, n1'⟩ => ?_) (fun H1 ⟨s1, bs, d1, c1, _⟩ => ?_)
    · have eg : (gridL n)[i]? = some (((i / n : Nat) : Int), ((i % n : Nat) : Int)) := by
        unfold gridL
        rw [List.getElem?_map, List.getElem?_range hi]
        rfl
      have bl := c1.length
      rw [List.length_take] at bl
      have gl : (gridL n).length = n * n := by unfold gridL; rw [List.length_map, List.length_range]
      refine ⟨rfl, ?_⟩
      refine yes_ ?_
      refine iteT ?_
      refine ⟨_, rfl, _, rfl, _, _, rfl, rfl, ⟨by omega, by omega⟩, _, rfl, _, rfl, _, _, rfl, rfl, by show (0 : Int) < (n : Int); omega, by show 2 ≤ sizeLine; decide, fun t ht => ?_⟩
      have tD : t ≠ D := fun z => by rw [z, d1] at ht; cases ht
      refine ⟨_, (Same.put ht) _ _ d1, by rw [List.length_map]; exact small (by omega), Same.write (Same.step s1 ht) hD, bs ++ [t], by rw [upd_same, List.map_append]; rfl, ?_, fun y hy => ?_⟩
      · rw [take_next eg]
        refine Paired.snoc ((c1.same (Same.put ht)).write n1') ?_
        rw [upd_ne tD, upd_same]
        unfold tupO
        rw [Int.zero_add, Int.natCast_ediv, Int.natCast_emod]
      · rcases List.mem_append.mp hy with z | z
        · exact n1' y z
        · rw [List.mem_singleton.mp z]
          exact tD
    · have gl : (gridL n).length = n * n := by unfold gridL; rw [List.length_map, List.length_range]
      rw [← gl, List.take_length] at c1
      exact k H1 D bs s1 hD d1 c1
abbrev nEnds : List Str := ["_law_kind", "_law_heads", "_law_at", "_law_to"]
theorem scEnds : FnScope nEnds ["_law_kind", "_law_heads"] (defScope sLawEnds) := ⟨rfl, rfl, rfl, by decide +kernel, rfl, by decide +kernel, by decide +kernel⟩
theorem ends5 (hs : List Int) : ((gridL 5).filter fun t => decide (t.1 < t.2)).map (fun t => (hs.getD t.1.toNat 0, hs.getD t.2.toNat 0)) = pairsL "five" hs := by
  unfold pairsL
  rw [if_pos rfl]
  rfl
theorem ends3 {kd : Str} {hs : List Int} (hk : kd ≠ "five") (h : hs.length = 6) : ((gridL 6).filter fun t => decide (t.1 < 3) && decide (3 ≤ t.2)).map (fun t => (hs.getD t.1.toNat 0, hs.getD t.2.toNat 0)) = pairsL kd hs := by
  unfold pairsL
  rw [if_neg hk]
  match hs, h with
  | [x0, x1, x2, x3, x4, x5], _ => rfl
theorem lc2t_W {α : Type} {o : α → HO} {K : PySem.W.Frag} {H1 : Hp} {B D : Addr} {bs : List Addr} {ts : List Tie} {σ : L2.St} {a b : Nat} {tt : TT} {te : TE} {p : Tie → Bool} {f : Tie → α} {Qd : Hp → Prop} (hab : a ≠ b) (hB : H1 B = some (.lst (bs.map V.ref))) (hc : Cells tupO H1 bs ts) (hD : H1 D = none) (len : ts.length ≤ 900)
    (hp : ∀ (H2 : Hp) (t : Tie) (Q' : Bool → Hp → Prop), t ∈ ts → Same H1 H2 → (∀ H3, Same H2 H3 → Q' (p t) H3) → tt (((wipe σ [a, b]).set a (some (.int t.1))).set b (some (.int t.2))) H2 Q')
    (ht : ∀ (H2 : Hp) (t : Tie) (Q' : VK), t ∈ ts → p t = true → Same H1 H2 → (∀ H3 c, Same H2 H3 → H3 c = some (o (f t)) → (H2 c = none ∨ H1 c ≠ none) → Q' (.ref c) H3) → te (((wipe σ [a, b]).set a (some (.int t.1))).set b (some (.int t.2))) H2 Q')
    (k : ∀ H2 (cs : List Addr), Same H1 H2 → H2 D = some (.lst (cs.map V.ref)) → Cells o H2 cs ((ts.filter p).map f) → Qd H2) :
    ∃ W : Nat → Nat → Hp → Prop, (∃ m, W 0 m (upd H1 D (.lst []))) ∧ ∀ i m H, W i m H →
      ((Itl K B).stop i H ∧ Qd H) ∨ ((Itl K B).go i H ∧ ∃ Nx : Hp → Prop, (∀ H', Nx H' → ∃ m', m' < m ∧ W (i + 1) m' H') ∧ ∀ x H', (Itl K B).yld i H x H' → (gTup K 2 (gCons (gName a) (gCons (gName b) gNil))) x (wipe σ [a, b]) H' fun σ2 H2 => wipe σ2 [a, b] = wipe σ [a, b] ∧ tt σ2 H2 fun c H3 =>
        if c = true then te σ2 H3 fun y H4 => ∃ acc, H4 D = some (.lst acc) ∧ acc.length < sizeLine ∧ Nx (upd H4 D (.lst (acc ++ [y]))) else Nx H3) := by
  have bl := hc.length
  refine lc_list (K := K) (a := B) (xs := bs.map V.ref) (fun i H2 => Same H1 H2 ∧ ∃ cs : List Addr, H2 D = some (.lst (cs.map V.ref)) ∧ Cells o H2 cs (((ts.take i).filter p).map f) ∧ ∀ c ∈ cs, c ≠ D) ⟨Same.put hD, [], upd_same, .nil, fun c hc => by cases hc⟩ (fun i H2 _ ⟨s2, _⟩ => SqL.of (s2 _ _ hB)) (fun i x H2 hi ⟨s2, cs, d2, c2, n2⟩ => ?_) (fun H2 ⟨s2, cs, d2, c2, _⟩ => ?_)
  · rw [List.getElem?_map] at hi
    cases eb : bs[i]? with
    | none =>
      rw [eb] at hi
      cases hi
    | some y =>
      rw [eb] at hi
      cases Option.some.inj hi
      obtain ⟨t, et, hy⟩ := paired_get hc eb
      have hm := List.mem_of_getElem? et
      have cl := c2.length
      have fl := List.length_filter_le p (ts.take i)
      rw [List.length_map] at cl
      rw [List.length_take] at fl
      refine ⟨y, _, rfl, SqT.of (s2 _ _ hy), rfl, _, _, rfl, _, _, rfl, rfl, ?_⟩
      refine ⟨wipe2 hab _ _, ?_⟩
      refine hp H2 t _ hm s2 fun H3 s3 => ?_
      by_cases c : p t = true
      · rw [if_pos c]
        refine ht H3 t _ hm c (s2.trans s3) fun H4 e s4 he ne => ?_
        have s34 := s3.trans s4
        have eD : e ≠ D := fun z => by
          subst z
          rcases ne with z | z
          · rw [s3 _ _ d2] at z
            cases z
          · exact z hD
        refine ⟨_, s34 _ _ d2, by rw [List.length_map]; exact small (by omega), Same.write (s2.trans s34) hD, cs ++ [e], by rw [upd_same, List.map_append]; rfl, ?_, fun z hz => ?_⟩
        · rw [take_next et, List.filter_append, List.map_append, List.filter_cons_of_pos c, List.filter_nil]
          exact Paired.snoc ((c2.same s34).write n2) (by rw [upd_ne eD]; exact he)
        · rcases List.mem_append.mp hz with q | q
          · exact n2 z q
          · rw [List.mem_singleton.mp q]
            exact eD
      · have c' := Bool.eq_false_iff.mpr c
        rw [if_neg (by rw [c']; decide)]
        refine ⟨s2.trans s3, cs, s3 _ _ d2, ?_, n2⟩
        rw [take_next et, List.filter_append, List.filter_cons_of_neg (by rw [c']; decide), List.filter_nil, List.append_nil]
        exact c2.same s3
  · rw [List.length_map, bl, List.take_length] at c2
    exact k H2 cs s2 d2 c2
theorem c_ends (T : WTxt K mg C) (L : L8Txt K mg) : C8.Cal P w K mg base 2 "_law_ends" (spPairs K) [] := by
  refine cal_of L.fEnds scEnds (fun vs H Q E h => ?_) (fun f cdv A outer s H vs Q E hr h => ?_)
  · obtain ⟨kd, R, hs, rfl, _⟩ := h
    rfl
  · obtain ⟨kd, R, hs, rfl, hR, ln, k⟩ := h
    refine ⟨_, pss_cons (ps_if (pt_cmpR op_eq (pv 0) pe_str (nomark _)) (pss_one (ps_ret (pe_lc (own := [("_law_at", 2), ("_law_to", 3)]) (g := gTup K 2 (gCons (gName 2) (gCons (gName 3) gNil))) (tt := tTest (tOp (rI0 fun i j => .bl (decide (i < j))) (tVar 2) (tVar 3)))
          (te := tTup (tCons (tOp (rIxL K) (tVar 1) (tVar 2)) (tCons (tOp (rIxL K) (tVar 1) (tVar 3)) tNil))) (by rfl) scEnds.nd (pi_list (C8.pe_c (c_grid T L) hr (by decide) (by rfl) (pa_cons pe_int pa_nil)))
          (blkOk_by (own := [("_law_at", 2), ("_law_to", 3)]) (N := nEnds) (sc := defScope sLawEnds) (by decide +kernel))
          (fun _ _ _ _ _ => pg_tup (by rfl) (pgs_cons (pg_name (i := 2) scEnds.nd rfl (Or.inl rfl)) (pgs_cons (pg_name (i := 3) scEnds.nd rfl (Or.inl rfl)) pgs_nil))) (fun _ _ _ _ _ => pts_one (pt_cmpR op_lt (pv 2) (pv 3) (nomark _)))
          (fun _ _ _ _ _ => pe_tup (pa_cons (pe_ix ix_list (pv 1) (pv 2) (fun _ _ => rfl)) (pa_cons (pe_ix ix_list (pv 1) (pv 3) (fun _ _ => rfl)) pa_nil)))))) pss_nil)
      (pss_one (ps_ret (pe_lc (own := [("_law_at", 2), ("_law_to", 3)]) (g := gTup K 2 (gCons (gName 2) (gCons (gName 3) gNil))) (te := tTup (tCons (tOp (rIxL K) (tVar 1) (tVar 2)) (tCons (tOp (rIxL K) (tVar 1) (tVar 3)) tNil))) (by rfl) scEnds.nd (pi_list (C8.pe_c (c_grid T L) hr (by decide) (by rfl) (pa_cons pe_int pa_nil)))
          (blkOk_by (own := [("_law_at", 2), ("_law_to", 3)]) (N := nEnds) (sc := defScope sLawEnds) (by decide +kernel))
          (fun _ _ _ _ _ => pg_tup (by rfl) (pgs_cons (pg_name (i := 2) scEnds.nd rfl (Or.inl rfl)) (pgs_cons (pg_name (i := 3) scEnds.nd rfl (Or.inl rfl)) pgs_nil))) (fun _ _ _ _ _ => pts_one (pt_chain op_lt op_le (pv 2) pe_int (pv 3)))
          (fun _ _ _ _ _ => pe_tup (pa_cons (pe_ix ix_list (pv 1) (pv 2) (fun _ _ => rfl)) (pa_cons (pe_ix ix_list (pv 1) (pv 3) (fun _ _ => rfl)) pa_nil)))))), ?_⟩
    have gm : ∀ n, 1 ≤ n → ∀ t ∈ gridL n, ∃ i j : Nat, t = ((i : Int), (j : Int)) ∧ i < n ∧ j < n := fun n n1 t ht => by
      obtain ⟨q, hq, rfl⟩ := List.mem_map.mp ht
      have hq2 := List.mem_range.mp hq
      exact ⟨q / n, q % n, rfl, Nat.div_lt_of_lt_mul hq2, Nat.mod_lt _ n1⟩
    have at_ : ∀ i : Nat, i < hs.length → (iL hs)[i]? = some (.int (hs.getD ((i : Nat) : Int).toNat 0)) := fun i hi => iL_get (by rw [Int.toNat_natCast, List.getD_eq_getElem?_getD, List.getElem?_eq_getElem hi]; rfl)
    refine ⟨_, rfl, rfl, _, rfl, ?_⟩
    rcases ln with ⟨rfl, l5⟩ | ⟨hk, l6⟩
    · refine yep_ (decide_eq_true rfl) ?_
      refine ⟨5, rfl, by decide, by decide, fun H1 B bs s1 hB b1 c1 => ⟨B, rfl, ⟨_, SqL.of b1⟩, fun D hD => ?_⟩⟩
      refine lc2t_W (o := tupO) (p := fun t => decide (t.1 < t.2)) (f := fun t => (hs.getD t.1.toNat 0, hs.getD t.2.toNat 0)) (by decide) b1 c1 hD (by decide) (fun H2 t Q' hm s2 q => ?_) (fun H2 t Q' hm _ s2 q => ?_) (fun H2 cs s2 d2 c2 => ?_)
      · exact ⟨_, rfl, _, rfl, _, _, rfl, rfl, _, rfl, q H2 (Same.refl H2)⟩
      · obtain ⟨i, j, rfl, hi, hj⟩ := gm 5 (by decide) t hm
        have hR2 := SqL.of (K := K) (s2 _ _ (s1 _ _ hR))
        refine ⟨_, rfl, _, rfl, R, iL hs, (i : Int), _, rfl, rfl, hR2, atI_nat (at_ i (by omega)), _, rfl, _, rfl, R, iL hs, (j : Int), _, rfl, rfl, hR2, atI_nat (at_ j (by omega)), by show 2 ≤ sizeLine; decide, fun e he => ?_⟩
        exact q _ e (Same.put he) upd_same (.inl he)
      · rw [ends5] at c2
        exact k H2 D cs (s1.trans s2) (s1.free hD) d2 c2
    · refine no_ (decide_eq_false fun z => hk (V.str.inj z)) ?_
      refine ⟨6, rfl, by decide, by decide, fun H1 B bs s1 hB b1 c1 => ⟨B, rfl, ⟨_, SqL.of b1⟩, fun D hD => ?_⟩⟩
      refine lc2t_W (o := tupO) (p := fun t => decide (t.1 < 3) && decide (3 ≤ t.2)) (f := fun t => (hs.getD t.1.toNat 0, hs.getD t.2.toNat 0)) (by decide) b1 c1 hD (by decide) (fun H2 t Q' hm s2 q => ?_) (fun H2 t Q' hm _ s2 q => ?_) (fun H2 cs s2 d2 c2 => ?_)
      · refine ⟨_, rfl, _, _, rfl, rfl, _, rfl, ?_⟩
        by_cases c : t.1 < 3
        · refine yep_ (decide_eq_true c) ?_
          have z := q H2 (Same.refl H2)
          rw [decide_eq_true c, Bool.true_and] at z
          exact ⟨_, rfl, _, _, rfl, rfl, _, rfl, z⟩
        · refine no_ (decide_eq_false c) ?_
          have z := q H2 (Same.refl H2)
          rw [decide_eq_false c, Bool.false_and] at z
          exact ⟨_, rfl, z⟩
      · obtain ⟨i, j, rfl, hi, hj⟩ := gm 6 (by decide) t hm
        have hR2 := SqL.of (K := K) (s2 _ _ (s1 _ _ hR))
        refine ⟨_, rfl, _, rfl, R, iL hs, (i : Int), _, rfl, rfl, hR2, atI_nat (at_ i (by omega)), _, rfl, _, rfl, R, iL hs, (j : Int), _, rfl, rfl, hR2, atI_nat (at_ j (by omega)), by show 2 ≤ sizeLine; decide, fun e he => ?_⟩
        exact q _ e (Same.put he) upd_same (.inl he)
      · rw [ends3 hk l6] at c2
        exact k H2 D cs (s1.trans s2) (s1.free hD) d2 c2
end
end Fd
namespace Fd
open PySem PySem.Spec PyProof.Rows L2
def tiesL8 (rss : List (List Int)) : List Tie := rss.flatMap fun r => (steps2 r).map norm
def spTiesOf : Sp := fun vs H Q _ => ∃ (R : Addr) (rss : List (List Int)), vs = [.ref R] ∧ ListsAt H R rss ∧ rss.length ≤ 30 ∧ (∀ r ∈ rss, r.length ≤ 30) ∧ ∀ (H' : Hp) (D : Addr) (bs : List Addr), Same H H' → H D = none → H' D = some (.lst (bs.map V.ref)) → Cells tupO H' bs (tiesL8 rss) → (∀ b ∈ bs, H b = none) → Q (.ref D) H'
section
variable {P : Program} {w : World} {K : PySem.W.Frag} {mg : Str → Option Value} {base : Heap} {C : Addr}
abbrev nTiesOf : List Str := ["_law_rows", "_law_made", "_law_row", "_law_k"]
theorem scTiesOf : FnScope nTiesOf ["_law_rows"] (defScope sLawTiesOf) := ⟨rfl, rfl, rfl, by decide +kernel, rfl, by decide +kernel, by decide +kernel⟩
theorem c_tiesof (T : WTxt K mg C) (L : L8Txt K mg) : C8.Cal P w K mg base 1 "_law_ties_of" spTiesOf [] := by
  refine cal_of L.fTiesOf scTiesOf (fun vs H Q E h => ?_) (fun f cdv A outer s H vs Q E hr h => ?_)
  · obtain ⟨R, rss, rfl, _⟩ := h
    rfl
  · obtain ⟨R, rss, rfl, hR, rl, rsh, k⟩ := h
    refine ⟨_, pss_cons (ps_set (i := 1) scTiesOf.nd rfl (Or.inl rfl) (pe_lst pa_nil))
      (pss_cons (ps_for PassesOwn.never rfl (pi_list (pv 0)) (pg_name (i := 2) scTiesOf.nd rfl (Or.inl rfl))
        (pss_one (ps_for PassesOwn.never rfl (pi_range2 (by rfl) T.range (pa_cons pe_int (pa_cons (pe_callB call_len_seq (by rfl) T.len PySem.boot_len (pa_cons (pv 2) pa_nil)) pa_nil))) (pg_name (i := 3) scTiesOf.nd rfl (Or.inl rfl))
          (pss_one (ps_expr (pe_bm PySem.F.plainAttrs_list PySem.F.slot_list_append PySem.F.type_list_append mt_append (pv 1) (pa_cons (pe_tup (pa_cons
              (pe_callB (call_min2 rfl) (by rfl) L.min (by decide +kernel) (pa_cons (pe_ix ix_list (pv 2) (pe_op op_sub (pv 3) pe_int) (fun _ _ => rfl)) (pa_cons (pe_ix ix_list (pv 2) (pv 3) (fun _ _ => rfl)) pa_nil)))
              (pa_cons (pe_callB (call_max2 rfl) (by rfl) L.max (by decide +kernel) (pa_cons (pe_ix ix_list (pv 2) (pe_op op_sub (pv 3) pe_int) (fun _ _ => rfl)) (pa_cons (pe_ix ix_list (pv 2) (pv 3) (fun _ _ => rfl)) pa_nil))) pa_nil))) pa_nil)))))))
      (pss_one (ps_ret (pv 1)))), ?_⟩
    obtain ⟨as, hRa, eas, rd⟩ := rows_read hR
    refine ⟨Nat.zero_le _, fun D hD => ?_⟩
    have hRq := SqL.of (K := K) hRa
    have asl : as.length = rss.length := by rw [← eas]; simp
    refine ⟨_, rfl, R, rfl, ⟨_, SqL.of (Same.put hD _ _ hRa)⟩, for_list (K := K) (a := R) (xs := as.map V.ref) (fun i σ H1 => ∃ v2 v3 : Option V, σ = [some (.ref R), some (.ref D), v2, v3] ∧ Same H H1 ∧ ∃ bs : List Addr, H1 D = some (.lst (bs.map V.ref)) ∧ Cells tupO H1 bs (tiesL8 (rss.take i)) ∧ (∀ b ∈ bs, b ≠ D) ∧ ∀ b ∈ bs, H b = none)
      ⟨none, none, rfl, Same.put hD, [], upd_same, .nil, fun b hb => (by cases hb), fun b hb => by cases hb⟩ (fun i σ H1 _ ⟨_, _, _, s1, _⟩ => s1.seq hRq) ?_ ?_⟩
    · rintro i x σ H1 hi ⟨v2, v3, rfl, s1, bs, d1, c1, n1, m1⟩
      have hx := List.mem_of_getElem? hi
      obtain ⟨b, rfl, hb⟩ := rd x hx
      have er : rss[i]? = some (rdRow H (.ref b)) := by rw [← eas, List.getElem?_map, hi]; rfl
      have hr := List.mem_of_getElem? er
      generalize rdRow H (.ref b) = r at hb er hr
      have rl30 := rsh r hr
      have hb1 := s1 _ _ hb
      have bq := SqL.of (K := K) hb1
      have pre : (tiesL8 (rss.take i)).length ≤ 900 := by
        have z := flat_len8 (rss.take i) (fun r => (steps2 r).map norm) 30 fun r hr => by
          have z1 := rsh r (List.mem_of_mem_take hr)
          have z2 := steps2_len r
          rw [List.length_map]
          omega
        rw [List.length_take] at z
        unfold tiesL8
        omega
      have e0 : tiesL8 (rss.take (i + 1)) = tiesL8 (rss.take i) ++ (steps2 r).map norm := by
        unfold tiesL8
        rw [take_next er, List.flatMap_append]
        simp
      have sl := steps2_len r
      dsimp only [tNext, gName, tSeq, tAsg]
      refine ⟨_, rfl, b, iL r, rfl, .inl bq, 1, _, rfl, ⟨by omega, by omega, by rw [List.length_map]; omega, by rw [List.length_map]; omega⟩, ?_⟩
      have en : (((iL r).length : Int) - 1).toNat = (steps2 r).length := by
        rw [List.length_map]
        omega
      rw [en]
      refine for_range (lo := 1) (n := (steps2 r).length) (fun j σ H2 => ∃ v3 : Option V, σ = [some (.ref R), some (.ref D), some (.ref b), v3] ∧ Same H H2 ∧ ∃ bs : List Addr, H2 D = some (.lst (bs.map V.ref)) ∧ Cells tupO H2 bs (tiesL8 (rss.take i) ++ ((steps2 r).take j).map norm) ∧ (∀ b ∈ bs, b ≠ D) ∧ ∀ b ∈ bs, H b = none)
        ⟨_, rfl, s1, bs, d1, by rw [List.take_zero, List.map_nil, List.append_nil]; exact c1, n1, m1⟩ ?_ ?_
      · rintro j σ H2 hj ⟨v3, rfl, s2, cs, d2, c2, n2, m2⟩
        have es : (steps2 r)[j]? = some (steps2 r)[j] := List.getElem?_eq_getElem hj
        have hj1 : j + 1 < r.length := by omega
        have ex : (steps2 r)[j] = (r[j], r[j + 1]) := by
          have z := steps2_at (xs := r) (i := j) (List.getElem?_eq_getElem (by omega)) (y := r[j + 1]) (by rw [List.getElem?_tail, List.getElem?_eq_getElem hj1])
          exact Option.some.inj (es.symm.trans z)
        have i1 : atI (iL r) (1 + (j : Int) - 1) = some (.int r[j]) := by
          have : 1 + (j : Int) - 1 = (j : Int) := by omega
          rw [this]
          exact atI_nat (iL_get (List.getElem?_eq_getElem (by omega)))
        have i2 : atI (iL r) (1 + (j : Int)) = some (.int r[j + 1]) := by
          have : 1 + (j : Int) = ((j + 1 : Nat) : Int) := by omega
          rw [this]
          exact atI_nat (iL_get (List.getElem?_eq_getElem hj1))
        have bq2 := SqL.of (K := K) (s2 _ _ hb)
        have cl := c2.length
        rw [List.length_append, List.length_map, List.length_take] at cl
        dsimp only [tNext, gName, tSeq, tAsg]
        refine ⟨_, rfl, .inl ⟨rfl, _, SqL.of d2⟩, _, rfl, _, rfl, _, _, rfl, rfl, b, iL r, _, _, rfl, rfl, bq2, i1, _, rfl, _, rfl, b, iL r, _, _, rfl, rfl, bq2, i2, _, _, rfl, _, rfl, _, rfl, _, _, rfl, rfl, b, iL r, _, _, rfl, rfl, bq2, i1, _, rfl, _, rfl, b, iL r, _, _, rfl, rfl, bq2, i2, _, _, rfl, by show 2 ≤ sizeLine; decide, fun t ht => ?_⟩
        have tD : t ≠ D := fun z => by rw [z, d2] at ht; cases ht
        refine ⟨D, _, _, rfl, rfl, (Same.put ht) _ _ d2, by rw [List.length_map]; exact small (by omega), ?_⟩
        refine ⟨_, rfl, Same.write (Same.step s2 ht) hD, cs ++ [t], by rw [upd_same, List.map_append]; rfl, ?_, fun y hy => ?_, fun y hy => ?_⟩
        · rw [take_next es, List.map_append, ← List.append_assoc]
          refine Paired.snoc ((c2.same (Same.put ht)).write n2) ?_
          show upd _ D _ t = _
          rw [upd_ne tD, upd_same, ex]
          unfold tupO norm
          congr 3
          · congr 1
            show (if r[j + 1] < r[j] then r[j + 1] else r[j]) = min r[j] r[j + 1]
            split <;> omega
          · congr 2
            show (if r[j + 1] > r[j] then r[j + 1] else r[j]) = max r[j] r[j + 1]
            split <;> omega
        · rcases List.mem_append.mp hy with z | z
          · exact n2 y z
          · rw [List.mem_singleton.mp z]
            exact tD
        · rcases List.mem_append.mp hy with z | z
          · exact m2 y z
          · rw [List.mem_singleton.mp z]
            exact s2.free ht
      · rintro σ H2 ⟨v3, rfl, s2, cs, d2, c2, n2, m2⟩
        rw [List.take_length] at c2
        exact ⟨_, _, rfl, s2, cs, d2, by rw [e0]; exact c2, n2, m2⟩
    · rintro σ H1 ⟨v2, v3, rfl, s1, bs, d1, c1, n1, m1⟩
      rw [List.length_map, asl, List.take_length] at c1
      exact ⟨_, rfl, k H1 D bs s1 hD d1 c1 m1⟩
end
end Fd
namespace Fd
open PySem PySem.Spec PyProof.Rows L2
def spFit : Sp := fun vs H Q _ => ∃ (kd : Str) (Hd : Addr) (m : Nat) (hs : List Int), vs = [.str kd, .ref Hd, .int m] ∧ H Hd = some (.lst (iL hs)) ∧ hs.length ≤ 100 ∧ ∀ H', Same H H' → Q (.bl (headsB m kd hs)) H'
theorem riseB_iff (xs : List Int) : riseB xs = true ↔ xs.Pairwise (· < ·) := by
  unfold riseB
  induction xs with
  | nil => simp [steps2]
  | cons x xs ih =>
    cases xs with
    | nil => simp [steps2]
    | cons y ys =>
      have e : steps2 (x :: y :: ys) = (x, y) :: steps2 (y :: ys) := rfl
      rw [e, List.all_cons, Bool.and_eq_true, ih, decide_eq_true_iff]
      constructor
      · rintro ⟨h1, h2⟩
        refine List.pairwise_cons.mpr ⟨fun z hz => ?_, h2⟩
        rcases List.mem_cons.mp hz with rfl | hz
        · exact h1
        · have := (List.pairwise_cons.mp h2).1 z hz
          omega
      · intro h
        obtain ⟨h1, h2⟩ := List.pairwise_cons.mp h
        exact ⟨h1 y List.mem_cons_self, h2⟩
/-- the first so many are points of the web, each once -/
def fitUp (m : Nat) (hs : List Int) (n : Nat) : Prop := ∀ (i : Nat) (x : Int), i < n → hs[i]? = some x → inB m x = true ∧ x ∉ hs.take i
theorem fitUp_iff (m : Nat) (hs : List Int) : fitUp m hs hs.length ↔ ptsB m hs = true ∧ hs.Nodup := by
  constructor
  · intro h
    refine ⟨List.all_eq_true.mpr fun x hx => ?_, List.pairwise_iff_getElem.mpr fun i j hi hj hij e => ?_⟩
    · obtain ⟨i, hi⟩ := List.mem_iff_getElem?.mp hx
      exact (h i x (List.getElem?_eq_some_iff.mp hi).1 hi).1
    · refine (h j hs[j] hj (List.getElem?_eq_getElem hj)).2 ?_
      rw [← e]
      refine List.mem_iff_getElem?.mpr ⟨i, ?_⟩
      rw [List.getElem?_take_of_lt hij]
      exact List.getElem?_eq_getElem hi
  · rintro ⟨h1, h2⟩ i x hi e
    refine ⟨List.all_eq_true.mp h1 x (List.mem_of_getElem? e), fun hm => ?_⟩
    obtain ⟨j, hj⟩ := List.mem_iff_getElem?.mp hm
    have hji : j < i := by
      have := (List.getElem?_eq_some_iff.mp hj).1
      rw [List.length_take] at this
      omega
    rw [List.getElem?_take_of_lt hji] at hj
    obtain ⟨a1, a2⟩ := List.getElem?_eq_some_iff.mp hj
    obtain ⟨b1, b2⟩ := List.getElem?_eq_some_iff.mp e
    exact List.pairwise_iff_getElem.mp h2 j i a1 b1 hji (a2.trans b2.symm)
theorem sorted_rise {xs js : List Int} (nd : xs.Nodup) (hp : js.Perm xs) (ho : js.Pairwise (· ≤ ·)) : (xs = js) ↔ riseB xs = true := by
  rw [riseB_iff]
  constructor
  · intro e
    rw [← e] at ho
    exact strict_of_le ho nd
  · intro h
    refine strict_uniq (lt := fun a b : Int => a < b) (fun a b h => by omega) h (strict_of_le ho (hp.nodup_iff.mpr nd)) fun x => hp.symm.mem_iff
section
variable {P : Program} {w : World} {K : PySem.W.Frag} {mg : Str → Option Value} {base : Heap} {C : Addr}
abbrev nFit : List Str := ["_law_kind", "_law_heads", "_law_many", "_law_k", "_law_first", "_law_second"]
theorem scFit : FnScope nFit ["_law_kind", "_law_heads", "_law_many"] (defScope sLawHeadsFit) := ⟨rfl, rfl, rfl, by decide +kernel, rfl, by decide +kernel, by decide +kernel⟩
theorem c_fit (T : WTxt K mg C) (L : L8Txt K mg) : C8.Cal P w K mg base 1 "_law_heads_fit" spFit [] := by
  refine cal_of L.fFit scFit (fun vs H Q E h => ?_) (fun f cdv A outer s H vs Q E hr h => ?_)
  · obtain ⟨kd, Hd, m, hs, rfl, _⟩ := h
    rfl
  · obtain ⟨kd, Hd, m, hs, rfl, hH, len, k⟩ := h
    have hun : (A.deeper (envOfC "_law_heads_fit" (defScope sLawHeadsFit) s.heap.objs.size f cdv)).units + 64 < cLine := by
      have := hr.un
      omega
    refine ⟨_, pss_cons (ps_if (PW.pt (pw_or (pt_cmpR op_notIn_seq (pv 0) (pe_lst (pa_cons pe_str (pa_cons pe_str pa_nil))) (by rfl))
        (pw_or1 (pt_cmpR op_ne (pe_callB call_len_seq (by rfl) T.len PySem.boot_len (pa_cons (pv 1) pa_nil)) (pe_ix ix_list (pe_lst (pa_cons pe_int (pa_cons pe_int pa_nil)))
          (pe_callTy call_int1 (by rfl) T.int (by decide +kernel) (pa_cons (pe_cmpR op_eq (pv 0) pe_str (nomark _)) pa_nil)) (fun _ _ => rfl)) (nomark _))))) (pss_one (ps_ret pe_bl)) pss_nil)
      (pss_cons (ps_for PassesOwn.never rfl (pi_range1 (by rfl) T.range (pa_cons (pe_callB call_len_seq (by rfl) T.len PySem.boot_len (pa_cons (pv 1) pa_nil)) pa_nil)) (pg_name (i := 3) scFit.nd rfl (Or.inl rfl))
        (pss_one (ps_if (PW.pt (pw_or (pt_not (pt_chain op_le op_lt pe_int (pe_ix ix_list (pv 1) (pv 3) (fun _ _ => rfl)) (pv 2)))
          (pw_or1 (pt_cmpR op_in_seq (pe_ix ix_list (pv 1) (pv 3) (fun _ _ => rfl)) (pe_slice sl_list (pv 1) po_none (po_some (pv 3))) (by rfl))))) (pss_one (ps_ret pe_bl)) pss_nil)))
      (pss_cons (ps_if (pt_cmpR op_eq (pv 0) pe_str (nomark _)) (pss_one (ps_ret (pe_cmpR (op_eqD hun) (pv 1) (pe_callB (id := "sorted") (r := rSortedI K) cr_sortedI (by rfl) T.sorted (by decide +kernel) (pa_cons (pv 1) pa_nil)) (nomark _)))) pss_nil)
      (pss_cons (ps_set (i := 4) scFit.nd rfl (Or.inl rfl) (pe_slice sl_list (pv 1) po_none (po_some pe_int)))
      (pss_cons (ps_set (i := 5) scFit.nd rfl (Or.inl rfl) (pe_slice sl_list (pv 1) (po_some pe_int) po_none))
      (pss_one (ps_ret (pe_and (pe_cmpR (op_eqD hun) (pv 4) (pe_callB (id := "sorted") (r := rSortedI K) cr_sortedI (by rfl) T.sorted (by decide +kernel) (pa_cons (pv 4) pa_nil)) (nomark _))
        (pe_and (pe_cmpR (op_eqD hun) (pv 5) (pe_callB (id := "sorted") (r := rSortedI K) cr_sortedI (by rfl) T.sorted (by decide +kernel) (pa_cons (pv 5) pa_nil)) (nomark _))
        (pe_one (pe_cmpR op_lt (pe_ix ix_list (pv 4) pe_int (fun _ _ => rfl)) (pe_ix ix_list (pv 5) pe_int (fun _ _ => rfl)) (nomark _))))))))))), ?_⟩
    -- the kind, how many
    refine ⟨_, rfl, smalle (by show 2 ≤ 1000; decide), fun q hq => ?_⟩
    have s1 : Same H (upd H q (.lst [.str "five", .str "three"])) := Same.put hq
    refine ⟨q, _, rfl, .inl (SqL.of upd_same), rfl, rfl, _, rfl, ?_⟩
    generalize upd H q (.lst [.str "five", .str "three"]) = H1 at s1 ⊢
    have ein : inV (.str kd) [.str "five", .str "three"] = (decide (kd = "five") || decide (kd = "three")) := by
      have es : ∀ a b : Str, eqV (.str a) (.str b) = decide (b = a) := fun a b => by
        show (a == b) = decide (b = a)
        rw [Bool.eq_iff_iff, beq_iff_eq, decide_eq_true_iff]
        exact eq_comm
      show (eqV (.str "five") (.str kd) || (eqV (.str "three") (.str kd) || false)) = _
      rw [es, es, Bool.or_false]
    have no1 : (kd ≠ "five" ∧ kd ≠ "three") → headsB m kd hs = false := fun ⟨a, b⟩ => by
      unfold headsB
      rw [if_neg a, decide_eq_false b, Bool.false_and, Bool.false_and, Bool.and_false]
    have no2 : hs.length ≠ (if kd = "three" then 6 else 5) → headsB m kd hs = false := fun a => by
      unfold headsB
      by_cases c : kd = "five"
      · subst c
        rw [if_neg (by decide)] at a
        rw [if_pos rfl, decide_eq_false a, Bool.false_and, Bool.and_false]
      · rw [if_neg c]
        by_cases c2 : kd = "three"
        · rw [if_pos c2] at a
          rw [decide_eq_false a, Bool.and_false, Bool.false_and, Bool.and_false]
        · rw [decide_eq_false c2, Bool.false_and, Bool.false_and, Bool.and_false]
    by_cases ck : kd = "five" ∨ kd = "three"
    · refine no_ ?_ ?_
      · rw [if_pos rfl, ein]
        rcases ck with z | z
        · rw [decide_eq_true z]
          rfl
        · rw [decide_eq_true z, Bool.or_true]
          rfl
      refine ⟨_, rfl, Hd, iL hs, rfl, .inl (SqL.of (s1 _ _ hH)), smalle (by show 2 ≤ 1000; decide), fun q2 hq2 => ?_⟩
      have s2 : Same H (upd H1 q2 (.lst [.int 5, .int 6])) := Same.step s1 hq2
      have hq3 : (upd H1 q2 (.lst [.int 5, .int 6])) q2 = some (.lst [.int 5, .int 6]) := upd_same
      generalize upd H1 q2 (.lst [.int 5, .int 6]) = H2 at s2 hq3 ⊢
      refine ⟨_, rfl, rfl, .inr ⟨_, rfl, ?_⟩⟩
      generalize hb3 : decide (V.str kd = V.str "three") = b3
      have e3 : b3 = decide (kd = "three") := by
        rw [← hb3, decide_eq_decide]
        exact ⟨fun z => V.str.inj z, fun z => by rw [z]⟩
      have ei : atI [V.int 5, V.int 6] (if b3 = true then 1 else 0) = some (.int (if kd = "three" then 6 else 5)) := by
        rw [e3]
        by_cases c : kd = "three"
        · rw [if_pos (decide_eq_true c), if_pos c]
          rfl
        · rw [if_neg (by rw [decide_eq_false c]; decide), if_neg c]
          rfl
      refine ⟨q2, _, _, _, rfl, rfl, SqL.of hq3, ei, rfl, _, rfl, ?_⟩
      by_cases cl : hs.length = (if kd = "three" then 6 else 5)
      · refine no_ ?_ ?_
        · rw [List.length_map, cl]
          by_cases c : kd = "three"
          · simp only [if_pos c]
            show (!decide (V.int 6 = V.int 6)) = false
            rw [decide_eq_true rfl]
            rfl
          · simp only [if_neg c]
            show (!decide (V.int 5 = V.int 5)) = false
            rw [decide_eq_true rfl]
            rfl
        -- each is a point, none told before
        refine ⟨_, rfl, Hd, iL hs, rfl, .inl (SqL.of (s2 _ _ hH)), _, rfl, by rw [List.length_map]; omega, by rw [List.length_map]; omega, ?_⟩
        rw [List.length_map, Int.toNat_natCast]
        refine for_range (lo := 0) (n := hs.length) (fun i σ H3 => ∃ v3 : Option V, σ = [some (.str kd), some (.ref Hd), some (.int m), v3, none, none] ∧ Same H H3 ∧ fitUp m hs i) ⟨none, rfl, s2, fun i x hi => by omega⟩ ?_ ?_
        · rintro i σ H3 hi ⟨v3, rfl, s3, up⟩
          have ei2 : hs[i]? = some hs[i] := List.getElem?_eq_getElem hi
          have ax : atI (iL hs) ((0 : Int) + i) = some (.int hs[i]) := by
            rw [Int.zero_add]
            exact atI_nat (iL_get ei2)
          have hq := SqL.of (K := K) (s3 _ _ hH)
          have bad : ¬ (inB m hs[i] = true ∧ hs[i] ∉ hs.take i) → headsB m kd hs = false := fun nb => by
            cases hB : headsB m kd hs with
            | false => rfl
            | true =>
              exfalso
              refine nb ?_
              have z : ptsB m hs = true ∧ hs.Nodup := by
                unfold headsB at hB
                rw [Bool.and_eq_true] at hB
                refine ⟨hB.1, ?_⟩
                by_cases c : kd = "five"
                · rw [if_pos c, Bool.and_eq_true, riseB_iff] at hB
                  exact hB.2.2.imp fun h e => by omega
                · rw [if_neg c] at hB
                  simp only [Bool.and_eq_true, decide_eq_true_iff] at hB
                  exact hB.2.2.2.2.1
              exact (fitUp_iff m hs).mpr z i hs[i] hi ei2
          dsimp only [tNext, gName, tSeq, tAsg]
          refine ⟨_, rfl, _, rfl, Hd, iL hs, _, _, rfl, rfl, hq, ax, _, _, rfl, rfl, _, rfl, ?_⟩
          by_cases c0 : 0 ≤ hs[i]
          · refine yep_ (decide_eq_true c0) ?_
            refine ⟨_, rfl, _, _, rfl, rfl, _, rfl, ?_⟩
            by_cases c1 : hs[i] < (m : Int)
            · rw [decide_eq_true c1]
              refine iteF ?_
              refine ⟨_, rfl, _, rfl, Hd, iL hs, _, _, rfl, rfl, hq, ax, _, rfl, _, rfl, _, rfl, Hd, iL hs, rfl, hq, fun B hB => ?_⟩
              have ec : cutV (iL hs) none (some ((0 : Int) + i)) = iL (hs.take i) := by
                rw [Int.zero_add]
                have z := cut_take (iL hs) i (by rw [List.length_map]; omega)
                unfold iL at z ⊢
                rw [List.map_take]
                exact z
              rw [ec]
              have s4 := Same.step (o := .lst (iL (hs.take i))) s3 hB
              refine ⟨B, _, rfl, .inl (SqL.of upd_same), rfl, flat_ints _, _, rfl, ?_⟩
              have e6 := inV_ints (hs.take i) hs[i]
              by_cases c2 : hs[i] ∈ hs.take i
              · refine yep_ (by rw [if_neg (by decide), e6]; exact decide_eq_true c2) ?_
                have q5 := k _ s4
                rw [bad fun z => z.2 c2] at q5
                exact q5
              · refine no_ (by rw [if_neg (by decide), e6]; exact decide_eq_false c2) ?_
                refine ⟨_, rfl, s4, fun j x hj e => ?_⟩
                by_cases hji : j < i
                · exact up j x hji e
                · have : j = i := by omega
                  subst this
                  cases Option.some.inj (e.symm.trans ei2)
                  exact ⟨by unfold inB; rw [decide_eq_true c0, decide_eq_true c1]; rfl, c2⟩
            · rw [decide_eq_false c1]
              refine iteT ?_
              have q5 := k _ s3
              rw [bad fun z => c1 (by have z1 := z.1; unfold inB at z1; rw [Bool.and_eq_true] at z1; exact of_decide_eq_true z1.2)] at q5
              exact q5
          · refine no_ (decide_eq_false c0) ?_
            refine ⟨_, rfl, ?_⟩
            refine iteT ?_
            have q5 := k _ s3
            rw [bad fun z => c0 (by have z1 := z.1; unfold inB at z1; rw [Bool.and_eq_true] at z1; exact of_decide_eq_true z1.1)] at q5
            exact q5
        · rintro σ H3 ⟨v3, rfl, s3, up⟩
          obtain ⟨hp, nd⟩ := (fitUp_iff m hs).mp up
          have hq := SqL.of (K := K) (s3 _ _ hH)
          refine ⟨_, rfl, rfl, _, rfl, ?_⟩
          by_cases c5 : kd = "five"
          · subst c5
            refine yep_ (decide_eq_true rfl) ?_
            refine ⟨_, rfl, _, rfl, Hd, hs, rfl, hq, fun js q3 hp1 ho hnew => ?_⟩
            have s4 := Same.step (o := .lst (js.map V.int)) s3 hnew
            refine ⟨.list (hs.map PyData.int), .list (js.map PyData.int), dp_ints (SqL.of (s4 _ _ hH)), dp_ints (SqL.of upd_same), inl_shaped _, inl_shaped _, ?_⟩
            have q5 := k _ s4
            have e7 : headsB m "five" hs = decide (hs = js) := by
              unfold headsB
              rw [hp, if_pos rfl, decide_eq_true (by rw [if_neg (by decide)] at cl; exact cl), Bool.true_and, Bool.true_and, Bool.eq_iff_iff, decide_eq_true_iff]
              exact (sorted_rise nd hp1 ho).symm
            rw [e7] at q5
            rw [ints_eqv]
            exact q5
          · refine no_ (decide_eq_false fun z => c5 (V.str.inj z)) ?_
            have c3 : kd = "three" := ck.resolve_left c5
            have l6 : hs.length = 6 := by rw [cl, if_pos c3]
            have eB : headsB m kd hs = (riseB (hs.take 3) && (riseB (hs.drop 3) && decide (hs.getD 0 0 < hs.getD 3 0))) := by
              unfold headsB
              rw [hp, if_neg c5, decide_eq_true c3, decide_eq_true l6, decide_eq_true nd]
              simp only [Bool.true_and]
            rw [eB] at k
            have e1 : cutV (iL hs) none (some 3) = iL (hs.take 3) := by
              have z := cut_take (iL hs) 3 (by rw [List.length_map]; omega)
              unfold iL at z ⊢
              rw [List.map_take]
              exact z
            have e2 : cutV (iL hs) (some 3) none = iL (hs.drop 3) := by
              have z := cut_drop (iL hs) 3 (by rw [List.length_map]; omega)
              unfold iL at z ⊢
              rw [List.map_drop]
              exact z
            dsimp only [tNext, gName, tSeq, tAsg]
            refine ⟨_, rfl, 3, rfl, Hd, iL hs, rfl, hq, fun F1 hF1 => ?_⟩
            rw [e1]
            have s4 := Same.step (o := .lst (iL (hs.take 3))) s3 hF1
            have f4 : (upd H3 F1 (.lst (iL (hs.take 3)))) F1 = some (.lst (iL (hs.take 3))) := upd_same
            generalize upd H3 F1 (.lst (iL (hs.take 3))) = H4 at s4 f4 ⊢
            refine ⟨_, rfl, 3, rfl, Hd, iL hs, rfl, SqL.of (s4 _ _ hH), fun F2 hF2 => ?_⟩
            rw [e2]
            have s45 := Same.put (o := .lst (iL (hs.drop 3))) hF2
            have s5 := s4.trans s45
            have f5 := s45 _ _ f4
            have g5 : (upd H4 F2 (.lst (iL (hs.drop 3)))) F2 = some (.lst (iL (hs.drop 3))) := upd_same
            generalize upd H4 F2 (.lst (iL (hs.drop 3))) = H5 at s5 f5 g5 ⊢
            refine ⟨_, rfl, _, rfl, F1, hs.take 3, rfl, SqL.of f5, fun js q3 hp1 ho hnew => ?_⟩
            have s56 := Same.put (o := .lst (js.map V.int)) hnew
            refine ⟨.list ((hs.take 3).map PyData.int), .list (js.map PyData.int), dp_ints (SqL.of (s56 _ _ f5)), dp_ints (SqL.of upd_same), inl_shaped _, inl_shaped _, _, rfl, ?_⟩
            have s6 := s5.trans s56
            have f6 := s56 _ _ f5
            have g6 := s56 _ _ g5
            generalize upd H5 q3 (.lst (js.map V.int)) = H6 at s6 f6 g6 ⊢
            rw [ints_eqv]
            have r1 := sorted_rise (nd.sublist (List.take_sublist 3 hs)) hp1 ho
            by_cases d1 : riseB (hs.take 3) = true
            · refine yep_ (decide_eq_true (r1.mpr d1)) ?_
              rw [d1, Bool.true_and] at k
              refine ⟨_, rfl, _, rfl, F2, hs.drop 3, rfl, SqL.of g6, fun js2 q4 hp2 ho2 hnew2 => ?_⟩
              have s67 := Same.put (o := .lst (js2.map V.int)) hnew2
              refine ⟨.list ((hs.drop 3).map PyData.int), .list (js2.map PyData.int), dp_ints (SqL.of (s67 _ _ g6)), dp_ints (SqL.of upd_same), inl_shaped _, inl_shaped _, _, rfl, ?_⟩
              have s7 := s6.trans s67
              have f7 := s67 _ _ f6
              have g7 := s67 _ _ g6
              generalize upd H6 q4 (.lst (js2.map V.int)) = H7 at s7 f7 g7 ⊢
              rw [ints_eqv]
              have r2 := sorted_rise (nd.sublist (List.drop_sublist 3 hs)) hp2 ho2
              by_cases d2 : riseB (hs.drop 3) = true
              · refine yep_ (decide_eq_true (r2.mpr d2)) ?_
                rw [d2, Bool.true_and] at k
                have g0 : (iL (hs.take 3))[0]? = some (.int (hs.getD 0 0)) := iL_get (by rw [List.getElem?_take_of_lt (by decide), List.getD_eq_getElem?_getD, List.getElem?_eq_getElem (by omega)]; rfl)
                have g3 : (iL (hs.drop 3))[0]? = some (.int (hs.getD 3 0)) := iL_get (by rw [List.getElem?_drop, List.getD_eq_getElem?_getD, List.getElem?_eq_getElem (by omega)]; rfl)
                exact ⟨_, rfl, F1, _, ((0 : Nat) : Int), _, rfl, rfl, SqL.of f7, atI_nat g0, _, rfl, F2, _, ((0 : Nat) : Int), _, rfl, rfl, SqL.of g7, atI_nat g3, _, _, rfl, rfl, k H7 s7⟩
              · refine no_ (decide_eq_false fun z => d2 (r2.mp z)) ?_
                have q5 := k H7 s7
                rw [Bool.eq_false_iff.mpr d2, Bool.false_and] at q5
                exact q5
            · refine no_ (decide_eq_false fun z => d1 (r1.mp z)) ?_
              have q5 := k H6 s6
              rw [Bool.eq_false_iff.mpr d1, Bool.false_and] at q5
              exact q5
      · refine yep_ ?_ ?_
        · rw [List.length_map]
          by_cases c : kd = "three"
          · simp only [if_pos c] at cl ⊢
            rw [decide_eq_false fun z => cl (by have := V.int.inj z; omega)]
            rfl
          · simp only [if_neg c] at cl ⊢
            rw [decide_eq_false fun z => cl (by have := V.int.inj z; omega)]
            rfl
        · have q5 := k _ s2
          rw [no2 cl] at q5
          exact q5
    · refine yep_ ?_ ?_
      · rw [if_pos rfl, ein, decide_eq_false (fun z => ck (.inl z)), decide_eq_false (fun z => ck (.inr z))]
        rfl
      · refine iteT ?_
        have q2 := k H1 s1
        rw [no1 ⟨fun z => ck (.inl z), fun z => ck (.inr z)⟩] at q2
        exact q2
end
end Fd
namespace Fd
open PySem PySem.Spec PyProof.Rows L2
/-- each tie told with the smaller point first -/
def NormT (ts : List Tie) : Prop := ∀ t ∈ ts, t.1 < t.2
def RowOk (ts : List Tie) (e : Tie) (r : List Int) : Prop := 2 ≤ r.length ∧ endsOf r = e ∧ ∀ s ∈ steps2 r, norm s ∈ ts
theorem norm_adj {ts : List Tie} (n : NormT ts) (s : Tie) : norm s ∈ ts ↔ Adj ts s.1 s.2 := by
  constructor
  · intro h
    rcases norm_cases s with e | e
    · rw [e] at h
      exact .inl h
    · rw [e] at h
      exact .inr h
  · rintro (h | h)
    · have l := n _ h
      have e : norm s = s := by
        unfold norm
        have l' : s.1 < s.2 := l
        refine Prod.ext ?_ ?_
        · show min s.1 s.2 = s.1
          omega
        · show max s.1 s.2 = s.2
          omega
      rw [e]
      exact h
    · have l : s.2 < s.1 := n _ h
      have e : norm s = (s.2, s.1) := by
        unfold norm
        refine Prod.ext ?_ ?_
        · show min s.1 s.2 = s.2
          omega
        · show max s.1 s.2 = s.1
          omega
      rw [e]
      exact h
theorem steps2_cover {r : List Int} (h : 2 ≤ r.length) {x : Int} (hx : x ∈ r) : ∃ y, (x, y) ∈ steps2 r ∨ (y, x) ∈ steps2 r := by
  obtain ⟨i, hi⟩ := List.mem_iff_getElem?.mp hx
  obtain ⟨hl, e⟩ := List.getElem?_eq_some_iff.mp hi
  by_cases c : i + 1 < r.length
  · exact ⟨r[i + 1], .inl (List.mem_of_getElem? (steps2_at hi (by rw [List.getElem?_tail, List.getElem?_eq_getElem c])))⟩
  · have i1 : 1 ≤ i := by omega
    refine ⟨r[i - 1], .inr (List.mem_of_getElem? (steps2_at (i := i - 1) (List.getElem?_eq_getElem (by omega)) ?_))⟩
    rw [List.getElem?_tail]
    have : i - 1 + 1 = i := by omega
    rw [this]
    exact hi
theorem rowB_iff {m : Nat} {ts : List Tie} (g : Good m ts) (n : NormT ts) (r : List Int) : rowB m ts r = true ↔ 2 ≤ r.length ∧ ∀ s ∈ steps2 r, norm s ∈ ts := by
  unfold rowB
  rw [Bool.and_eq_true, Bool.and_eq_true, decide_eq_true_iff]
  have tie : tiesB m ts r = true ↔ ∀ s ∈ steps2 r, norm s ∈ ts := by
    unfold tiesB
    rw [List.all_eq_true]
    constructor
    · intro h s hs
      have z := of_decide_eq_true (h s hs)
      exact (norm_adj n s).mpr ((mem_rowOf g).mp z)
    · intro h s hs
      exact decide_eq_true ((mem_rowOf g).mpr ((norm_adj n s).mp (h s hs)))
  rw [tie]
  constructor
  · rintro ⟨⟨_, h2⟩, h3⟩
    exact ⟨h2, h3⟩
  · rintro ⟨h2, h3⟩
    refine ⟨⟨List.all_eq_true.mpr fun x hx => ?_, h2⟩, h3⟩
    obtain ⟨y, hy⟩ := steps2_cover h2 hx
    unfold inB
    rw [Bool.and_eq_true, decide_eq_true_iff, decide_eq_true_iff]
    rcases hy with hy | hy
    · rcases (norm_adj n _).mp (h3 _ hy) with a | a
      · have q := g.rng _ a
        exact ⟨q.1, q.2.1⟩
      · have q := g.rng _ a
        exact ⟨q.2.2.1, q.2.2.2.1⟩
    · rcases (norm_adj n _).mp (h3 _ hy) with a | a
      · have q := g.rng _ a
        exact ⟨q.2.2.1, q.2.2.2.1⟩
      · have q := g.rng _ a
        exact ⟨q.1, q.2.1⟩
theorem heads_mem {kd : Str} {hs : List Int} (h : (kd = "five" ∧ hs.length = 5) ∨ (kd ≠ "five" ∧ hs.length = 6)) (p : Int) : p ∈ headsL8 (pairsL kd hs) ↔ p ∈ hs := by
  unfold headsL8 pairsL
  rcases h with ⟨c, l⟩ | ⟨c, l⟩
  · rw [if_pos c]
    match hs, l with
    | [x0, x1, x2, x3, x4], _ =>
      simp [cbL]
      grind
  · rw [if_neg c]
    match hs, l with
    | [x0, x1, x2, x3, x4, x5], _ =>
      simp
      grind
theorem knotB_iff {m : Nat} {ts : List Tie} (g : Good m ts) (n : NormT ts) (kd : Str) (hs : List Int) (rss : List (List Int)) : knotB m ts kd hs rss = true ↔
    headsB m kd hs = true ∧ rss.length = (pairsL kd hs).length ∧ (∀ (k : Nat) (r : List Int) (e : Tie), rss[k]? = some r → (pairsL kd hs)[k]? = some e → RowOk ts e r) ∧ (innerL rss).Nodup ∧ ∀ p ∈ innerL rss, p ∉ hs := by
  unfold knotB
  rw [Bool.and_eq_true]
  by_cases hB : headsB m kd hs = true
  · have hl := headsB_len hB
    unfold rowsB
    rw [Bool.and_eq_true, Bool.and_eq_true, Bool.and_eq_true, decide_eq_true_iff, decide_eq_true_iff]
    have anyI : (!((innerL rss).any fun p => decide (p ∈ headsL8 (pairsL kd hs)))) = true ↔ ∀ p ∈ innerL rss, p ∉ hs := by
      rw [Bool.not_eq_true', ← Bool.not_eq_true, List.any_eq_true]
      constructor
      · intro h p hp hm
        exact h ⟨p, hp, decide_eq_true ((heads_mem hl p).mpr hm)⟩
      · rintro h ⟨p, hp, hm⟩
        exact h p hp ((heads_mem hl p).mp (of_decide_eq_true hm))
    rw [anyI, List.all_eq_true]
    constructor
    · rintro ⟨_, h1, h2, h3, h4⟩
      refine ⟨hB, by rw [← h2, List.length_map], fun k r e er ee => ?_, h3, h4⟩
      have z := (rowB_iff g n r).mp (h1 r (List.mem_of_getElem? er))
      refine ⟨z.1, ?_, z.2⟩
      rw [← h2, List.getElem?_map, er] at ee
      exact Option.some.inj ee
    · rintro ⟨_, h1, h2, h3, h4⟩
      refine ⟨hB, fun r hr => ?_, ?_, h3, h4⟩
      · obtain ⟨k, hk⟩ := List.mem_iff_getElem?.mp hr
        have hk2 : k < (pairsL kd hs).length := by
          rw [← h1]
          exact (List.getElem?_eq_some_iff.mp hk).1
        have z := h2 k r _ hk (List.getElem?_eq_getElem hk2)
        exact (rowB_iff g n r).mpr ⟨z.1, z.2.2⟩
      · apply List.ext_getElem?
        intro k
        rw [List.getElem?_map]
        cases hk : rss[k]? with
        | none =>
          have : (pairsL kd hs)[k]? = none := List.getElem?_eq_none (by rw [← h1]; exact List.getElem?_eq_none_iff.mp hk)
          rw [this]
          rfl
        | some r =>
          have hk2 : k < (pairsL kd hs).length := by
            rw [← h1]
            exact (List.getElem?_eq_some_iff.mp hk).1
          have z := h2 k r _ hk (List.getElem?_eq_getElem hk2)
          rw [List.getElem?_eq_getElem hk2, ← z.2.1]
          rfl
  · constructor
    · rintro ⟨a, _⟩
      exact absurd a hB
    · rintro ⟨a, _⟩
      exact absurd a hB
end Fd
namespace Fd
open PySem PySem.Spec PyProof.Rows L2
def spLKnot : Sp := fun vs H Q _ => ∃ (kd : Str) (Hd R Ti : Addr) (m : Nat) (hs : List Int) (rss : List (List Int)) (bs : List Addr) (ts : List Tie), vs = [.str kd, .ref Hd, .ref R, .ref Ti, .int m] ∧ H Hd = some (.lst (iL hs)) ∧ hs.length ≤ 100 ∧ ListsAt H R rss ∧ rss.length ≤ 30 ∧ (∀ r ∈ rss, r.length ≤ 30) ∧ H Ti = some (.lst (bs.map V.ref)) ∧ Cells tupO H bs ts ∧ Good m ts ∧ NormT ts ∧ ts.length ≤ 100 ∧
  ∀ H', Same H H' → Q (.bl (knotB m ts kd hs rss)) H'
theorem prds_nil (ts : List Tie) : PyData.eqv (.list (ts.map prd)) (.list (([] : List Tie).map prd)) = decide (ts = []) := by
  cases ts with
  | nil => rfl
  | cons t ts => rfl
theorem filt_via {γ : Type} (L : List V) (f : V → γ) (p : γ → Bool) : (L.filter fun x => p (f x)).map f = (L.map f).filter p := by
  rw [List.filter_map]
  rfl
theorem innerL_take {rss : List (List Int)} {k : Nat} {r : List Int} (h : rss[k]? = some r) : innerL (rss.take (k + 1)) = innerL (rss.take k) ++ mid r := by
  unfold innerL
  rw [take_next h, List.flatMap_append]
  simp
/-- the same, the list told by an expression -/
theorem lcat_W {α : Type} {o : α → HO} {K : PySem.W.Frag} {H : Hp} {σ : L2.St} {j : Nat} {R : Addr} {xs : List V} {tt : TT} {te : TE} {f : V → α} {p : V → Bool} {D : Addr} {Qd : Hp → Prop} (hj : j < σ.length) (hR : SqL K H R xs) (hD : H D = none) (len : xs.length ≤ 900)
    (hp : ∀ (H1 : Hp) (x : V) (Q' : Bool → Hp → Prop), x ∈ xs → Same H H1 → (∀ H2, Same H1 H2 → Q' (p x) H2) → tt ((wipe σ [j]).set j (some x)) H1 Q')
    (ht : ∀ (H1 : Hp) (x : V) (Q' : VK), x ∈ xs → p x = true → Same H H1 → (∀ H2 b, Same H1 H2 → H2 b = some (o (f x)) → (H1 b = none ∨ H b ≠ none) → Q' (.ref b) H2) → te ((wipe σ [j]).set j (some x)) H1 Q')
    (k : ∀ (H' : Hp) (bs : List Addr), Same H H' → H' D = some (.lst (bs.map V.ref)) → Cells o H' bs ((xs.filter p).map f) → Qd H') :
    ∃ W : Nat → Nat → Hp → Prop, (∃ m, W 0 m (upd H D (.lst []))) ∧ ∀ i m H, W i m H →
      ((Itl K R).stop i H ∧ Qd H) ∨ ((Itl K R).go i H ∧ ∃ Nx : Hp → Prop, (∀ H', Nx H' → ∃ m', m' < m ∧ W (i + 1) m' H') ∧ ∀ x H', (Itl K R).yld i H x H' → (gName j) x (wipe σ [j]) H' fun σ2 H2 => wipe σ2 [j] = wipe σ [j] ∧ tt σ2 H2 fun c H3 =>
        if c = true then te σ2 H3 fun y H4 => ∃ acc, H4 D = some (.lst acc) ∧ acc.length < sizeLine ∧ Nx (upd H4 D (.lst (acc ++ [y]))) else Nx H3) := by
  refine lc_list (K := K) (a := R) (xs := xs) (fun q H1 => Same H H1 ∧ ∃ bs : List Addr, H1 D = some (.lst (bs.map V.ref)) ∧ Cells o H1 bs (((xs.take q).filter p).map f) ∧ ∀ b ∈ bs, b ≠ D) ⟨Same.put hD, [], upd_same, .nil, fun b hb => by cases hb⟩ (fun q H1 _ ⟨s1, _⟩ => s1.seq hR) (fun q x H1 hq ⟨s1, bs, d1, c1, n1⟩ => ?_) (fun H1 ⟨s1, bs, d1, c1, n1⟩ => ?_)
  · have hm := List.mem_of_getElem? hq
    have hl : ((xs.take q).filter p).length ≤ 900 := by
      have := List.length_filter_le p (xs.take q)
      rw [List.length_take] at this
      omega
    have bl := c1.length
    rw [List.length_map] at bl
    refine ⟨by simp [wipe], ?_⟩
    refine hp H1 x _ hm s1 fun H2 s2 => ?_
    by_cases c : p x = true
    · rw [if_pos c]
      refine ht H2 x _ hm c (s1.trans s2) fun H3 b s3 hb nb => ?_
      have s13 := s2.trans s3
      have bD : b ≠ D := fun z => by
        subst z
        rcases nb with z | z
        · rw [s2 _ _ d1] at z
          cases z
        · exact z hD
      refine ⟨_, s13 _ _ d1, by rw [List.length_map]; exact small (by omega), Same.write (s1.trans s13) hD, bs ++ [b], by rw [upd_same, List.map_append]; rfl, ?_, fun y hy => ?_⟩
      · rw [take_next hq, List.filter_append, List.map_append, List.filter_cons_of_pos c, List.filter_nil]
        exact Paired.snoc ((c1.same s13).write n1) (by rw [upd_ne bD]; exact hb)
      · rcases List.mem_append.mp hy with z | z
        · exact n1 y z
        · rw [List.mem_singleton.mp z]
          exact bD
    · have c' := Bool.eq_false_iff.mpr c
      rw [if_neg (by rw [c']; decide)]
      refine ⟨s1.trans s2, bs, s2 _ _ d1, ?_, n1⟩
      rw [take_next hq, List.filter_append, List.filter_cons_of_neg (by rw [c']; decide), List.filter_nil, List.append_nil]
      exact c1.same s2
  · rw [List.take_length] at c1
    exact k H1 bs s1 d1 c1
section
variable {P : Program} {w : World} {K : PySem.W.Frag} {mg : Str → Option Value} {base : Heap} {C : Addr}
abbrev nLKnot : List Str := ["_law_kind", "_law_heads", "_law_rows", "_law_ties", "_law_many", "_law_ends_here", "_law_gone", "_law_k", "_law_point", "_law_tie"]
theorem scLKnot : FnScope nLKnot ["_law_kind", "_law_heads", "_law_rows", "_law_ties", "_law_many"] (defScope sLawIsKnot) := ⟨rfl, rfl, rfl, by decide +kernel, rfl, by decide +kernel, by decide +kernel⟩
theorem c_lknot (T : WTxt K mg C) (L : L8Txt K mg) : C8.Cal P w K mg base 3 "_law_is_knot" spLKnot [] := by
  refine cal_of L.fIsKnot scLKnot (fun vs H Q E h => ?_) (fun f cdv A outer s H vs Q E hr h => ?_)
  · obtain ⟨kd, Hd, R, Ti, m, hs, rss, bs, ts, rfl, _⟩ := h
    rfl
  · obtain ⟨kd, Hd, R, Ti, m, hs, rss, bs, ts, rfl, hH, hl, hR, rl, rsh, hT, hts, g, nt, tl, k⟩ := h
    have hun : (A.deeper (envOfC "_law_is_knot" (defScope sLawIsKnot) s.heap.objs.size f cdv)).units + 64 < cLine := by
      have := hr.un
      omega
    refine ⟨_, pss_cons (ps_if (pt_not (pt_val (C8.pe_c (c_fit T L) hr (by decide) (by rfl) (pa_cons (pv 0) (pa_cons (pv 1) (pa_cons (pv 4) pa_nil)))))) (pss_one (ps_ret pe_bl)) pss_nil)
      (pss_cons (ps_set (i := 5) scLKnot.nd rfl (Or.inl rfl) (C8.pe_c (c_ends T L) hr (by decide) (by rfl) (pa_cons (pv 0) (pa_cons (pv 1) pa_nil))))
      (pss_cons (ps_if (pt_cmpR op_ne (pe_callB call_len_seq (by rfl) T.len PySem.boot_len (pa_cons (pv 2) pa_nil)) (pe_callB call_len_seq (by rfl) T.len PySem.boot_len (pa_cons (pv 5) pa_nil)) (nomark _)) (pss_one (ps_ret pe_bl)) pss_nil)
      (pss_cons (ps_set (i := 6) scLKnot.nd rfl (Or.inl rfl) (pe_callTy call_list_of (by rfl) T.list (by decide +kernel) (pa_cons (pv 1) pa_nil)))
      (pss_cons (ps_for PassesOwn.never rfl (pi_range1 (by rfl) T.range (pa_cons (pe_callB call_len_seq (by rfl) T.len PySem.boot_len (pa_cons (pv 2) pa_nil)) pa_nil)) (pg_name (i := 7) scLKnot.nd rfl (Or.inl rfl))
        (pss_cons (ps_if (PW.pt (pw_or (pt_cmpR op_lt (pe_callB call_len_seq (by rfl) T.len PySem.boot_len (pa_cons (pe_ix ix_list (pv 2) (pv 7) (fun _ _ => rfl)) pa_nil)) pe_int (nomark _))
            (pw_or1 (pt_cmpR (op_neD hun) (pe_tup (pa_cons (pe_ix ix_list (pe_ix ix_list (pv 2) (pv 7) (fun _ _ => rfl)) pe_int (fun _ _ => rfl)) (pa_cons (pe_ix ix_list (pe_ix ix_list (pv 2) (pv 7) (fun _ _ => rfl)) (pe_un un_neg pe_int) (fun _ _ => rfl)) pa_nil)))
              (pe_ix ix_list (pv 5) (pv 7) (fun _ _ => rfl)) (nomark _))))) (pss_one (ps_ret pe_bl)) pss_nil)
        (pss_cons (ps_if (pt_cmpR (op_neD hun) (pe_lc (own := [("_law_tie", 9)]) (g := gName 9) (tt := tTest (tOp (rNotInD K) (tVar 9) (tVar 3))) (te := tVar 9) (by rfl) scLKnot.nd (pi_list (C8.pe_c (c_tiesof T L) hr (by decide) (by rfl) (pa_cons (pe_lst (pa_cons (pe_ix ix_list (pv 2) (pv 7) (fun _ _ => rfl)) pa_nil)) pa_nil)))
            (blkOk_by (own := [("_law_tie", 9)]) (N := nLKnot) (sc := defScope sLawIsKnot) (by decide +kernel)) (fun _ _ _ _ _ => pg_name (i := 9) scLKnot.nd rfl (Or.inl rfl)) (fun _ _ _ _ _ => pts_one (pt_cmpR (op_notInD (hu65 hr)) (pv 9) (pv 3) (by rfl)))
            (fun _ _ _ _ _ => pv 9)) (pe_lst pa_nil) (nomark _)) (pss_one (ps_ret pe_bl)) pss_nil)
        (pss_one (ps_for PassesOwn.never rfl (pi_list (pe_slice sl_list (pe_ix ix_list (pv 2) (pv 7) (fun _ _ => rfl)) (po_some pe_int) (po_some (pe_un un_neg pe_int)))) (pg_name (i := 8) scLKnot.nd rfl (Or.inl rfl))
          (pss_cons (ps_if (pt_cmpR op_in_seq (pv 8) (pv 6) (by rfl)) (pss_one (ps_ret pe_bl)) pss_nil)
          (pss_one (ps_expr (pe_bm PySem.F.plainAttrs_list PySem.F.slot_list_append PySem.F.type_list_append mt_append (pv 6) (pa_cons (pv 8) pa_nil))))))))))
      (pss_one (ps_ret pe_bl)))))), ?_⟩
    obtain ⟨as, hRa, eas, rd⟩ := rows_read hR
    have asl : as.length = rss.length := by rw [← eas]; simp
    refine ⟨_, rfl, _, rfl, _, rfl, kd, Hd, m, hs, rfl, hH, hl, fun H1 s1 => ⟨headsB m kd hs, rfl, ?_⟩⟩
    have KN := knotB_iff g nt kd hs rss
    have no : ∀ H', Same H H' → knotB m ts kd hs rss ≠ true → Q (.bl false) H' := fun H' s' n => by
      have q := k H' s'
      rw [Bool.eq_false_iff.mpr n] at q
      exact q
    by_cases c1 : headsB m kd hs = true
    · rw [c1]
      refine iteF ?_
      have hd := headsB_len c1
      refine ⟨_, rfl, _, rfl, kd, Hd, hs, rfl, s1 _ _ hH, hd, fun H2 En es s2 hEn e2 ce => ?_⟩
      have s12 := s1.trans s2
      have pl := pairsL_len hd
      have esl := ce.length
      refine ⟨_, rfl, R, _, rfl, .inl (SqL.of (s12 _ _ hRa)), _, rfl, En, _, rfl, .inl (SqL.of e2), rfl, _, rfl, ?_⟩
      rw [List.length_map, List.length_map, asl, esl]
      by_cases c2 : rss.length = (pairsL kd hs).length
      · refine no_ (by rw [c2, decide_eq_true rfl]; rfl) ?_
        have hRq2 := SqL.of (K := K) (s12 _ _ hRa)
        refine ⟨_, rfl, Hd, iL hs, rfl, .inl (SqL.of (s12 _ _ hH)), fun G hG => ?_⟩
        have s23 : Same H2 (upd H2 G (.lst (iL hs))) := Same.put hG
        refine ⟨_, rfl, R, as.map V.ref, rfl, .inl (s23.seq hRq2), _, rfl, by rw [List.length_map]; omega, by rw [List.length_map]; omega, ?_⟩
        rw [List.length_map, Int.toNat_natCast, asl]
        have rows : knotB m ts kd hs rss = true → ∀ (i : Nat) (r : List Int) (e : Tie), rss[i]? = some r → (pairsL kd hs)[i]? = some e → RowOk ts e r := fun z => (KN.mp z).2.2.1
        refine for_range (lo := 0) (n := rss.length) (fun i σ H4 => ∃ v7 v8 : Option V, σ = [some (.str kd), some (.ref Hd), some (.ref R), some (.ref Ti), some (.int m), some (.ref En), some (.ref G), v7, v8, none] ∧ Same H2 H4 ∧ H4 G = some (.lst (iL (hs ++ innerL (rss.take i)))) ∧
            (∀ (j : Nat) (r : List Int) (e : Tie), j < i → rss[j]? = some r → (pairsL kd hs)[j]? = some e → RowOk ts e r) ∧ (innerL (rss.take i)).Nodup ∧ ∀ p ∈ innerL (rss.take i), p ∉ hs)
          ⟨none, none, rfl, s23, by rw [upd_same, List.take_zero]; simp [innerL], fun j r e hj => by omega, by rw [List.take_zero]; exact List.nodup_nil, fun p hp => by rw [List.take_zero] at hp; cases hp⟩ ?_ ?_
        · rintro i σ H4 hi ⟨v7, v8, rfl, s4, g4, ok, nd, dj⟩
          have s04 := s12.trans s4
          have er : rss[i]? = some rss[i] := List.getElem?_eq_getElem hi
          have hil : i < as.length := by omega
          have ea : (as.map V.ref)[i]? = some (.ref as[i]) := by rw [List.getElem?_map, List.getElem?_eq_getElem hil]; rfl
          obtain ⟨b, eb, hb⟩ := rd _ (List.mem_of_getElem? ea)
          rw [eb] at ea
          have err : rdRow H (.ref b) = rss[i] := by
            have z : ((as.map V.ref).map (rdRow H))[i]? = some (rdRow H (.ref b)) := by rw [List.getElem?_map, ea]; rfl
            rw [eas] at z
            exact Option.some.inj (z.symm.trans er)
          rw [eb, err] at hb
          generalize rss[i] = r at er hb
          have hip : i < (pairsL kd hs).length := by omega
          have ee : (pairsL kd hs)[i]? = some (pairsL kd hs)[i] := List.getElem?_eq_getElem hip
          generalize (pairsL kd hs)[i] = e at ee
          have r30 := rsh r (List.mem_of_getElem? er)
          have at7 : atI (as.map V.ref) ((0 : Int) + i) = some (.ref b) := by
            rw [Int.zero_add]
            exact atI_nat ea
          have hR4 := SqL.of (K := K) (s04 _ _ hRa)
          have hb4 := SqL.of (K := K) (s04 _ _ hb)
          dsimp only [tNext, gName, tSeq, tAsg]
          refine ⟨_, rfl, _, rfl, R, _, _, _, rfl, rfl, hR4, at7, b, iL r, rfl, .inl hb4, _, _, rfl, rfl, _, rfl, ?_⟩
          rw [List.length_map]
          by_cases d1 : 2 ≤ r.length
          · refine no_ (decide_eq_false (by omega)) ?_
            obtain ⟨c, ec, hc⟩ : ∃ c, (es.map V.ref)[i]? = some (.ref c) ∧ H2 c = some (tupO e) := by
              have hie : i < es.length := by rw [esl]; exact hip
              have z : es[i]? = some es[i] := List.getElem?_eq_getElem hie
              obtain ⟨e', ee', he'⟩ := paired_get ce z
              cases Option.some.inj (ee'.symm.trans ee)
              exact ⟨es[i], by rw [List.getElem?_map, z]; rfl, he'⟩
            have at8 : atI (es.map V.ref) ((0 : Int) + i) = some (.ref c) := by
              rw [Int.zero_add]
              exact atI_nat ec
            refine ⟨_, rfl, _, rfl, R, _, _, _, rfl, rfl, hR4, at7, b, iL r, 0, _, rfl, rfl, hb4, atI_first (by omega), _, rfl, _, rfl, R, _, _, _, rfl, rfl, hR4, at7, 1, rfl, b, iL r, -1, _, rfl, rfl, hb4, atI_last (by omega), by show 2 ≤ sizeLine; decide, fun t ht => ?_⟩
            have s45 := Same.put (o := .tup [.int (r.getD 0 0), .int (lastI r)]) ht
            have t5 : (upd H4 t (.tup [.int (r.getD 0 0), .int (lastI r)])) t = some (tupO (endsOf r)) := upd_same
            generalize upd H4 t (.tup [.int (r.getD 0 0), .int (lastI r)]) = H5 at s45 t5 ⊢
            have s25 := s4.trans s45
            have s05 := s12.trans s25
            refine ⟨_, rfl, _, rfl, En, _, _, _, rfl, rfl, SqL.of (s25 _ _ e2), at8, prd (endsOf r), prd e, dp_pair ⟨t, rfl, t5⟩, dp_pair ⟨c, rfl, s25 _ _ hc⟩, prd_shaped _, prd_shaped _, _, rfl, ?_⟩
            rw [prd_eqv]
            by_cases d2 : endsOf r = e
            · refine no_ (by rw [decide_eq_true d2]; rfl) ?_
              -- its ties
              have hR5 := SqL.of (K := K) (s05 _ _ hRa)
              refine ⟨_, rfl, _, rfl, R, _, _, _, rfl, rfl, hR5, at7, smalle (by show 1 ≤ 1000; decide), fun q hq => ?_⟩
              have s56 := Same.put (o := .lst [.ref b]) hq
              have q6 : (upd H5 q (.lst [.ref b])) q = some (.lst [.ref b]) := upd_same
              generalize upd H5 q (.lst [.ref b]) = H6 at s56 q6 ⊢
              have s06 := s05.trans s56
              refine ⟨q, [r], rfl, ⟨[b], q6, .cons (s06 _ _ hb) .nil⟩, by show 1 ≤ 30; decide, fun r' hr' => by rw [List.mem_singleton.mp hr']; exact r30, fun H7 D7 cs s7 hD7 d7 c7 _ => ⟨D7, rfl, ⟨_, SqL.of d7⟩, fun D8 hD8 => ?_⟩⟩
              have s07 := s06.trans s7
              obtain ⟨ecs, rdc⟩ := tups_read c7
              have tlen : (tiesL8 [r]).length ≤ 30 := by
                have z := steps2_len r
                show (([r] : List (List Int)).flatMap _).length ≤ 30
                simp only [List.flatMap_cons, List.flatMap_nil, List.append_nil, List.length_map]
                omega
              have cl : (cs.map V.ref).length ≤ 30 := by
                have z := c7.length
                rw [List.length_map]
                omega
              refine lcat_W (K := K) (o := tupO) (p := fun x => !decide (rdTup H7 x ∈ ts)) (f := rdTup H7) (Nat.lt_of_lt_of_eq (by decide : 9 < 10) rfl) (SqL.of d7) hD8 (by omega) (fun H8 x Q' hx s8 q => ?_) (fun H8 x Q' hx _ s8 q => ?_) (fun H8 fs s8 d8 c8 => ?_)
              · obtain ⟨y, rfl, hy⟩ := rdc x hx
                have s08 := s07.trans s8
                refine ⟨_, rfl, _, rfl, prd (rdTup H7 (.ref y)), ts.map prd, dp_pair ⟨y, rfl, s8 _ _ hy⟩, dp_pairs (SqL.of (s08 _ _ hT)) (pairs_of_cells (hts.same s08)), prd_shaped _, prds_shaped _, _, rfl, ?_⟩
                rw [prds_any]
                exact q H8 (Same.refl H8)
              · obtain ⟨y, rfl, hy⟩ := rdc x hx
                exact ⟨_, rfl, q H8 y (Same.refl H8) (s8 _ _ hy) (.inr (by rw [hy]; intro z; cases z))⟩
              · have s08 := s07.trans s8
                have s28 : Same H2 H8 := s25.trans (s56.trans (s7.trans s8))
                refine ⟨Nat.zero_le _, fun N hN => ?_⟩
                have s89 := Same.put (o := .lst []) hN
                have n9 : (upd H8 N (.lst [])) N = some (.lst []) := upd_same
                have d9 := s89 _ _ d8
                have c9 := c8.same s89
                generalize upd H8 N (.lst []) = H9 at s89 n9 d9 c9 ⊢
                have s09 := s08.trans s89
                have s29 := s28.trans s89
                refine ⟨.list (_ : List PyData), .list (([] : List Tie).map prd), dp_pairs (SqL.of d9) (pairs_of_cells c9), dp_ints (xs := []) (SqL.of n9), prds_shaped _, prds_shaped [], _, rfl, ?_⟩
                rw [prds_nil]
                have fe : (((cs.map V.ref).filter fun x => !decide (rdTup H7 x ∈ ts)).map (rdTup H7) = []) ↔ ∀ s ∈ steps2 r, norm s ∈ ts := by
                  have e0 : ((cs.map V.ref).filter fun x => !decide (rdTup H7 x ∈ ts)).map (rdTup H7) = (tiesL8 [r]).filter fun t => !decide (t ∈ ts) := by
                    rw [← ecs]
                    exact filt_via (cs.map V.ref) (rdTup H7) fun t => !decide (t ∈ ts)
                  rw [e0, List.filter_eq_nil_iff]
                  have e1 : tiesL8 [r] = (steps2 r).map norm := by
                    show ([r] : List (List Int)).flatMap _ = _
                    simp
                  rw [e1]
                  constructor
                  · intro h s hs
                    have z := h (norm s) (List.mem_map.mpr ⟨s, hs, rfl⟩)
                    by_cases c : norm s ∈ ts
                    · exact c
                    · rw [decide_eq_false c] at z
                      exact absurd rfl z
                  · intro h t ht
                    obtain ⟨s, hs, rfl⟩ := List.mem_map.mp ht
                    rw [decide_eq_true (h s hs)]
                    decide
                by_cases d3 : ∀ s ∈ steps2 r, norm s ∈ ts
                · refine no_ (by rw [decide_eq_true (fe.mpr d3)]; rfl) ?_
                  -- its points between
                  have hR9 := SqL.of (K := K) (s09 _ _ hRa)
                  have rowOk : RowOk ts e r := ⟨d1, d2, d3⟩
                  have whole : innerL rss = innerL (rss.take i) ++ (mid r ++ innerL (rss.drop (i + 1))) := by
                    have z : rss = rss.take i ++ (r :: rss.drop (i + 1)) := by
                      have z2 := List.getElem_cons_drop (as := rss) (i := i) hi
                      rw [(Option.some.inj ((List.getElem?_eq_getElem hi).symm.trans er) : rss[i] = r)] at z2
                      rw [z2, List.take_append_drop]
                    have z3 : innerL rss = innerL (rss.take i ++ (r :: rss.drop (i + 1))) := by rw [← z]
                    rw [z3]
                    unfold innerL
                    rw [List.flatMap_append, List.flatMap_cons]
                  have g9 : H9 G = some (.lst (iL (hs ++ innerL (rss.take i)))) := (s45.trans (s56.trans (s7.trans (s8.trans s89)))) _ _ g4
                  have ml := mid_len r
                  have il : (innerL (rss.take i)).length ≤ 900 := by
                    have z := flat_len8 (rss.take i) mid 30 fun r' hr' => by
                      have z1 := mid_len r'
                      have z2 := rsh r' (List.mem_of_mem_take hr')
                      omega
                    rw [List.length_take] at z
                    unfold innerL
                    omega
                  dsimp only [tNext, gName, tSeq, tAsg]
                  refine ⟨_, rfl, _, rfl, R, _, _, _, rfl, rfl, hR9, at7, 1, rfl, 1, rfl, -1, rfl, b, _, rfl, SqL.of (s09 _ _ hb), fun B hB => ?_⟩
                  rw [cut_mid]
                  have GB : G ≠ B := ne_of_none g9 hB
                  have sB := Same.put (o := .lst (iL (mid r))) hB
                  have b10 : (upd H9 B (.lst (iL (mid r)))) B = some (.lst (iL (mid r))) := upd_same
                  have g10 := sB _ _ g9
                  generalize upd H9 B (.lst (iL (mid r))) = H10 at sB b10 g10 ⊢
                  refine ⟨B, rfl, ⟨_, SqL.of b10⟩, for_list (K := K) (a := B) (xs := iL (mid r)) (fun j σ H11 => ∃ v8 : Option V, σ = [some (.str kd), some (.ref Hd), some (.ref R), some (.ref Ti), some (.int m), some (.ref En), some (.ref G), some (.int ((0 : Int) + i)), v8, none] ∧ Same H2 H11 ∧ H11 B = some (.lst (iL (mid r))) ∧
                      H11 G = some (.lst (iL (hs ++ innerL (rss.take i) ++ (mid r).take j))) ∧ (innerL (rss.take i) ++ (mid r).take j).Nodup ∧ ∀ p ∈ (innerL (rss.take i) ++ (mid r).take j), p ∉ hs)
                    ⟨_, rfl, s29.trans sB, b10, by rw [List.take_zero, List.append_nil]; exact g10, by rw [List.take_zero, List.append_nil]; exact nd, by rw [List.take_zero, List.append_nil]; exact dj⟩ (fun j σ H11 _ ⟨_, _, _, h, _⟩ => SqL.of h) ?_ ?_⟩
                  · rintro j x σ H11 hj ⟨v8', rfl, s11, b11, g11, nd11, dj11⟩
                    obtain ⟨p, ep, rfl⟩ := iL_at hj
                    have hjl : j < (mid r).length := (List.getElem?_eq_some_iff.mp ep).1
                    dsimp only [tNext, gName, tSeq, tAsg]
                    refine ⟨_, rfl, _, rfl, G, _, rfl, .inl (SqL.of g11), rfl, flat_ints _, _, rfl, ?_⟩
                    have ein := inV_ints (hs ++ innerL (rss.take i) ++ (mid r).take j) p
                    have tk := take_next ep
                    by_cases d4 : p ∈ hs ++ innerL (rss.take i) ++ (mid r).take j
                    · refine yep_ (by rw [if_neg (by decide), ein]; exact decide_eq_true d4) ?_
                      refine no H11 (s12.trans s11) fun z => ?_
                      have zn := (KN.mp z).2.2.2
                      rw [whole] at zn
                      have hpm : p ∈ mid r := List.mem_of_getElem? ep
                      rw [List.append_assoc] at d4
                      rcases List.mem_append.mp d4 with q | q
                      · exact zn.2 p (List.mem_append_right _ (List.mem_append_left _ hpm)) q
                      · have n1 : ((innerL (rss.take i) ++ (mid r).take j) ++ [p]).Nodup := by
                          refine zn.1.sublist ?_
                          rw [List.append_assoc, ← tk]
                          exact (List.Sublist.refl _).append ((List.take_sublist _ _).trans (List.sublist_append_left _ _))
                        exact (List.nodup_append.mp n1).2.2 p q p (List.mem_singleton.mpr rfl) rfl
                    · refine no_ (by rw [if_neg (by decide), ein]; exact decide_eq_false d4) ?_
                      refine ⟨_, rfl, .inl ⟨rfl, _, SqL.of g11⟩, _, rfl, G, _, _, rfl, rfl, g11, by rw [List.length_map, List.length_append, List.length_append, List.length_take]; exact Nat.lt_of_le_of_lt (by omega : _ ≤ 2000) (by decide), ?_⟩
                      rw [List.append_assoc] at d4
                      have np : p ∉ innerL (rss.take i) ++ (mid r).take j := fun q => d4 (List.mem_append_right _ q)
                      have nh : p ∉ hs := fun q => d4 (List.mem_append_left _ q)
                      refine ⟨_, rfl, Same.write s11 hG, by rw [upd_ne GB.symm]; exact b11, ?_, ?_, ?_⟩
                      · rw [upd_same, tk]
                        have e9 : iL (hs ++ innerL (rss.take i) ++ (mid r).take j) ++ [V.int p] = iL (hs ++ innerL (rss.take i) ++ ((mid r).take j ++ [p])) := by
                          unfold iL
                          simp only [List.map_append, List.append_assoc, List.map_cons, List.map_nil]
                        rw [e9]
                      · rw [tk, ← List.append_assoc]
                        refine List.nodup_append.mpr ⟨nd11, by simp, fun a ha c hc e => ?_⟩
                        rw [List.mem_singleton.mp hc] at e
                        exact np (e ▸ ha)
                      · rw [tk, ← List.append_assoc]
                        intro a ha
                        rcases List.mem_append.mp ha with q | q
                        · exact dj11 a q
                        · rw [List.mem_singleton.mp q]
                          exact nh
                  · rintro σ H11 ⟨v8', rfl, s11, b11, g11, nd11, dj11⟩
                    rw [List.length_map, List.take_length] at g11 nd11 dj11
                    rw [List.append_assoc] at g11
                    refine ⟨_, _, rfl, s11, ?_, fun j r' e' hj er' ee' => ?_, ?_, ?_⟩
                    · rw [innerL_take er]
                      exact g11
                    · by_cases hji : j < i
                      · exact ok j r' e' hji er' ee'
                      · have : j = i := by omega
                        subst this
                        cases Option.some.inj (er'.symm.trans er)
                        cases Option.some.inj (ee'.symm.trans ee)
                        exact rowOk
                    · rw [innerL_take er]
                      exact nd11
                    · rw [innerL_take er]
                      exact dj11
                · refine yep_ (by rw [decide_eq_false fun z => d3 (fe.mp z)]; rfl) ?_
                  exact no H9 s09 fun z => d3 (rows z i r e er ee).2.2
            · refine yep_ (by rw [decide_eq_false d2]; rfl) ?_
              exact no H5 s05 fun z => d2 (rows z i r e er ee).2.1
          · refine yep_ (decide_eq_true (by omega)) ?_
            refine iteT ?_
            exact no H4 s04 fun z => d1 (rows z i r e er ee).1
        · rintro σ H4 ⟨v7, v8, rfl, s4, g4, ok, nd, dj⟩
          rw [List.take_length] at nd dj
          have q := k H4 (s12.trans s4)
          rw [KN.mpr ⟨c1, c2, fun j r e er ee => ok j r e (List.getElem?_eq_some_iff.mp er).1 er ee, nd, dj⟩] at q
          exact q
      · refine yep_ (by rw [decide_eq_false fun z => c2 (by have := V.int.inj z; omega)]; rfl) ?_
        exact no H2 s12 fun z => c2 (KN.mp z).2.1
    · rw [Bool.eq_false_iff.mpr c1]
      refine iteT ?_
      exact no H1 s1 fun z => c1 (KN.mp z).1
end
end Fd
namespace Fd
open PySem PySem.Spec PyProof.Rows L2
open Sem (wp)
section
variable {prog : Program} {w : World} {A : Around} {s : Shared}
theorem extend_rev {R : Result → Shared → Prop} {it l S : Addr} {items : Array Value} {c₀ : Nat} (res : Value) (hh : A.handled = none) (hit : s.heap.IsRevIter it l ((items.size : Int) - 1)) (hl : s.heap.IsList l items) (hne : l ≠ it) (hn : items.size ≤ sizeLine)
    (hS : s.heap.get? S = some { cls := .type "list", data := .seq #[] c₀ }) (hSi : S ≠ it) (hSl : S ≠ l)
    (hR : ∀ (h' : Heap) (tk : Nat) (acc : Array Value) (c' : Nat), (∀ b o, b ≠ S → b ≠ it → s.heap.get? b = some o → h'.get? b = some o) → h'.get? S = some { cls := .type "list", dict := none, data := .seq acc c', slots := #[] } →
      ItemsOf (fun i v => items[items.size - 1 - i]? = some v) acc items.size → R (.ok (.ret res)) { s with heap := h', toks := tk }) :
    wpAny (model prog w) A.in1 (Builtin.List.listExtendWith (.ref S) (.ref it) res)
      (fun fin s' => match fin with | .done f => R (.ok f) s' | .again c' => c'.quiet = true ∧ codeAny (model prog w) A c' R s') (fun e s' => R (.error e) s') s := by
  have W := (Walks.listRev (prog := prog) (w := w) (A := A.in1) hh it l hne items).toS
  have hSf : S ∉ [it, l] := by
    simp only [List.mem_cons, List.not_mem_nil, or_false, not_or]
    exact ⟨hSi, hSl⟩
  have hT : s.TypeIs (.ref it) "list_reverseiterator" := Heap.IsRevIter.typeIs hit
  have h1 : Builtin.List.listSameRef (.ref S) (.ref it) = false := by simp [Builtin.List.listSameRef, hSi]
  unfold Builtin.List.listExtendWith
  refine wpAny_bind (wpAny_typeOf hT ?_)
  rw [if_neg (by rw [h1]; decide)]
  refine wpAny_bind (wpAny_pyIter_revIter hit ?_)
  refine wpAny_bind (wpAny_holding ?_)
  unfold Builtin.List.listLengthHint
  refine wpAny_bind (wpAny_specialOf hT RT.nolen_lri ?_)
  show wpAny _ A.in1 (specialOf (Value.ref it) (Str.ofString "__length_hint__") >>= _) _ _ _
  refine wpAny_bind (wpAny_specialOf hT RT.hint_lri ?_)
  generalize hid : ("list_reverseiterator.__length_hint__" : String) = id0
  wp_delta
  rw [show splitId id0 = some ("list_reverseiterator", "__length_hint__") from by subst hid; decide +kernel]
  subst hid
  refine wpAny_bind (wpAny_isInstance (b := true) hT (by rw [isSubtype_type]; kernel_rfl) ?_)
  refine wpAny_pure ?_
  rw [if_neg (by decide)]
  have e0 : ((items.size : Nat) : Int) - 1 - ((0 : Nat) : Int) = (items.size : Int) - 1 := by omega
  refine wpAny_pure ⟨plainId_quiet F.plain_extend_loop _, codeAny_extend_loopS W hn _ hSf _ items.size 0 _ _ _ rfl (Nat.zero_le _) ⟨Nat.zero_le _, by rw [e0]; exact hit, hl⟩ hS (ItemsOf.nil _) fun s' acc' c' hm hS' hacc => ?_⟩
  rw [Moved.eq_with hm]
  refine hR s'.heap s'.toks acc' c' (fun b o hb hb2 e => hm.heap b o (fun hmem => ?_) e) hS' hacc
  rcases List.mem_cons.mp hmem with e' | hmem
  · exact hb e'
  · exact hb2 (List.mem_singleton.mp hmem)
theorem call_list_rev {E : Value → Shared → Prop} {it l : Addr} {items : Array Value} {Q : Value → Shared → Prop} (hh : A.handled = none) (hit : s.heap.IsRevIter it l ((items.size : Int) - 1)) (hl : s.heap.IsList l items) (hne : l ≠ it) (hn : items.size ≤ sizeLine)
    (hQ : ∀ (h' : Heap) (tk : Nat) (acc : Array Value) (c' : Nat), (∀ b o, b ≠ it → s.heap.get? b = some o → h'.get? b = some o) → h'.get? s.heap.objs.size = some { cls := .type "list", dict := none, data := .seq acc c', slots := #[] } →
      ItemsOf (fun i v => items[items.size - 1 - i]? = some v) acc items.size → Q (.ref s.heap.objs.size) { s with heap := h', toks := tk }) :
    wpAny (model prog w) A (call (.type "list") [.ref it]) Q E s := by
  obtain ⟨oi, hoi, _⟩ := id hit
  obtain ⟨ol, hol, _⟩ := id hl
  have hSi : s.heap.objs.size ≠ it := Nat.ne_of_gt (Heap.lt_size hoi)
  have hSl : s.heap.objs.size ≠ l := Nat.ne_of_gt (Heap.lt_size hol)
  refine callType_codes (Q₁ := fun obj s₁ => obj = .ref s.heap.objs.size ∧ s₁ = { s with heap := s.heap.push { cls := .type "list", data := .seq #[] } }) F.called_list (F.typeCall_list_1 _) F.entry_list_init
    (code_list_new _ ⟨rfl, rfl⟩) fun obj s₁ h₁ => ?_
  obtain ⟨rfl, rfl⟩ := h₁
  have hS : (s.heap.push { cls := .type "list", data := .seq #[] }).get? s.heap.objs.size = some { cls := .type "list", data := .seq #[] } := Heap.get?_push_size _ rfl
  refine ⟨⟨_, hS, rfl⟩, F.args_list_init_2 _ _, ?_⟩
  show wpAny _ A.in1.in1 (do let old ← Builtin.List.listItems (.ref s.heap.objs.size); Builtin.List.listUpdate (.ref s.heap.objs.size) (fun _ => #[]); letGo old.toList.reverse; Builtin.List.listExtendWith (.ref s.heap.objs.size) (.ref it) .none) _ _ _
  refine wpAny_bind ?_
  unfold Builtin.List.listItems
  refine wpAny_bind (wpAny_seqItems hS rfl (wpAny_pure ?_))
  show wpAny _ A.in1.in1 (updateSeq s.heap.objs.size (fun _ => #[]) >>= fun _ => letGo (#[] : Array Value).toList.reverse >>= fun _ => Builtin.List.listExtendWith (.ref s.heap.objs.size) (.ref it) .none) _ _ _
  refine wpAny_bind (wpAny_updateSeq hS rfl ?_)
  have hS₂ := Heap.get?_update_self (Obj.mapSeq (fun _ => (#[] : Array Value))) hS rfl
  refine wpAny_bind (wpAny_letGo ?_)
  have kp : ∀ b o, b ≠ s.heap.objs.size → s.heap.get? b = some o → ((s.heap.push { cls := .type "list", data := .seq #[] }).update s.heap.objs.size (Obj.mapSeq (fun _ => (#[] : Array Value)))).get? b = some o := fun b o hb e =>
    (Heap.get?_update_other _ _ (Ne.symm hb)).trans (Heap.get?_push_of_some _ e)
  obtain ⟨oi, hoi, ci, di⟩ := id hit
  obtain ⟨ol, hol, cl, n, dl⟩ := id hl
  refine extend_rev (A := A.in1) .none hh ⟨oi, kp _ _ hSi.symm hoi, ci, di⟩ ⟨ol, kp _ _ hSl.symm hol, cl, n, dl⟩ hne hn hS₂ hSi hSl fun h' tk acc c' hk hS' hacc => ?_
  refine ⟨rfl, hQ h' tk acc c' (fun b o hb e => ?_) hS' hacc⟩
  have hb2 : b ≠ s.heap.objs.size := Nat.ne_of_lt (Heap.lt_size e)
  exact hk b o hb2 hb (kp b o hb2 e)
end
/-- list(reversed(x)), x a list: a new list -/
def tListRev (K : PySem.W.Frag) (te : TE) : TE := fun σ H Q => te σ H fun v H1 => ∃ (a : Addr) (xs : List V), v = .ref a ∧ SqL K H1 a xs ∧ ∀ q, H1 q = none → Q (.ref q) (upd H1 q (.lst xs.reverse))
section
variable {X : Cx}
theorem pe_listRev {e : Expr} {te : TE} {p p2 pos pos2 : Pos} (hc : X.calm = true) (hg : Gl X "list") (hm : X.mg "list" = none) (hg2 : Gl X "reversed") (hm2 : X.mg "reversed" = none) (he : PE X e te)
    (hs : starEach [e] X.env = (false, eval e X.env) :: starEach [] X.env := by rfl)
    (hs2 : starEach [.Call (.Name "reversed" p2) [e] [] pos2] X.env = (false, eval (.Call (.Name "reversed" p2) [e] [] pos2) X.env) :: starEach [] X.env := by rfl) :
    PE X (.Call (.Name "list" p) [.Call (.Name "reversed" p2) [e] [] pos2] [] pos) (tListRev X.K te) := by
  refine ⟨fun pins s σ H Q I h => ?_⟩
  refine Call_ (ld_blt I hg hm boot_list (PyProof.Rows.callWith_type1 (args_cons (Call_ (ld_blt I hg2 hm2 PyProof.Rows.boot_reversed (PyProof.Rows.callWith_type1 (args_cons (thn (he.run pins s σ H _ I h) fun u s1 ⟨v, H1, I1, r1, q1⟩ => args_nil ?_) hs) hs rfl))) hs2) hs2 rfl))
  obtain ⟨a, xs, ev, hq, q⟩ := q1
  subst ev
  obtain rfl : u = Value.ref a := r1
  obtain ⟨its, rv, p', hz⟩ := I1.list hq
  refine call_reversed_list p'.isList (args_nil ?_)
  have k0 : ∀ b o, s1.heap.get? b = some o → (s1.heap.push (revObj a ((its.toArray.size : Int) - 1))).get? b = some o := fun b o e => Heap.get?_push_of_some _ e
  have hl := p'.isList
  obtain ⟨ol, hol, _⟩ := id hl
  have hne : a ≠ s1.heap.objs.size := Nat.ne_of_lt (Heap.lt_size hol)
  have hn : its.toArray.size ≤ sizeLine := by rw [List.size_toArray, ← rv.length]; exact hz
  refine call_list_rev (s := { s1 with heap := s1.heap.push (revObj a ((its.toArray.size : Int) - 1)) }) (I1.ok.hd hc) ⟨_, Heap.get?_push_size _ rfl, rfl, rfl⟩ (hl.push _) hne hn fun h' tk acc c' hk hS hi => ?_
  have hsz : (s1.heap.push (revObj a ((its.toArray.size : Int) - 1))).objs.size = s1.heap.objs.size + 1 := by simp [Heap.push]
  have kp : ∀ b o, s1.heap.get? b = some o → h'.get? b = some o := fun b o e => hk b o (Nat.ne_of_lt (Heap.lt_size e)) (k0 b o e)
  have le : s1.heap.objs.size ≤ (s1.heap.push (revObj a ((its.toArray.size : Int) - 1))).objs.size := by rw [hsz]; exact Nat.le_succ _
  refine ⟨.ref _, upd H1 _ (.lst xs.reverse), I1.laid (t' := tk) kp le (show ObjOk X.prog X.w _ _ _ (.lst xs.reverse) from ⟨by rw [List.length_reverse]; exact hz, acc.toList, c', RT.vals_rev rv hi, ?_⟩), rfl, q _ (I1.hok.fresh le)⟩
  rw [Array.toArray_toList]
  exact hS
end
end Fd
namespace Fd
open PySem PySem.Spec PyProof.Rows L2
def spOther : Sp := fun vs H Q _ => ∃ (Hd : Addr) (c : Int) (hs : List Int), vs = [.ref Hd, .int c] ∧ H Hd = some (.lst (iL hs)) ∧ 3 ≤ hs.length ∧ hs.length ≤ 20 ∧
  ∀ (H' : Hp) (D : Addr) (hs' : List Int), Same H H' → H' D = some (.lst (iL hs')) → hs'.length = hs.length → Q (.ref D) H'
theorem iL_set (xs : List Int) (j : Nat) (x : Int) : (iL xs).set j (.int x) = iL (xs.set j x) := by
  unfold iL
  rw [List.map_set]
theorem iL_app (xs ys : List Int) : iL xs ++ iL ys = iL (xs ++ ys) := by
  unfold iL
  rw [List.map_append]
theorem cutI_take (hs : List Int) {k : Nat} (h : k ≤ hs.length) : cutV (iL hs) none (some (k : Int)) = iL (hs.take k) := by
  have z := cut_take (iL hs) k (by rw [List.length_map]; exact h)
  unfold iL at z ⊢
  rw [List.map_take]
  exact z
theorem cutI_drop (hs : List Int) {k : Nat} (h : k ≤ hs.length) : cutV (iL hs) (some (k : Int)) none = iL (hs.drop k) := by
  have z := cut_drop (iL hs) k (by rw [List.length_map]; exact h)
  unfold iL at z ⊢
  rw [List.map_drop]
  exact z
section
variable {P : Program} {w : World} {K : PySem.W.Frag} {mg : Str → Option Value} {base : Heap} {C : Addr}
abbrev nOther : List Str := ["_law_heads", "_law_cell", "_law_at", "_law_to", "_law_made", "_law_twice"]
theorem scOther : FnScope nOther ["_law_heads", "_law_cell"] (defScope sLawOtherHeads) := ⟨rfl, rfl, rfl, by decide +kernel, rfl, by decide +kernel, by decide +kernel⟩
theorem c_other (T : WTxt K mg C) (L : L8Txt K mg) : C8.Cal P w K mg base 1 "_law_other_heads" spOther [] := by
  refine cal_of L.fOther scOther (fun vs H Q E h => ?_) (fun f cdv A outer s H vs Q E hr h => ?_)
  · obtain ⟨Hd, c, hs, rfl, _⟩ := h
    rfl
  · obtain ⟨Hd, c, hs, rfl, hH, l3, l20, k⟩ := h
    refine ⟨_, pss_cons (ps_set (i := 2) scOther.nd rfl (Or.inl rfl) (pe_op op_mod (pv 1) (pe_callB call_len_seq (by rfl) T.len PySem.boot_len (pa_cons (pv 0) pa_nil))))
      (pss_cons (ps_set (i := 3) scOther.nd rfl (Or.inl rfl) (pe_op op_mod (pe_op op_fdiv (pv 1) pe_int) (pe_callB call_len_seq (by rfl) T.len PySem.boot_len (pa_cons (pv 0) pa_nil))))
      (pss_cons (ps_set (i := 4) scOther.nd rfl (Or.inl rfl) (pe_callTy call_list_of (by rfl) T.list (by decide +kernel) (pa_cons (pv 0) pa_nil)))
      (pss_cons (ps_asg (pe_tup (pa_cons (pe_ix ix_list (pv 0) (pv 3) (fun _ _ => rfl)) (pa_cons (pe_ix ix_list (pv 0) (pv 2) (fun _ _ => rfl)) pa_nil)))
          (pg_tup (by rfl) (pgs_cons (pg_sub (pv 4) (pv 2) set_list) (pgs_cons (pg_sub (pv 4) (pv 3) set_list) pgs_nil))))
      (pss_cons (ps_set (i := 5) scOther.nd rfl (Or.inl rfl) (pe_callB (id := "sorted") (r := rSortedI K) cr_sortedI (by rfl) T.sorted (by decide +kernel) (pa_cons (pe_op op_cat (pe_op op_cat (pe_slice sl_list (pv 0) po_none (po_some (pv 2)))
          (pe_slice sl_list (pv 0) (po_some (pe_op op_add (pv 2) pe_int)) po_none)) (pe_lst (pa_cons (pe_ix ix_list (pv 0) (pv 3) (fun _ _ => rfl)) pa_nil))) pa_nil)))
      (pss_one (ps_ret (pe_ix ix_list (pe_lst (pa_cons (pe_op op_cat (pe_slice sl_list (pv 0) (po_some pe_int) po_none) (pe_slice sl_list (pv 0) po_none (po_some pe_int))) (pa_cons (pv 4) (pa_cons (pv 5)
          (pa_cons (pe_listRev rfl (by rfl) T.list (by rfl) L.rev (pv 0)) pa_nil))))) (pe_op op_mod (pe_op op_fdiv (pv 1) pe_int) pe_int) (fun _ _ => rfl)))))))), ?_⟩
    have n0 : (0 : Int) < ((iL hs).length : Int) := by rw [List.length_map]; omega
    obtain ⟨a, ea, ha⟩ : ∃ a : Nat, c % ((iL hs).length : Int) = a ∧ a < hs.length := by
      have h0 := Int.emod_nonneg c (show ((iL hs).length : Int) ≠ 0 by omega)
      have h1 := Int.emod_lt_of_pos c n0
      rw [List.length_map] at h0 h1 ⊢
      exact ⟨(c % (hs.length : Int)).toNat, by omega, by omega⟩
    obtain ⟨b, eb, hb⟩ : ∃ b : Nat, c / 6 % ((iL hs).length : Int) = b ∧ b < hs.length := by
      have h0 := Int.emod_nonneg (c / 6) (show ((iL hs).length : Int) ≠ 0 by omega)
      have h1 := Int.emod_lt_of_pos (c / 6) n0
      rw [List.length_map] at h0 h1 ⊢
      exact ⟨(c / 6 % (hs.length : Int)).toNat, by omega, by omega⟩
    have hq := SqL.of (K := K) hH
    refine ⟨_, rfl, _, rfl, Hd, _, rfl, .inl hq, _, _, rfl, rfl, n0, ?_⟩
    dsimp only [tNext, gName, tSeq, tAsg]
    rw [ea]
    refine ⟨_, rfl, _, _, rfl, rfl, ⟨by decide, by decide⟩, _, rfl, Hd, _, rfl, .inl hq, _, _, rfl, rfl, n0, ?_⟩
    dsimp only [tNext, gName, tSeq, tAsg]
    rw [eb]
    refine ⟨_, rfl, Hd, _, rfl, .inl hq, fun M hM => ?_⟩
    have s1 : Same H (upd H M (.lst (iL hs))) := Same.put hM
    have m1 : (upd H M (.lst (iL hs))) M = some (.lst (iL hs)) := upd_same
    generalize upd H M (.lst (iL hs)) = H1 at s1 m1 ⊢
    have ata : atI (iL hs) (a : Int) = some (.int hs[a]) := atI_nat (iL_get (List.getElem?_eq_getElem ha))
    have atb : atI (iL hs) (b : Int) = some (.int hs[b]) := atI_nat (iL_get (List.getElem?_eq_getElem hb))
    have ixa : ∀ xs : List Int, xs.length = hs.length → ∀ k : Nat, k < hs.length → ixN (iL xs).length (k : Int) = some k := fun xs hx k hk => by
      unfold ixN
      rw [List.length_map, if_pos (by omega), if_pos (by omega), Int.toNat_natCast]
    dsimp only [tNext, gName, tSeq, tAsg]
    refine ⟨_, rfl, _, rfl, Hd, _, _, _, rfl, rfl, SqL.of (s1 _ _ hH), atb, _, rfl, _, rfl, Hd, _, _, _, rfl, rfl, SqL.of (s1 _ _ hH), ata, by show 2 ≤ sizeLine; decide, fun t ht => ?_⟩
    have s12 := Same.put (o := .tup [.int hs[b], .int hs[a]]) ht
    refine ⟨t, _, rfl, SqT.of upd_same, rfl, ?_⟩
    have m2 := s12 _ _ m1
    generalize upd H1 t (.tup [.int hs[b], .int hs[a]]) = H2 at s12 m2 ⊢
    have s2 := s1.trans s12
    refine ⟨_, _, rfl, _, rfl, _, rfl, M, _, _, a, rfl, rfl, m2, ixa hs rfl a ha, ?_⟩
    rw [iL_set]
    have s3 : Same H (upd H2 M (.lst (iL (hs.set a hs[b])))) := Same.write s2 hM
    have m3 : (upd H2 M (.lst (iL (hs.set a hs[b])))) M = some (.lst (iL (hs.set a hs[b]))) := upd_same
    generalize upd H2 M (.lst (iL (hs.set a hs[b]))) = H3 at s3 m3 ⊢
    refine ⟨_, _, rfl, _, rfl, _, rfl, M, _, _, b, rfl, rfl, m3, ixa _ (by rw [List.length_set]) b hb, ?_⟩
    rw [iL_set]
    have s4 : Same H (upd H3 M (.lst (iL ((hs.set a hs[b]).set b hs[a])))) := Same.write s3 hM
    have m4 : (upd H3 M (.lst (iL ((hs.set a hs[b]).set b hs[a])))) M = some (.lst (iL ((hs.set a hs[b]).set b hs[a]))) := upd_same
    generalize upd H3 M (.lst (iL ((hs.set a hs[b]).set b hs[a]))) = H4 at s4 m4 ⊢
    generalize hmd : (hs.set a hs[b]).set b hs[a] = md at m4
    have ml : md.length = hs.length := by rw [← hmd, List.length_set, List.length_set]
    refine ⟨rfl, ?_⟩
    dsimp only [tNext, gName, tSeq, tAsg]
    -- twice
    have ea1 : (a : Int) + 1 = ((a + 1 : Nat) : Int) := by omega
    refine ⟨_, rfl, _, rfl, (a : Int), rfl, Hd, _, rfl, SqL.of (s4 _ _ hH), fun P1 hP1 => ?_⟩
    rw [cutI_take hs (by omega : a ≤ hs.length)]
    have s5 := Same.put (o := .lst (iL (hs.take a))) hP1
    have p1 : (upd H4 P1 (.lst (iL (hs.take a)))) P1 = some (.lst (iL (hs.take a))) := upd_same
    generalize upd H4 P1 (.lst (iL (hs.take a))) = H5 at s5 p1 ⊢
    have s05 := s4.trans s5
    refine ⟨_, rfl, _, rfl, _, _, rfl, rfl, _, rfl, Hd, _, rfl, SqL.of (s05 _ _ hH), fun P2 hP2 => ?_⟩
    rw [ea1, cutI_drop hs (by omega : a + 1 ≤ hs.length)]
    have s6 := Same.put (o := .lst (iL (hs.drop (a + 1)))) hP2
    have p2 : (upd H5 P2 (.lst (iL (hs.drop (a + 1))))) P2 = some (.lst (iL (hs.drop (a + 1)))) := upd_same
    have p1' := s6 _ _ p1
    generalize upd H5 P2 (.lst (iL (hs.drop (a + 1)))) = H6 at s6 p2 p1' ⊢
    have s06 := s05.trans s6
    refine ⟨P1, P2, _, _, rfl, rfl, p1', p2, smalle (by rw [List.length_map, List.length_map, List.length_take, List.length_drop]; omega), fun P3 hP3 => ?_⟩
    rw [iL_app]
    have s7 := Same.put (o := .lst (iL (hs.take a ++ hs.drop (a + 1)))) hP3
    have p3 : (upd H6 P3 (.lst (iL (hs.take a ++ hs.drop (a + 1))))) P3 = some (.lst (iL (hs.take a ++ hs.drop (a + 1)))) := upd_same
    generalize upd H6 P3 (.lst (iL (hs.take a ++ hs.drop (a + 1)))) = H7 at s7 p3 ⊢
    have s07 := s06.trans s7
    refine ⟨_, rfl, _, rfl, Hd, _, _, _, rfl, rfl, SqL.of (s07 _ _ hH), atb, smalle (by show 1 ≤ 1000; decide), fun P4 hP4 => ?_⟩
    have s8 := Same.put (o := .lst [.int hs[b]]) hP4
    have p4 : (upd H7 P4 (.lst [.int hs[b]])) P4 = some (.lst (iL [hs[b]])) := upd_same
    have p3' := s8 _ _ p3
    generalize upd H7 P4 (.lst [.int hs[b]]) = H8 at s8 p4 p3' ⊢
    have s08 := s07.trans s8
    refine ⟨P3, P4, _, _, rfl, rfl, p3', p4, smalle (by rw [List.length_map, List.length_map, List.length_append, List.length_take, List.length_drop]; show _ + 1 ≤ 1000; omega), fun P5 hP5 => ?_⟩
    rw [iL_app]
    have s9 := Same.put (o := .lst (iL (hs.take a ++ hs.drop (a + 1) ++ [hs[b]]))) hP5
    refine ⟨P5, _, rfl, SqL.of upd_same, fun js q hp1 ho hnew => ?_⟩
    have jl : js.length = hs.length := by
      rw [hp1.length_eq, List.length_append, List.length_append, List.length_take, List.length_drop]
      show _ + 1 = _
      omega
    have s09 := s08.trans (s9.trans (Same.put (o := .lst (js.map V.int)) hnew))
    have s49 := s5.trans (s6.trans (s7.trans (s8.trans (s9.trans (Same.put (o := .lst (js.map V.int)) hnew)))))
    have q9 : (upd (upd H8 P5 (.lst (iL (hs.take a ++ hs.drop (a + 1) ++ [hs[b]])))) q (.lst (js.map V.int))) q = some (.lst (iL js)) := upd_same
    generalize upd (upd H8 P5 (.lst (iL (hs.take a ++ hs.drop (a + 1) ++ [hs[b]])))) q (.lst (js.map V.int)) = H9 at s09 s49 q9 ⊢
    have m9 := s49 _ _ m4
    clear s9 hnew hP5
    dsimp only [tNext, gName, tSeq, tAsg]
    -- one of four
    refine ⟨_, rfl, 3, rfl, Hd, _, rfl, SqL.of (s09 _ _ hH), fun P6 hP6 => ?_⟩
    rw [show (3 : Int) = ((3 : Nat) : Int) from rfl, cutI_drop hs l3]
    have s10 := Same.put (o := .lst (iL (hs.drop 3))) hP6
    have p6 : (upd H9 P6 (.lst (iL (hs.drop 3)))) P6 = some (.lst (iL (hs.drop 3))) := upd_same
    have m10 := s10 _ _ m9
    have q10 := s10 _ _ q9
    generalize upd H9 P6 (.lst (iL (hs.drop 3))) = H10 at s10 p6 m10 q10 ⊢
    have s010 := s09.trans s10
    refine ⟨_, rfl, 3, rfl, Hd, _, rfl, SqL.of (s010 _ _ hH), fun P7 hP7 => ?_⟩
    rw [show (3 : Int) = ((3 : Nat) : Int) from rfl, cutI_take hs l3]
    have s11 := Same.put (o := .lst (iL (hs.take 3))) hP7
    have p7 : (upd H10 P7 (.lst (iL (hs.take 3)))) P7 = some (.lst (iL (hs.take 3))) := upd_same
    have p6' := s11 _ _ p6
    have m11 := s11 _ _ m10
    have q11 := s11 _ _ q10
    generalize upd H10 P7 (.lst (iL (hs.take 3))) = H11 at s11 p7 p6' m11 q11 ⊢
    have s011 := s010.trans s11
    refine ⟨P6, P7, _, _, rfl, rfl, p6', p7, smalle (by rw [List.length_map, List.length_map, List.length_take, List.length_drop]; omega), fun P8 hP8 => ?_⟩
    rw [iL_app]
    have s12b := Same.put (o := .lst (iL (hs.drop 3 ++ hs.take 3))) hP8
    have p8 : (upd H11 P8 (.lst (iL (hs.drop 3 ++ hs.take 3)))) P8 = some (.lst (iL (hs.drop 3 ++ hs.take 3))) := upd_same
    have m12 := s12b _ _ m11
    have q12 := s12b _ _ q11
    generalize upd H11 P8 (.lst (iL (hs.drop 3 ++ hs.take 3))) = H12 at s12b p8 m12 q12 ⊢
    have s012 := s011.trans s12b
    refine ⟨_, rfl, _, rfl, _, rfl, Hd, _, rfl, SqL.of (s012 _ _ hH), fun P9 hP9 => ?_⟩
    have s13 := Same.put (o := .lst (iL hs).reverse) hP9
    have p9 : (upd H12 P9 (.lst (iL hs).reverse)) P9 = some (.lst (iL hs.reverse)) := by
      rw [upd_same]
      unfold iL
      rw [List.map_reverse]
    have m13 := s13 _ _ m12
    have q13 := s13 _ _ q12
    have p8' := s13 _ _ p8
    generalize upd H12 P9 (.lst (iL hs).reverse) = H13 at s13 p9 m13 q13 p8' ⊢
    have s013 := s012.trans s13
    refine ⟨smalle (by show 4 ≤ 1000; decide), fun P10 hP10 => ?_⟩
    have s14 := Same.put (o := .lst [.ref P8, .ref M, .ref q, .ref P9]) hP10
    have p10 : (upd H13 P10 (.lst [.ref P8, .ref M, .ref q, .ref P9])) P10 = some (.lst [.ref P8, .ref M, .ref q, .ref P9]) := upd_same
    have m14 := s14 _ _ m13
    have q14 := s14 _ _ q13
    have p8'' := s14 _ _ p8'
    have p9' := s14 _ _ p9
    generalize upd H13 P10 (.lst [.ref P8, .ref M, .ref q, .ref P9]) = H14 at s14 p10 m14 q14 p8'' p9' ⊢
    have s014 := s013.trans s14
    have c0 := Int.emod_nonneg (c / 36) (show (4 : Int) ≠ 0 by decide)
    have c4 := Int.emod_lt_of_pos (c / 36) (show (0 : Int) < 4 by decide)
    refine ⟨_, rfl, _, _, rfl, rfl, ⟨by decide, by decide⟩, _, _, rfl, rfl, by show (0 : Int) < 4; decide, ?_⟩
    have dd : c / 36 % 4 = 0 ∨ c / 36 % 4 = 1 ∨ c / 36 % 4 = 2 ∨ c / 36 % 4 = 3 := by omega
    rcases dd with d4 | d4 | d4 | d4
    · exact ⟨P10, _, _, .ref P8, rfl, rfl, SqL.of p10, by rw [d4]; rfl, k H14 P8 _ s014 p8'' (by rw [List.length_append, List.length_take, List.length_drop]; omega)⟩
    · exact ⟨P10, _, _, .ref M, rfl, rfl, SqL.of p10, by rw [d4]; rfl, k H14 M _ s014 m14 ml⟩
    · exact ⟨P10, _, _, .ref q, rfl, rfl, SqL.of p10, by rw [d4]; rfl, k H14 q _ s014 q14 jl⟩
    · exact ⟨P10, _, _, .ref P9, rfl, rfl, SqL.of p10, by rw [d4]; rfl, k H14 P9 _ s014 p9' (by rw [List.length_reverse])⟩
end
end Fd
namespace Fd
open PySem PySem.Spec PyProof.Rows L2
def rowO (r : List Int) : HO := .lst (iL r)
def toI8 : V → Int
  | .int y => y
  | _ => 0
def spSpH : Sp := fun vs H Q _ => ∃ (Hd : Addr) (c : Int) (m : Nat) (hs : List Int), vs = [.ref Hd, .int c, .int m] ∧ H Hd = some (.lst (iL hs)) ∧ 3 ≤ hs.length ∧ hs.length ≤ 20 ∧
  ∀ (H' : Hp) (D : Addr) (hs' : List Int), Same H H' → H' D = some (.lst (iL hs')) → hs'.length ≤ 21 → Q (.ref D) H'
section
variable {P : Program} {w : World} {K : PySem.W.Frag} {mg : Str → Option Value} {base : Heap} {C : Addr}
abbrev nSpH : List Str := ["_law_heads", "_law_cell", "_law_many", "_law_at", "_law_to", "_law_made", "_law_some", "_law_odd", "_law_one"]
theorem scSpH : FnScope nSpH ["_law_heads", "_law_cell", "_law_many"] (defScope sLawSpoiltHeads) := ⟨rfl, rfl, rfl, by decide +kernel, rfl, by decide +kernel, by decide +kernel⟩
theorem c_spheads (T : WTxt K mg C) (L : L8Txt K mg) : C8.Cal P w K mg base 1 "_law_spoilt_heads" spSpH [] := by
  refine cal_of L.fSpH scSpH (fun vs H Q E h => ?_) (fun f cdv A outer s H vs Q E hr h => ?_)
  · obtain ⟨Hd, c, m, hs, rfl, _⟩ := h
    rfl
  · obtain ⟨Hd, c, m, hs, rfl, hH, l3, l20, k⟩ := h
    refine ⟨_, pss_cons (ps_set (i := 3) scSpH.nd rfl (Or.inr rfl) (pe_op op_mod (pv 1) (pe_callB call_len_seq (by rfl) T.len PySem.boot_len (pa_cons (pv 0) pa_nil))))
      (pss_cons (ps_set (i := 4) scSpH.nd rfl (Or.inl rfl) (pe_op op_mod (pe_op op_fdiv (pv 1) pe_int) (pe_callB call_len_seq (by rfl) T.len PySem.boot_len (pa_cons (pv 0) pa_nil))))
      (pss_cons (ps_set (i := 5) scSpH.nd rfl (Or.inl rfl) (pe_callTy call_list_of (by rfl) T.list (by decide +kernel) (pa_cons (pv 0) pa_nil)))
      (pss_cons (ps_asg (pe_tup (pa_cons (pe_ix ix_list (pv 0) (pv 4) (fun _ _ => rfl)) (pa_cons (pe_ix ix_list (pv 0) (pv 3) (fun _ _ => rfl)) pa_nil)))
          (pg_tup (by rfl) (pgs_cons (pg_sub (pv 5) (pv 3) set_list) (pgs_cons (pg_sub (pv 5) (pv 4) set_list) pgs_nil))))
      (pss_cons (ps_set (i := 6) scSpH.nd rfl (Or.inl rfl) (pe_lst (pa_cons (pe_ix ix_list (pv 0) (pv 4) (fun _ _ => rfl)) (pa_cons (pv 2) (pa_cons (pe_un un_neg pe_int) pa_nil)))))
      (pss_cons (ps_set (i := 7) scSpH.nd rfl (Or.inl rfl) (pe_lst (pa_cons (pv 5) (pa_cons (pe_op op_cat (pe_slice sl_list (pv 0) po_none (po_some (pv 3))) (pe_slice sl_list (pv 0) (po_some (pe_op op_add (pv 3) pe_int)) po_none))
          (pa_cons (pe_op op_cat (pv 0) (pe_lst (pa_cons (pe_ix ix_list (pv 0) pe_int (fun _ _ => rfl)) pa_nil))) (pa_cons (pe_op op_cat (pe_slice sl_list (pv 0) (po_some pe_int) po_none) (pe_slice sl_list (pv 0) po_none (po_some pe_int))) pa_nil))))))
      (pss_cons (ps_set (i := 7) scSpH.nd rfl (Or.inl rfl) (pe_op op_cat (pv 7) (pe_lc (own := [("_law_one", 8)]) (g := gName 8) (tt := tYes)
          (te := tOp rCat (tOp rCat (tSl (rSlL K) (tVar 0) tNoPart (tPart (tVar 3))) (tLst (tCons (tVar 8) tNil))) (tSl (rSlL K) (tVar 0) (tPart (tOp (rI0 fun i j => .int (i + j)) (tVar 3) (tC (.int 1)))) tNoPart)) (by rfl) scSpH.nd (pi_list (pv 6))
          (blkOk_by (own := [("_law_one", 8)]) (N := nSpH) (sc := defScope sLawSpoiltHeads) (by decide +kernel)) (fun _ _ _ _ _ => pg_name (i := 8) scSpH.nd rfl (Or.inl rfl)) (fun _ _ _ _ _ => pts_nil)
          (fun _ _ _ _ _ => pe_op op_cat (pe_op op_cat (pe_slice sl_list (pv 0) po_none (po_some (pv 3))) (pe_lst (pa_cons (pv 8) pa_nil))) (pe_slice sl_list (pv 0) (po_some (pe_op op_add (pv 3) pe_int)) po_none)))))
      (pss_one (ps_ret (pe_ix ix_list (pv 7) (pe_op op_mod (pe_op op_fdiv (pv 1) pe_int) pe_int) (fun _ _ => rfl)))))))))), ?_⟩
    have n0 : (0 : Int) < ((iL hs).length : Int) := by rw [List.length_map]; omega
    obtain ⟨a, ea, ha⟩ : ∃ a : Nat, c % ((iL hs).length : Int) = a ∧ a < hs.length := by
      have h0 := Int.emod_nonneg c (show ((iL hs).length : Int) ≠ 0 by omega)
      have h1 := Int.emod_lt_of_pos c n0
      rw [List.length_map] at h0 h1 ⊢
      exact ⟨(c % (hs.length : Int)).toNat, by omega, by omega⟩
    obtain ⟨b, eb, hb⟩ : ∃ b : Nat, c / 6 % ((iL hs).length : Int) = b ∧ b < hs.length := by
      have h0 := Int.emod_nonneg (c / 6) (show ((iL hs).length : Int) ≠ 0 by omega)
      have h1 := Int.emod_lt_of_pos (c / 6) n0
      rw [List.length_map] at h0 h1 ⊢
      exact ⟨(c / 6 % (hs.length : Int)).toNat, by omega, by omega⟩
    have hq := SqL.of (K := K) hH
    refine ⟨_, rfl, _, rfl, Hd, _, rfl, .inl hq, _, _, rfl, rfl, n0, ?_⟩
    dsimp only [tNext, gName, tSeq, tAsg]
    rw [ea]
    refine ⟨_, rfl, _, _, rfl, rfl, ⟨by decide, by decide⟩, _, rfl, Hd, _, rfl, .inl hq, _, _, rfl, rfl, n0, ?_⟩
    dsimp only [tNext, gName, tSeq, tAsg]
    rw [eb]
    refine ⟨_, rfl, Hd, _, rfl, .inl hq, fun M hM => ?_⟩
    have s1 : Same H (upd H M (.lst (iL hs))) := Same.put hM
    have m1 : (upd H M (.lst (iL hs))) M = some (.lst (iL hs)) := upd_same
    generalize upd H M (.lst (iL hs)) = H1 at s1 m1 ⊢
    have ata : atI (iL hs) (a : Int) = some (.int hs[a]) := atI_nat (iL_get (List.getElem?_eq_getElem ha))
    have atb : atI (iL hs) (b : Int) = some (.int hs[b]) := atI_nat (iL_get (List.getElem?_eq_getElem hb))
    have ixa : ∀ xs : List Int, xs.length = hs.length → ∀ k : Nat, k < hs.length → ixN (iL xs).length (k : Int) = some k := fun xs hx k hk => by
      unfold ixN
      rw [List.length_map, if_pos (by omega), if_pos (by omega), Int.toNat_natCast]
    dsimp only [tNext, gName, tSeq, tAsg]
    refine ⟨_, rfl, _, rfl, Hd, _, _, _, rfl, rfl, SqL.of (s1 _ _ hH), atb, _, rfl, _, rfl, Hd, _, _, _, rfl, rfl, SqL.of (s1 _ _ hH), ata, by show 2 ≤ sizeLine; decide, fun t ht => ?_⟩
    have s12 := Same.put (o := .tup [.int hs[b], .int hs[a]]) ht
    refine ⟨t, _, rfl, SqT.of upd_same, rfl, ?_⟩
    have m2 := s12 _ _ m1
    generalize upd H1 t (.tup [.int hs[b], .int hs[a]]) = H2 at s12 m2 ⊢
    have s2 := s1.trans s12
    refine ⟨_, _, rfl, _, rfl, _, rfl, M, _, _, a, rfl, rfl, m2, ixa hs rfl a ha, ?_⟩
    rw [iL_set]
    have s3 : Same H (upd H2 M (.lst (iL (hs.set a hs[b])))) := Same.write s2 hM
    have m3 : (upd H2 M (.lst (iL (hs.set a hs[b])))) M = some (.lst (iL (hs.set a hs[b]))) := upd_same
    generalize upd H2 M (.lst (iL (hs.set a hs[b]))) = H3 at s3 m3 ⊢
    refine ⟨_, _, rfl, _, rfl, _, rfl, M, _, _, b, rfl, rfl, m3, ixa _ (by rw [List.length_set]) b hb, ?_⟩
    rw [iL_set]
    have s4 : Same H (upd H3 M (.lst (iL ((hs.set a hs[b]).set b hs[a])))) := Same.write s3 hM
    have m4 : (upd H3 M (.lst (iL ((hs.set a hs[b]).set b hs[a])))) M = some (.lst (iL ((hs.set a hs[b]).set b hs[a]))) := upd_same
    generalize upd H3 M (.lst (iL ((hs.set a hs[b]).set b hs[a]))) = H4 at s4 m4 ⊢
    generalize hmd : (hs.set a hs[b]).set b hs[a] = md at m4
    have ml : md.length = hs.length := by rw [← hmd, List.length_set, List.length_set]
    refine ⟨rfl, ?_⟩
    dsimp only [tNext, gName, tSeq, tAsg]
    -- some
    refine ⟨_, rfl, _, rfl, Hd, _, _, _, rfl, rfl, SqL.of (s4 _ _ hH), atb, _, rfl, 1, rfl, smalle (by show 3 ≤ 1000; decide), fun S hS => ?_⟩
    have s5 := Same.put (o := .lst [.int hs[b], .int m, .int (-1)]) hS
    have f5 : (upd H4 S (.lst [.int hs[b], .int m, .int (-1)])) S = some (.lst (iL [hs[b], (m : Int), -1])) := upd_same
    generalize upd H4 S (.lst [.int hs[b], .int m, .int (-1)]) = H5 at s5 f5 ⊢
    have s05 := s4.trans s5
    have m5 := s5 _ _ m4
    dsimp only [tNext, gName, tSeq, tAsg]
    -- odd
    have ea1 : (a : Int) + 1 = ((a + 1 : Nat) : Int) := by omega
    refine ⟨_, rfl, _, rfl, _, rfl, (a : Int), rfl, Hd, _, rfl, SqL.of (s05 _ _ hH), fun P1 hP1 => ?_⟩
    rw [cutI_take hs (by omega : a ≤ hs.length)]
    have s6 := Same.put (o := .lst (iL (hs.take a))) hP1
    have p1 : (upd H5 P1 (.lst (iL (hs.take a)))) P1 = some (.lst (iL (hs.take a))) := upd_same
    generalize upd H5 P1 (.lst (iL (hs.take a))) = H6 at s6 p1 ⊢
    have s06 := s05.trans s6
    refine ⟨_, rfl, _, rfl, _, _, rfl, rfl, _, rfl, Hd, _, rfl, SqL.of (s06 _ _ hH), fun P2 hP2 => ?_⟩
    rw [ea1, cutI_drop hs (by omega : a + 1 ≤ hs.length)]
    have s7 := Same.put (o := .lst (iL (hs.drop (a + 1)))) hP2
    have p2 : (upd H6 P2 (.lst (iL (hs.drop (a + 1))))) P2 = some (.lst (iL (hs.drop (a + 1)))) := upd_same
    have p1' := s7 _ _ p1
    generalize upd H6 P2 (.lst (iL (hs.drop (a + 1)))) = H7 at s7 p2 p1' ⊢
    have s07 := s06.trans s7
    refine ⟨P1, P2, _, _, rfl, rfl, p1', p2, smalle (by rw [List.length_map, List.length_map, List.length_take, List.length_drop]; omega), fun P3 hP3 => ?_⟩
    rw [iL_app]
    have s8 := Same.put (o := .lst (iL (hs.take a ++ hs.drop (a + 1)))) hP3
    have p3 : (upd H7 P3 (.lst (iL (hs.take a ++ hs.drop (a + 1))))) P3 = some (.lst (iL (hs.take a ++ hs.drop (a + 1)))) := upd_same
    generalize upd H7 P3 (.lst (iL (hs.take a ++ hs.drop (a + 1)))) = H8 at s8 p3 ⊢
    have s08 := s07.trans s8
    refine ⟨_, rfl, _, rfl, Hd, _, 0, _, rfl, rfl, SqL.of (s08 _ _ hH), atI_first (by omega), smalle (by show 1 ≤ 1000; decide), fun Q1 hQ1 => ?_⟩
    have s9 := Same.put (o := .lst [.int (hs.getD 0 0)]) hQ1
    have q1 : (upd H8 Q1 (.lst [.int (hs.getD 0 0)])) Q1 = some (.lst (iL [hs.getD 0 0])) := upd_same
    generalize upd H8 Q1 (.lst [.int (hs.getD 0 0)]) = H9 at s9 q1 ⊢
    have s09 := s08.trans s9
    refine ⟨Hd, Q1, _, _, rfl, rfl, s09 _ _ hH, q1, smalle (by rw [List.length_map, List.length_map]; show _ + 1 ≤ 1000; omega), fun Q2 hQ2 => ?_⟩
    rw [iL_app]
    have s10 := Same.put (o := .lst (iL (hs ++ [hs.getD 0 0]))) hQ2
    have q2 : (upd H9 Q2 (.lst (iL (hs ++ [hs.getD 0 0])))) Q2 = some (.lst (iL (hs ++ [hs.getD 0 0]))) := upd_same
    generalize upd H9 Q2 (.lst (iL (hs ++ [hs.getD 0 0]))) = H10 at s10 q2 ⊢
    have s010 := s09.trans s10
    refine ⟨_, rfl, 3, rfl, Hd, _, rfl, SqL.of (s010 _ _ hH), fun P6 hP6 => ?_⟩
    rw [show (3 : Int) = ((3 : Nat) : Int) from rfl, cutI_drop hs l3]
    have s11 := Same.put (o := .lst (iL (hs.drop 3))) hP6
    have p6 : (upd H10 P6 (.lst (iL (hs.drop 3)))) P6 = some (.lst (iL (hs.drop 3))) := upd_same
    generalize upd H10 P6 (.lst (iL (hs.drop 3))) = H11 at s11 p6 ⊢
    have s011 := s010.trans s11
    refine ⟨_, rfl, 3, rfl, Hd, _, rfl, SqL.of (s011 _ _ hH), fun P7 hP7 => ?_⟩
    rw [show (3 : Int) = ((3 : Nat) : Int) from rfl, cutI_take hs l3]
    have s12' := Same.put (o := .lst (iL (hs.take 3))) hP7
    have p7 : (upd H11 P7 (.lst (iL (hs.take 3)))) P7 = some (.lst (iL (hs.take 3))) := upd_same
    have p6' := s12' _ _ p6
    generalize upd H11 P7 (.lst (iL (hs.take 3))) = H12 at s12' p7 p6' ⊢
    have s012 := s011.trans s12'
    refine ⟨P6, P7, _, _, rfl, rfl, p6', p7, smalle (by rw [List.length_map, List.length_map, List.length_take, List.length_drop]; omega), fun P8 hP8 => ?_⟩
    rw [iL_app]
    have s13 := Same.put (o := .lst (iL (hs.drop 3 ++ hs.take 3))) hP8
    have p8 : (upd H12 P8 (.lst (iL (hs.drop 3 ++ hs.take 3)))) P8 = some (.lst (iL (hs.drop 3 ++ hs.take 3))) := upd_same
    generalize upd H12 P8 (.lst (iL (hs.drop 3 ++ hs.take 3))) = H13 at s13 p8 ⊢
    have s013 := s012.trans s13
    refine ⟨smalle (by show 4 ≤ 1000; decide), fun O1 hO1 => ?_⟩
    have s14 := Same.put (o := .lst [.ref M, .ref P3, .ref Q2, .ref P8]) hO1
    have o1 : (upd H13 O1 (.lst [.ref M, .ref P3, .ref Q2, .ref P8])) O1 = some (.lst [.ref M, .ref P3, .ref Q2, .ref P8]) := upd_same
    have s1314 := s13.trans s14
    have s1014 := s11.trans (s12'.trans s1314)
    have s814 := s9.trans (s10.trans s1014)
    have s514 := s6.trans (s7.trans (s8.trans s814))
    have m14 := s514 _ _ m5
    have f14 := s514 _ _ f5
    have p3' := s814 _ _ p3
    have q2' := s1014 _ _ q2
    have p8' := s14 _ _ p8
    have s014 := s013.trans s14
    generalize upd H13 O1 (.lst [.ref M, .ref P3, .ref Q2, .ref P8]) = H14 at o1 m14 f14 p3' q2' p8' s014 ⊢
    clear s514 s814 s1014 s1314 s14 hO1
    dsimp only [tNext, gName, tSeq, tAsg]
    -- and one by one
    refine ⟨_, rfl, ?_⟩
    refine lc_at (K := K) (o := rowO) (p := fun _ => true) (f := fun x => hs.take a ++ [toI8 x] ++ hs.drop (a + 1)) rfl (Nat.lt_of_lt_of_eq (by decide : 8 < 9) rfl) (SqL.of f14) (by show 3 ≤ 900; decide) (fun H1 x Q' _ _ k => yes_ (by exact k H1 (Same.refl H1))) (fun H15 x Q' hx _ s15 q => ?_) (fun H15 D bs s15 hD d15 c15 => ?_)
    · obtain ⟨y, _, rfl⟩ := List.mem_map.mp hx
      have t0 := s014.trans s15
      refine ⟨_, rfl, _, rfl, (a : Int), rfl, Hd, _, rfl, SqL.of (t0 _ _ hH), fun R1 hR1 => ?_⟩
      rw [cutI_take hs (by omega : a ≤ hs.length)]
      have u1 := Same.put (o := .lst (iL (hs.take a))) hR1
      have r1 : (upd H15 R1 (.lst (iL (hs.take a)))) R1 = some (.lst (iL (hs.take a))) := upd_same
      generalize upd H15 R1 (.lst (iL (hs.take a))) = G1 at u1 r1 ⊢
      refine ⟨_, rfl, smalle (by show 1 ≤ 1000; decide), fun R2 hR2 => ?_⟩
      have u2 := Same.put (o := .lst [.int y]) hR2
      have r2 : (upd G1 R2 (.lst [.int y])) R2 = some (.lst (iL [y])) := upd_same
      have r1' := u2 _ _ r1
      generalize upd G1 R2 (.lst [.int y]) = G2 at u2 r2 r1' ⊢
      refine ⟨R1, R2, _, _, rfl, rfl, r1', r2, smalle (by rw [List.length_map, List.length_map, List.length_take]; show _ + 1 ≤ 1000; omega), fun R3 hR3 => ?_⟩
      rw [iL_app]
      have u3 := Same.put (o := .lst (iL (hs.take a ++ [y]))) hR3
      have r3 : (upd G2 R3 (.lst (iL (hs.take a ++ [y])))) R3 = some (.lst (iL (hs.take a ++ [y]))) := upd_same
      generalize upd G2 R3 (.lst (iL (hs.take a ++ [y]))) = G3 at u3 r3 ⊢
      have u03 := u1.trans (u2.trans u3)
      refine ⟨_, rfl, _, rfl, _, _, rfl, rfl, _, rfl, Hd, _, rfl, SqL.of (u03 _ _ (t0 _ _ hH)), fun R4 hR4 => ?_⟩
      rw [ea1, cutI_drop hs (by omega : a + 1 ≤ hs.length)]
      have u4 := Same.put (o := .lst (iL (hs.drop (a + 1)))) hR4
      have r4 : (upd G3 R4 (.lst (iL (hs.drop (a + 1))))) R4 = some (.lst (iL (hs.drop (a + 1)))) := upd_same
      have r3' := u4 _ _ r3
      generalize upd G3 R4 (.lst (iL (hs.drop (a + 1)))) = G4 at u4 r4 r3' ⊢
      have u04 := u03.trans u4
      refine ⟨R3, R4, _, _, rfl, rfl, r3', r4, smalle (by rw [List.length_map, List.length_map, List.length_append, List.length_take, List.length_drop]; show (_ + 1) + _ ≤ 1000; omega), fun R5 hR5 => ?_⟩
      rw [iL_app]
      exact q _ R5 (u04.trans (Same.put hR5)) upd_same (.inl (u04.free hR5))
    · have o15 := s15 _ _ o1
      have bl := c15.length
      have b3 : bs.length = 3 := bl
      refine ⟨O1, D, _, _, rfl, rfl, o15, d15, smalle (by rw [List.length_map, b3]; show 4 + 3 ≤ 1000; decide), fun O2 hO2 => ?_⟩
      have s16 := Same.put (o := .lst ([.ref M, .ref P3, .ref Q2, .ref P8] ++ bs.map V.ref)) hO2
      have o2 : (upd H15 O2 (.lst ([.ref M, .ref P3, .ref Q2, .ref P8] ++ bs.map V.ref))) O2 = some (.lst ([.ref M, .ref P3, .ref Q2, .ref P8] ++ bs.map V.ref)) := upd_same
      have c16 := c15.same s16
      have s1516 := s15.trans s16
      generalize upd H15 O2 (.lst ([.ref M, .ref P3, .ref Q2, .ref P8] ++ bs.map V.ref)) = H16 at s1516 o2 c16 ⊢
      have s016 := s014.trans s1516
      have c0 := Int.emod_nonneg (c / 36) (show (7 : Int) ≠ 0 by decide)
      have c7 := Int.emod_lt_of_pos (c / 36) (show (0 : Int) < 7 by decide)
      dsimp only [tNext, gName, tSeq, tAsg]
      refine ⟨_, rfl, _, rfl, _, _, rfl, rfl, ⟨by decide, by decide⟩, _, _, rfl, rfl, by show (0 : Int) < 7; decide, ?_⟩
      match bs, b3, c16, o2 with
      | [b0, b1, b2], _, .cons k0 (.cons k1 (.cons k2 _)), o2 =>
        have ll : ∀ y : Int, (hs.take a ++ [y] ++ hs.drop (a + 1)).length ≤ 21 := fun y => by
          rw [List.length_append, List.length_append, List.length_take, List.length_drop]
          show (_ + 1) + _ ≤ 21
          omega
        have dd : c / 36 % 7 = 0 ∨ c / 36 % 7 = 1 ∨ c / 36 % 7 = 2 ∨ c / 36 % 7 = 3 ∨ c / 36 % 7 = 4 ∨ c / 36 % 7 = 5 ∨ c / 36 % 7 = 6 := by omega
        rcases dd with d4 | d4 | d4 | d4 | d4 | d4 | d4
        · exact ⟨O2, _, _, .ref M, rfl, rfl, SqL.of o2, by rw [d4]; rfl, k H16 M _ s016 (s1516 _ _ m14) (by omega)⟩
        · exact ⟨O2, _, _, .ref P3, rfl, rfl, SqL.of o2, by rw [d4]; rfl, k H16 P3 _ s016 (s1516 _ _ p3') (by rw [List.length_append, List.length_take, List.length_drop]; omega)⟩
        · exact ⟨O2, _, _, .ref Q2, rfl, rfl, SqL.of o2, by rw [d4]; rfl, k H16 Q2 _ s016 (s1516 _ _ q2') (by rw [List.length_append]; show _ + 1 ≤ 21; omega)⟩
        · exact ⟨O2, _, _, .ref P8, rfl, rfl, SqL.of o2, by rw [d4]; rfl, k H16 P8 _ s016 (s1516 _ _ p8') (by rw [List.length_append, List.length_take, List.length_drop]; omega)⟩
        · exact ⟨O2, _, _, .ref b0, rfl, rfl, SqL.of o2, by rw [d4]; rfl, k H16 b0 _ s016 k0 (ll _)⟩
        · exact ⟨O2, _, _, .ref b1, rfl, rfl, SqL.of o2, by rw [d4]; rfl, k H16 b1 _ s016 k1 (ll _)⟩
        · exact ⟨O2, _, _, .ref b2, rfl, rfl, SqL.of o2, by rw [d4]; rfl, k H16 b2 _ s016 k2 (ll _)⟩
end
end Fd
namespace Fd
open PySem PySem.Spec PyProof.Rows L2
/-! ### the ties of a knot's rows -/
structure G8 (m : Nat) (ts : List Tie) : Prop where
  rng : ∀ t ∈ ts, 0 ≤ t.1 ∧ t.1 < t.2 ∧ t.2 < m
  nd : ts.Nodup
theorem G8.good {m : Nat} {ts : List Tie} (g : G8 m ts) : Good m ts := by
  refine ⟨fun t h => ?_, g.nd.imp_of_mem fun {a b} ha hb h => ⟨h, fun e => ?_⟩⟩
  · have := g.rng t h
    omega
  · have h1 := g.rng a ha
    have h2 := g.rng b hb
    rw [e] at h1
    dsimp only at h1
    omega
theorem G8.norm {m : Nat} {ts : List Tie} (g : G8 m ts) : NormT ts := fun t h => (g.rng t h).2.1
theorem norm_rng {m : Nat} {t : Tie} (h : 0 ≤ t.1 ∧ t.1 < m ∧ 0 ≤ t.2 ∧ t.2 < m ∧ t.1 ≠ t.2) : 0 ≤ (norm t).1 ∧ (norm t).1 < (norm t).2 ∧ (norm t).2 < m := by
  unfold norm
  dsimp only
  omega
theorem norm_pts {t : Tie} : ((norm t).1 = t.1 ∧ (norm t).2 = t.2) ∨ ((norm t).1 = t.2 ∧ (norm t).2 = t.1) := by
  rcases norm_cases t with e | e
  · rw [e]; exact .inl ⟨rfl, rfl⟩
  · rw [e]; exact .inr ⟨rfl, rfl⟩
theorem Good.g8 {m : Nat} {ts : List Tie} (g : Good m ts) : G8 m (ts.map norm) := by
  refine ⟨fun t h => ?_, norm_nodup g⟩
  obtain ⟨u, hu, rfl⟩ := List.mem_map.mp h
  exact norm_rng (g.rng u hu)
theorem G8.sub {m : Nat} {ts us : List Tie} (g : G8 m ts) (h : us.Sublist ts) : G8 m us := ⟨fun t ht => g.rng t (h.subset ht), g.nd.sublist h⟩
theorem G8.snoc {m : Nat} {ts : List Tie} {t : Tie} (g : G8 m ts) (h : 0 ≤ t.1 ∧ t.1 < t.2 ∧ t.2 < m) (n : t ∉ ts) : G8 m (ts ++ [t]) := by
  refine ⟨fun u hu => ?_, List.nodup_append.mpr ⟨g.nd, by simp, fun a ha b hb e => ?_⟩⟩
  · rcases List.mem_append.mp hu with hu | hu
    · exact g.rng u hu
    · rw [List.mem_singleton.mp hu]; exact h
  · rw [List.mem_singleton.mp hb] at e
    exact n (e ▸ ha)
theorem G8.app {m : Nat} {ts us : List Tie} (g : G8 m ts) (h : G8 m us) (n : ∀ u ∈ us, u ∉ ts) : G8 m (ts ++ us) := by
  refine ⟨fun u hu => ?_, List.nodup_append.mpr ⟨g.nd, h.nd, fun a ha b hb e => n b hb (e ▸ ha)⟩⟩
  rcases List.mem_append.mp hu with hu | hu
  · exact g.rng u hu
  · exact h.rng u hu
theorem set_split {α : Type} {l : List α} {j : Nat} (h : j < l.length) (a : α) : l.set j a = l.take j ++ (a :: l.drop (j + 1)) := by
  rw [List.set_eq_take_append_cons_drop, if_pos h]
theorem at_split {α : Type} {l : List α} {j : Nat} {a : α} (h : l[j]? = some a) : l = l.take j ++ (a :: l.drop (j + 1)) := by
  obtain ⟨hl, e⟩ := List.getElem?_eq_some_iff.mp h
  have z := List.getElem_cons_drop (as := l) (i := j) hl
  rw [e] at z
  rw [z, List.take_append_drop]
theorem tiesL8_app (xs ys : List (List Int)) : tiesL8 (xs ++ ys) = tiesL8 xs ++ tiesL8 ys := by
  unfold tiesL8
  rw [List.flatMap_append]
theorem tiesL8_cons (r : List Int) (ys : List (List Int)) : tiesL8 (r :: ys) = (steps2 r).map norm ++ tiesL8 ys := by
  unfold tiesL8
  rw [List.flatMap_cons]
theorem steps2_cons (x y : Int) (r : List Int) : steps2 (x :: y :: r) = (x, y) :: steps2 (y :: r) := rfl
theorem tie_pts {rss : List (List Int)} {t : Tie} (h : t ∈ tiesL8 rss) : ∃ r ∈ rss, t.1 ∈ r ∧ t.2 ∈ r := by
  unfold tiesL8 at h
  obtain ⟨r, hr, h⟩ := List.mem_flatMap.mp h
  obtain ⟨s, hs, rfl⟩ := List.mem_map.mp h
  have z := steps2_mem (x := s.1) (y := s.2) hs
  refine ⟨r, hr, ?_⟩
  rcases norm_pts (t := s) with e | e
  · rw [e.1, e.2]; exact z
  · rw [e.1, e.2]; exact z.symm
/-- a point put into a row, behind its first -/
def putIn (r : List Int) (p : Int) : List Int := r.take 1 ++ [p] ++ r.drop 1
/-- all that the going keeps: which points there are yet -/
structure KInv (m n q : Nat) (us : List Int) (rss : List (List Int)) : Prop where
  len : rss.length = n
  row : ∀ r ∈ rss, 2 ≤ r.length ∧ r.length ≤ 2 + q
  sub : ∀ r ∈ rss, ∀ x ∈ r, x ∈ us
  g : G8 m (tiesL8 rss)
  few : (tiesL8 rss).length = n + q
theorem KInv.put {m n q : Nat} {us : List Int} {rss : List (List Int)} {j : Nat} {r : List Int} {p : Int} (k : KInv m n q us rss) (hr : rss[j]? = some r) (hp : 0 ≤ p ∧ p < m) (n1 : p ∉ us) : KInv m n (q + 1) (us ++ [p]) (rss.set j (putIn r p)) := by
  have hj := (List.getElem?_eq_some_iff.mp hr).1
  have hm := List.mem_of_getElem? hr
  have r2 := k.row r hm
  match r, r2.1, hr, hm, r2 with
  | a :: x :: rest, _, hr, hm, r2 =>
    have e0 : putIn (a :: x :: rest) p = a :: p :: x :: rest := rfl
    rw [e0]
    have es := at_split hr
    have e1 : tiesL8 rss = tiesL8 (rss.take j) ++ (norm (a, x) :: ((steps2 (x :: rest)).map norm ++ tiesL8 (rss.drop (j + 1)))) := by
      have z : tiesL8 rss = tiesL8 (rss.take j ++ ((a :: x :: rest) :: rss.drop (j + 1))) := by rw [← es]
      rw [z, tiesL8_app, tiesL8_cons, steps2_cons]
      rfl
    have e2 : tiesL8 (rss.set j (a :: p :: x :: rest)) = tiesL8 (rss.take j) ++ (norm (a, p) :: norm (p, x) :: ((steps2 (x :: rest)).map norm ++ tiesL8 (rss.drop (j + 1)))) := by
      rw [set_split hj, tiesL8_app, tiesL8_cons, steps2_cons, steps2_cons]
      rfl
    have au : a ∈ us := k.sub _ hm a (by simp)
    have xu : x ∈ us := k.sub _ hm x (by simp)
    have pa : a ≠ p := fun e => n1 (e ▸ au)
    have px : p ≠ x := fun e => n1 (e ▸ xu)
    have old : norm (a, x) ∈ tiesL8 rss := by rw [e1]; simp
    have oldr := k.g.rng _ old
    have q1 := norm_pts (t := (a, x))
    dsimp only at q1
    have ra : 0 ≤ a ∧ a < m ∧ 0 ≤ x ∧ x < m ∧ a ≠ x := by omega
    have g1 := k.g
    rw [e1] at g1
    have perm : (tiesL8 (rss.take j) ++ (norm (a, p) :: norm (p, x) :: ((steps2 (x :: rest)).map norm ++ tiesL8 (rss.drop (j + 1))))).Perm ((norm (a, p) :: norm (p, x) :: (tiesL8 (rss.take j) ++ ((steps2 (x :: rest)).map norm ++ tiesL8 (rss.drop (j + 1)))))) :=
      List.perm_middle.trans (List.Perm.cons _ List.perm_middle)
    have sub : (tiesL8 (rss.take j) ++ ((steps2 (x :: rest)).map norm ++ tiesL8 (rss.drop (j + 1)))).Sublist (tiesL8 (rss.take j) ++ (norm (a, x) :: ((steps2 (x :: rest)).map norm ++ tiesL8 (rss.drop (j + 1))))) := (List.Sublist.refl _).append (List.sublist_cons_self _ _)
    have g2 := g1.sub sub
    have apart : ∀ t ∈ tiesL8 (rss.take j) ++ ((steps2 (x :: rest)).map norm ++ tiesL8 (rss.drop (j + 1))), t.1 ≠ p ∧ t.2 ≠ p := fun t ht => by
      have z := sub.subset ht
      rw [← e1] at z
      obtain ⟨r', hr', z1, z2⟩ := tie_pts z
      exact ⟨fun e => n1 (e ▸ k.sub r' hr' _ z1), fun e => n1 (e ▸ k.sub r' hr' _ z2)⟩
    have q2 := norm_pts (t := (a, p))
    have q3 := norm_pts (t := (p, x))
    dsimp only at q2 q3
    have w2 := norm_rng (m := m) (t := (a, p)) (by dsimp only; omega)
    have w3 := norm_rng (m := m) (t := (p, x)) (by dsimp only; omega)
    refine ⟨by rw [List.length_set]; exact k.len, fun r' hr' => ?_, fun r' hr' y hy => ?_, ⟨fun t ht => ?_, ?_⟩, ?_⟩
    · rcases List.mem_or_eq_of_mem_set hr' with z | z
      · have := k.row r' z
        omega
      · rw [z]
        simp only [List.length_cons] at r2 ⊢
        omega
    · rcases List.mem_or_eq_of_mem_set hr' with z | z
      · exact List.mem_append_left _ (k.sub r' z y hy)
      · rw [z] at hy
        rcases List.mem_cons.mp hy with c | c
        · rw [c]; exact List.mem_append_left _ au
        · rcases List.mem_cons.mp c with c | c
          · rw [c]; simp
          · exact List.mem_append_left _ (k.sub _ hm y (List.mem_cons_of_mem _ c))
    · rw [e2, perm.mem_iff] at ht
      rcases List.mem_cons.mp ht with c | c
      · rw [c]; exact w2
      · rcases List.mem_cons.mp c with c | c
        · rw [c]; exact w3
        · exact g2.rng t c
    · rw [e2, perm.nodup_iff, List.nodup_cons, List.nodup_cons]
      refine ⟨fun h => ?_, fun h => ?_, g2.nd⟩
      · rcases List.mem_cons.mp h with c | c
        · have e3 : (norm (a, p)).1 = (norm (p, x)).1 := by rw [c]
          have e4 : (norm (a, p)).2 = (norm (p, x)).2 := by rw [c]
          omega
        · have z := apart _ c
          omega
      · have z := apart _ h
        omega
    · have e5 := k.few
      rw [e1] at e5
      rw [e2]
      simp only [List.length_append, List.length_cons] at e5 ⊢
      omega
theorem pairs_good {m : Nat} {kd : Str} {hs : List Int} (h : (kd = "five" ∧ hs.length = 5) ∨ (kd ≠ "five" ∧ hs.length = 6)) (nd : hs.Nodup) (r : ∀ x ∈ hs, 0 ≤ x ∧ x < m) : Good m (pairsL kd hs) := by
  unfold pairsL
  rcases h with ⟨c, l⟩ | ⟨c, l⟩
  · rw [if_pos c]
    match hs, l with
    | [x0, x1, x2, x3, x4], _ =>
      simp only [List.nodup_cons, List.mem_cons, List.not_mem_nil, or_false, not_or, List.nodup_nil, and_true, not_false_eq_true] at nd
      simp only [List.mem_cons, List.not_mem_nil, or_false, forall_eq_or_imp, forall_eq] at r
      obtain ⟨⟨n1, n2, n3, n4⟩, ⟨n5, n6, n7⟩, ⟨n8, n9⟩, n10⟩ := nd
      obtain ⟨r0, r1, r2, r3, r4⟩ := r
      refine ⟨fun t ht => ?_, ?_⟩
      · simp only [cbL, List.map_cons, List.map_nil, List.mem_cons, List.not_mem_nil, or_false] at ht
        rcases ht with rfl | rfl | rfl | rfl | rfl | rfl | rfl | rfl | rfl | rfl <;> simp <;> omega
      · simp only [cbL, List.map_cons, List.map_nil, List.pairwise_cons, List.mem_cons, List.not_mem_nil, or_false, forall_eq_or_imp, forall_eq, List.Pairwise.nil, and_true, false_imp_iff, implies_true, ne_eq, Prod.mk.injEq]
        simp
        grind
  · rw [if_neg c]
    match hs, l with
    | [x0, x1, x2, x3, x4, x5], _ =>
      simp only [List.nodup_cons, List.mem_cons, List.not_mem_nil, or_false, not_or, List.nodup_nil, and_true, not_false_eq_true] at nd
      simp only [List.mem_cons, List.not_mem_nil, or_false, forall_eq_or_imp, forall_eq] at r
      obtain ⟨⟨n1, n2, n3, n4, n5⟩, ⟨n6, n7, n8, n9⟩, ⟨n10, n11, n12⟩, ⟨n13, n14⟩, n15⟩ := nd
      obtain ⟨r0, r1, r2, r3, r4, r5⟩ := r
      refine ⟨fun t ht => ?_, ?_⟩
      · simp at ht
        rcases ht with rfl | rfl | rfl | rfl | rfl | rfl | rfl | rfl | rfl <;> simp <;> omega
      · simp
        grind
theorem pairsL_len2 {kd : Str} {hs : List Int} (h : (kd = "five" ∧ hs.length = 5) ∨ (kd ≠ "five" ∧ hs.length = 6)) : 9 ≤ (pairsL kd hs).length ∧ (pairsL kd hs).length ≤ 10 := by
  unfold pairsL
  rcases h with ⟨c, l⟩ | ⟨c, l⟩
  · rw [if_pos c, List.length_map]
    decide
  · rw [if_neg c]
    match hs, l with
    | [x0, x1, x2, x3, x4, x5], _ => simp
theorem pairs_in {kd : Str} {hs : List Int} (h : (kd = "five" ∧ hs.length = 5) ∨ (kd ≠ "five" ∧ hs.length = 6)) {t : Tie} (ht : t ∈ pairsL kd hs) : t.1 ∈ hs ∧ t.2 ∈ hs := by
  have hm := heads_mem h
  have z : ∀ p, p = t.1 ∨ p = t.2 → p ∈ headsL8 (pairsL kd hs) := fun p e => List.mem_flatMap.mpr ⟨t, ht, by simp [e]⟩
  exact ⟨(hm _).mp (z _ (.inl rfl)), (hm _).mp (z _ (.inr rfl))⟩
theorem KInv.start {m : Nat} {kd : Str} {hs : List Int} (h : (kd = "five" ∧ hs.length = 5) ∨ (kd ≠ "five" ∧ hs.length = 6)) (nd : hs.Nodup) (r : ∀ x ∈ hs, 0 ≤ x ∧ x < m) :
    KInv m (pairsL kd hs).length 0 hs ((pairsL kd hs).map fun e => [e.1, e.2]) := by
  have e : tiesL8 ((pairsL kd hs).map fun e => [e.1, e.2]) = (pairsL kd hs).map norm := by
    unfold tiesL8
    rw [List.flatMap_map]
    induction pairsL kd hs with
    | nil => rfl
    | cons a l ih =>
      rw [List.flatMap_cons, ih]
      rfl
  refine ⟨by rw [List.length_map], fun r' hr' => ?_, fun r' hr' x hx => ?_, by rw [e]; exact (pairs_good h nd r).g8, by rw [e, List.length_map]; rfl⟩
  · obtain ⟨t, _, rfl⟩ := List.mem_map.mp hr'
    exact ⟨Nat.le_refl _, Nat.le_refl _⟩
  · obtain ⟨t, ht, rfl⟩ := List.mem_map.mp hr'
    have z := pairs_in h ht
    rcases List.mem_cons.mp hx with c | c
    · rw [c]; exact z.1
    · rw [List.mem_singleton.mp c]; exact z.2
theorem KInv.more {m n q : Nat} {us vs : List Int} {rss : List (List Int)} (k : KInv m n q us rss) (h : ∀ x ∈ us, x ∈ vs) : KInv m n q vs rss := ⟨k.len, k.row, fun r hr x hx => h x (k.sub r hr x hx), k.g, k.few⟩
end Fd
namespace Fd
open PySem PySem.Spec PyProof.Rows L2
/-- a comprehension over a list told by an expression, values, some left out -/
theorem lcfv_W {K : PySem.W.Frag} {H : Hp} {σ : L2.St} {j : Nat} {R : Addr} {xs : List V} {tt : TT} {te : TE} {f : V → V} {p : V → Bool} {D : Addr} {Qd : Hp → Prop} (hj : j < σ.length) (hR : SqL K H R xs) (hD : H D = none) (len : xs.length ≤ 900)
    (hp : ∀ (H1 : Hp) (x : V) (Q' : Bool → Hp → Prop), x ∈ xs → Same H H1 → (∀ H2, Same H1 H2 → Q' (p x) H2) → tt ((wipe σ [j]).set j (some x)) H1 Q')
    (ht : ∀ (H1 : Hp) (x : V) (Q' : VK), x ∈ xs → p x = true → Same H H1 → (∀ H2, Same H1 H2 → Q' (f x) H2) → te ((wipe σ [j]).set j (some x)) H1 Q')
    (k : ∀ (H' : Hp), Same H H' → H' D = some (.lst ((xs.filter p).map f)) → Qd H') :
    ∃ W : Nat → Nat → Hp → Prop, (∃ m, W 0 m (upd H D (.lst []))) ∧ ∀ i m H, W i m H →
      ((Itl K R).stop i H ∧ Qd H) ∨ ((Itl K R).go i H ∧ ∃ Nx : Hp → Prop, (∀ H', Nx H' → ∃ m', m' < m ∧ W (i + 1) m' H') ∧ ∀ x H', (Itl K R).yld i H x H' → (gName j) x (wipe σ [j]) H' fun σ2 H2 => wipe σ2 [j] = wipe σ [j] ∧ tt σ2 H2 fun c H3 =>
        if c = true then te σ2 H3 fun y H4 => ∃ acc, H4 D = some (.lst acc) ∧ acc.length < sizeLine ∧ Nx (upd H4 D (.lst (acc ++ [y]))) else Nx H3) := by
  refine lc_list (K := K) (a := R) (xs := xs) (fun q H1 => Same H H1 ∧ H1 D = some (.lst (((xs.take q).filter p).map f))) ⟨Same.put hD, by rw [upd_same]; rfl⟩ (fun q H1 _ ⟨s1, _⟩ => s1.seq hR) (fun q x H1 hq ⟨s1, d1⟩ => ?_) (fun H1 ⟨s1, d1⟩ => ?_)
  · have hm := List.mem_of_getElem? hq
    have hl : ((xs.take q).filter p).length ≤ 900 := by
      have := List.length_filter_le p (xs.take q)
      rw [List.length_take] at this
      omega
    refine ⟨by simp [wipe], ?_⟩
    refine hp H1 x _ hm s1 fun H2 s2 => ?_
    by_cases c : p x = true
    · rw [if_pos c]
      refine ht H2 x _ hm c (s1.trans s2) fun H3 s3 => ?_
      have s13 := s2.trans s3
      refine ⟨_, s13 _ _ d1, by rw [List.length_map]; exact small (by omega), Same.write (s1.trans s13) hD, ?_⟩
      rw [upd_same, take_next hq, List.filter_append, List.map_append, List.filter_cons_of_pos c, List.filter_nil]
      rfl
    · have c' := Bool.eq_false_iff.mpr c
      rw [if_neg (by rw [c']; decide)]
      refine ⟨s1.trans s2, ?_⟩
      rw [take_next hq, List.filter_append, List.filter_cons_of_neg (by rw [c']; decide), List.filter_nil, List.append_nil]
      exact s2 _ _ d1
  · rw [List.take_length] at d1
    exact k H1 s1 d1
def rListOf (K : PySem.W.Frag) : List V → Hp → VK → Prop := fun xs H Q => ∃ p ys, xs = [V.ref p] ∧ (SqL K H p ys ∨ SqT K H p ys) ∧ ∀ l, H l = none → Q (.ref l) (upd H l (.lst ys))
/-- [list(e) for e in ..], each a new list -/
theorem lctups_W {K : PySem.W.Frag} {H : Hp} {σ : L2.St} {j : Nat} {R : Addr} {bs : List Addr} {ts : List Tie} {D : Addr} {Qd : Hp → Prop} (hj : j < σ.length) (hR : H R = some (.lst (bs.map V.ref))) (hc : Cells tupO H bs ts) (hD : H D = none) (len : ts.length ≤ 900)
    (k : ∀ (H' : Hp) (as : List Addr), Same H H' → RowsAt H H' D as (ts.map fun e => [e.1, e.2]) → Qd H') :
    ∃ W : Nat → Nat → Hp → Prop, (∃ m, W 0 m (upd H D (.lst []))) ∧ ∀ i m H, W i m H →
      ((Itl K R).stop i H ∧ Qd H) ∨ ((Itl K R).go i H ∧ ∃ Nx : Hp → Prop, (∀ H', Nx H' → ∃ m', m' < m ∧ W (i + 1) m' H') ∧ ∀ x H', (Itl K R).yld i H x H' → (gName j) x (wipe σ [j]) H' fun σ2 H2 => wipe σ2 [j] = wipe σ [j] ∧ tYes σ2 H2 fun c H3 =>
        if c = true then tCB (rListOf K) (tCons (tVar j) tNil) σ2 H3 fun y H4 => ∃ acc, H4 D = some (.lst acc) ∧ acc.length < sizeLine ∧ Nx (upd H4 D (.lst (acc ++ [y]))) else Nx H3) := by
  have bl := hc.length
  refine lc_list (K := K) (a := R) (xs := bs.map V.ref) (fun q H1 => Same H H1 ∧ ∃ as, RowsAt H H1 D as ((ts.take q).map fun e => [e.1, e.2])) ⟨Same.put hD, [], RowsAt.start hD⟩ (fun q H1 _ ⟨s1, _⟩ => SqL.of (s1 _ _ hR)) (fun q x H1 hq ⟨s1, as, r1⟩ => ?_) (fun H1 ⟨s1, as, r1⟩ => ?_)
  · rw [List.getElem?_map] at hq
    cases eb : bs[q]? with
    | none =>
      rw [eb] at hq
      cases hq
    | some b =>
      rw [eb] at hq
      cases Option.some.inj hq
      obtain ⟨t, et, hb⟩ := paired_get hc eb
      have wl : (wipe σ [j]).length = σ.length := by simp [wipe]
      have eq : ((wipe σ [j]).set j (some (.ref b)))[j]? = some (some (.ref b)) := List.getElem?_set_self (by rw [wl]; exact hj)
      refine ⟨by simp [wipe], ?_⟩
      refine yes_ ?_
      refine iteT ?_
      refine ⟨_, eq, b, iL [t.1, t.2], rfl, .inr (SqT.of (s1 _ _ hb)), fun l hl => ?_⟩
      have pD : D ≠ l := ne_of_none r1.top hl
      refine ⟨as.map V.ref, by rw [upd_ne pD]; exact r1.top, ?_, Same.write (Same.step s1 hl) hD, as ++ [l], ?_⟩
      · rw [List.length_map, r1.len, List.length_map, List.length_take]
        exact small (by omega)
      · rw [take_next et, List.map_append]
        exact r1.more s1 hl
  · rw [List.length_map, bl, List.take_length] at r1
    exact k H1 as s1 r1
def spKnotBy (K : PySem.W.Frag) : Sp := fun vs H Q _ => ∃ (a : Addr) (ns : List Int), vs = [.ref a] ∧ SqL K H a (iL ns) ∧
  ∀ (H' : Hp) (q Hd R : Addr) (as : List Addr) (kd : Str) (hs : List Int) (rss : List (List Int)) (m qs : Nat) (us : List Int), Same H H' → H' q = some (.tup [.str kd, .ref Hd, .ref R, .int m]) → H' Hd = some (.lst (iL hs)) → RowsAt H H' R as rss → ((kd = "five" ∧ hs.length = 5) ∨ (kd = "three" ∧ hs.length = 6)) → 5 ≤ m → m ≤ 16 →
    KInv m rss.length qs us rss → 9 ≤ rss.length → rss.length ≤ 10 → qs ≤ 10 → Q (.ref q) H'
theorem filt_iL (xs : List Int) (p : V → Bool) : (iL xs).filter p = iL (xs.filter fun x => p (.int x)) := by
  unfold iL
  rw [List.filter_map]
  rfl
theorem split_perm {fl js : List Int} (n1 : fl.Nodup) (n2 : js.Nodup) (h : ∀ x ∈ fl, x ∈ js) : (fl ++ js.filter fun x => !decide (x ∈ fl)).Perm js := by
  refine (List.perm_ext_iff_of_nodup (List.nodup_append.mpr ⟨n1, n2.filter _, fun a ha b hb e => ?_⟩) n2).mpr fun x => ?_
  · subst e
    have z := (List.mem_filter.mp hb).2
    rw [decide_eq_true ha] at z
    cases z
  · rw [List.mem_append, List.mem_filter]
    constructor
    · rintro (z | ⟨z, _⟩)
      · exact h x z
      · exact z
    · intro z
      by_cases c : x ∈ fl
      · exact .inl c
      · exact .inr ⟨z, by rw [decide_eq_false c]; rfl⟩
section
variable {P : Program} {w : World} {K : PySem.W.Frag} {mg : Str → Option Value} {base : Heap} {C : Addr}
abbrev nKB : List Str := ["_law_script", "_law_cell", "_law_kind", "_law_size", "_law_many", "_law_order", "_law_heads", "_law_first", "_law_rows", "_law_place", "_law_row", "_law_point", "_law_ends_here"]
theorem scKB : FnScope nKB ["_law_script"] (defScope sLawKnotBy) := ⟨rfl, rfl, rfl, by decide +kernel, rfl, by decide +kernel, by decide +kernel⟩
theorem c_knotby (T : WTxt K mg C) (L : L8Txt K mg) : C8.Cal P w K mg base 3 "_law_knot_by" (spKnotBy K) [] := by
  refine cal_of L.fKnotBy scKB (fun vs H Q E h => ?_) (fun f cdv A outer s H vs Q E hr h => ?_)
  · obtain ⟨a, ns, rfl, _⟩ := h
    rfl
  · obtain ⟨a, ns, rfl, hS, k⟩ := h
    generalize hc0 : cellAt ns 0 = c at *
    obtain ⟨kd, sz, e1, e2, hk, s5⟩ : ∃ (kd : Str) (sz : Nat), atI [V.str "five", V.str "three"] (c % 2) = some (.str kd) ∧ atI [V.int 5, V.int 6] (c % 2) = some (.int sz) ∧ ((kd = "five" ∧ sz = 5) ∨ (kd = "three" ∧ sz = 6)) ∧ 5 ≤ sz ∧ sz ≤ 6 := by
      have : c % 2 = 0 ∨ c % 2 = 1 := by omega
      rcases this with z | z
      · exact ⟨"five", 5, by rw [z]; rfl, by rw [z]; rfl, .inl ⟨rfl, rfl⟩, by decide, by decide⟩
      · exact ⟨"three", 6, by rw [z]; rfl, by rw [z]; rfl, .inr ⟨rfl, rfl⟩, by decide, by decide⟩
    obtain ⟨m, em, m1, m2⟩ : ∃ m : Nat, (sz : Int) + c / 2 % 5 + 6 * (if decide (V.int (c / 10 % 4) = V.int 3) = true then 1 else 0) = m ∧ sz ≤ m ∧ m ≤ sz + 10 := by
      have q0 : (if decide (V.int (c / 10 % 4) = V.int 3) = true then (1 : Int) else 0) = 0 ∨ (if decide (V.int (c / 10 % 4) = V.int 3) = true then (1 : Int) else 0) = 1 := by split <;> simp
      generalize (if decide (V.int (c / 10 % 4) = V.int 3) = true then (1 : Int) else 0) = z at *
      exact ⟨((sz : Int) + c / 2 % 5 + 6 * z).toNat, by omega, by omega, by omega⟩
    -- the rows, and the end
    obtain ⟨tr, hrest, sem⟩ : ∃ t, PSs (cxOf L2.CX0 P w K mg base nKB "_law_knot_by" (defScope sLawKnotBy) f cdv A outer s H E).nox ((defBody sLawKnotBy).drop 7) t ∧
        ∀ (H1 : Hp) (O Hd : Addr) (v7 : Option V) (ord hs : List Int), Same H H1 → H1 O = some (.lst (iL ord)) → H1 Hd = some (.lst (iL hs)) → ord.Perm (pts m) → hs.Perm (ord.take sz) →
          t { nx := fun _ H' => Q .non H', rt := Q } [some (.ref a), some (.int c), some (.str kd), some (.int sz), some (.int m), some (.ref O), some (.ref Hd), v7, none, none, none, none, none] H1 := by
      refine ⟨_, pss_cons (ps_setLc (i := 8) (own := [("_law_ends_here", 12)]) (g := gName 12) (tt := tYes) (te := tCB (rListOf K) (tCons (tVar 12) tNil)) (by rfl) scKB.nd rfl rfl (sw_true rfl rfl rfl (by decide +kernel)) (pi_list (C8.pe_c (c_ends T L) hr (by decide) (by rfl) (pa_cons (pv 2) (pa_cons (pv 6) pa_nil))))
          (blkOk_by (own := [("_law_ends_here", 12)]) (N := nKB) (sc := defScope sLawKnotBy) (by decide +kernel)) (fun _ _ _ _ _ => pg_name (i := 12) scKB.nd rfl (Or.inl rfl)) (fun _ _ _ _ _ => pts_nil) (fun _ _ _ _ _ => pe_callTy (r := rListOf K) call_list_of (by rfl) T.list (by decide +kernel) (pa_cons (pv 12) pa_nil)))
        (pss_cons (ps_set (i := 9) scKB.nd rfl (Or.inl rfl) (C8.pe_c (c_cell T L.fCell) hr (by decide) (by rfl) (pa_cons (pv 0) (pa_cons pe_int pa_nil))))
        (pss_cons (ps_for PassesOwn.never rfl (pi_list (pe_slice sl_list (pv 5) (po_some (pv 3)) po_none)) (pg_name (i := 11) scKB.nd rfl (Or.inl rfl))
          (pss_cons (ps_set (i := 10) scKB.nd rfl (Or.inl rfl) (pe_ix ix_list (pv 8) (pe_op op_mod (pv 9) (pe_callB call_len_seq (by rfl) T.len PySem.boot_len (pa_cons (pv 8) pa_nil))) (fun _ _ => rfl)))
          (pss_cons (ps_expr (pe_bm PySem.F.plainAttrs_list PySem.F.slot_list_insert PySem.F.type_list_insert mt_insert (pv 10) (pa_cons pe_int (pa_cons (pv 11) pa_nil))))
          (pss_one (ps_set (i := 9) scKB.nd rfl (Or.inl rfl) (pe_op op_fdiv (pv 9) (pe_callB call_len_seq (by rfl) T.len PySem.boot_len (pa_cons (pv 8) pa_nil))))))))
        (pss_one (ps_ret (pe_tup (pa_cons (pv 2) (pa_cons (pv 6) (pa_cons (pv 8) (pa_cons (pv 4) pa_nil))))))))), fun H1 O Hd v7 ord hs s1 hO hH po ph => ?_⟩
      have ordl : ord.length = m := by rw [po.length_eq, pts_len]
      have hsl : hs.length = sz := by rw [ph.length_eq, List.length_take]; omega
      have hkl : (kd = "five" ∧ hs.length = 5) ∨ (kd ≠ "five" ∧ hs.length = 6) := by
        rcases hk with ⟨z1, z2⟩ | ⟨z1, z2⟩
        · exact .inl ⟨z1, by omega⟩
        · exact .inr ⟨by rw [z1]; decide, by omega⟩
      have ondup : ord.Nodup := po.nodup_iff.mpr ((pts_strict m).imp fun h e => by omega)
      have inO : ∀ x ∈ ord, 0 ≤ x ∧ x < m := fun x hx => mem_pts.mp (po.mem_iff.mp hx)
      have hsO : ∀ x, x ∈ hs → x ∈ ord.take sz := fun x hx => ph.mem_iff.mp hx
      have hsnd : hs.Nodup := ph.nodup_iff.mpr (ondup.sublist (List.take_sublist _ _))
      have K0 := KInv.start (m := m) hkl hsnd fun x hx => inO x (List.mem_of_mem_take (hsO x hx))
      have pl := pairsL_len2 hkl
      refine ⟨_, rfl, _, rfl, kd, Hd, hs, rfl, hH, hkl, fun H2 En es s2 hEn e2 ce => ⟨En, rfl, ⟨_, SqL.of e2⟩, fun D hD => ?_⟩⟩
      refine lctups_W (Nat.lt_of_lt_of_eq (by decide : 12 < 13) rfl) e2 ce hD (by omega) (fun H3 as s3 r3 => ?_)
      have s12 := s1.trans s2
      have s13 := s12.trans s3
      dsimp only [tNext, gName, tSeq, tAsg]
      refine ⟨_, rfl, a, ns, 2, rfl, s13.seq hS, ?_⟩
      dsimp only [tNext, gName, tSeq, tAsg]
      have hO3 := (s2.trans s3) _ _ hO
      refine ⟨_, rfl, _, rfl, (sz : Int), rfl, O, iL ord, rfl, SqL.of hO3, fun S hS3 => ?_⟩
      rw [cutI_drop ord (by omega : sz ≤ ord.length)]
      have s34 := Same.put (o := .lst (iL (ord.drop sz))) hS3
      have f4 : (upd H3 S (.lst (iL (ord.drop sz)))) S = some (.lst (iL (ord.drop sz))) := upd_same
      have apartS : ∀ x ∈ as, x ≠ S := fun x hx e => by
        obtain ⟨j, hj⟩ := List.mem_iff_getElem?.mp hx
        have hj2 : j < ((pairsL kd hs).map fun e => [e.1, e.2]).length := by
          rw [← r3.len]
          exact (List.getElem?_eq_some_iff.mp hj).1
        have z := (r3.row j x _ hj (List.getElem?_eq_getElem hj2)).2
        rw [e, hS3] at z
        cases z
      have r4 := r3.same s34
      generalize upd H3 S (.lst (iL (ord.drop sz))) = H4 at s34 f4 r4 ⊢
      have s24 := s3.trans s34
      have drl : (ord.drop sz).length = m - sz := by rw [List.length_drop]; omega
      refine ⟨S, rfl, ⟨_, SqL.of f4⟩, for_list (K := K) (a := S) (xs := iL (ord.drop sz)) (fun i σ H5 => ∃ (pc : Int) (v10 v11 : Option V) (rss : List (List Int)), σ = [some (.ref a), some (.int c), some (.str kd), some (.int sz), some (.int m), some (.ref O), some (.ref Hd), v7, some (.ref D), some (.int pc), v10, v11, none] ∧
          Same H2 H5 ∧ H5 S = some (.lst (iL (ord.drop sz))) ∧ RowsAt H2 H5 D as rss ∧ KInv m (pairsL kd hs).length i (ord.take (sz + i)) rss)
        ⟨_, none, none, _, rfl, s24, f4, r4, K0.more fun x hx => by rw [Nat.add_zero]; exact hsO x hx⟩ (fun i σ H5 _ ⟨_, _, _, _, _, _, h, _⟩ => SqL.of h) ?_ ?_⟩
      · rintro i x σ H5 hi ⟨pc, v10, v11, rss, rfl, s5', f5, r5, K5⟩
        obtain ⟨p, ep, rfl⟩ := iL_at hi
        have hpo : ord[sz + i]? = some p := by
          rw [List.getElem?_drop] at ep
          exact ep
        have lrss := K5.len
        have n9 : 9 ≤ rss.length := by omega
        have la : as.length = rss.length := r5.len
        have q0 := Int.emod_nonneg pc (show ((as.map V.ref).length : Int) ≠ 0 by rw [List.length_map]; omega)
        have q1 := Int.emod_lt_of_pos pc (show (0 : Int) < ((as.map V.ref).length : Int) by rw [List.length_map]; omega)
        obtain ⟨j, ej⟩ : ∃ j : Nat, pc % ((as.map V.ref).length : Int) = j := ⟨(pc % ((as.map V.ref).length : Int)).toNat, by omega⟩
        have hj : j < rss.length := by
          rw [ej, List.length_map] at q1
          omega
        have er : rss[j]? = some rss[j] := List.getElem?_eq_getElem hj
        generalize rss[j] = r at er
        obtain ⟨b, eb, ebr, b0, hb⟩ := r5.get er
        have hD5 := SqL.of (K := K) r5.top
        dsimp only [tNext, gName, tSeq, tAsg]
        refine ⟨_, rfl, _, rfl, _, rfl, D, _, rfl, .inl hD5, _, _, rfl, rfl, by rw [List.length_map]; omega, D, _, _, _, rfl, rfl, hD5, by rw [ej]; exact atI_nat ebr, ?_⟩
        dsimp only [tNext, gName, tSeq, tAsg]
        have rlen := K5.row r (List.mem_of_getElem? er)
        have il : i ≤ 10 := by
          have := (List.getElem?_eq_some_iff.mp ep).1
          omega
        refine ⟨_, rfl, .inl ⟨rfl, _, SqL.of hb⟩, _, rfl, b, iL r, 1, .int p, rfl, rfl, hb, by rw [List.length_map]; exact small (by omega), by decide, by decide, ?_⟩
        have eP : (iL r).take (Int.toNat 1) ++ [V.int p] ++ (iL r).drop (Int.toNat 1) = iL (putIn r p) := by
          unfold putIn iL
          rw [List.map_append, List.map_append, List.map_take, List.map_drop]
          rfl
        rw [eP]
        have r6 := r5.write (r := putIn r p) eb
        have bS : b ≠ S := apartS b (List.mem_of_getElem? eb)
        have s6 : Same H2 (upd H5 b (.lst (iL (putIn r p)))) := Same.write s5' b0
        have f6 : (upd H5 b (.lst (iL (putIn r p)))) S = some (.lst (iL (ord.drop sz))) := by rw [upd_ne bS.symm]; exact f5
        generalize upd H5 b (.lst (iL (putIn r p))) = H6 at r6 s6 f6 ⊢
        have hD6 := SqL.of (K := K) r6.top
        have inm := inO p (List.mem_of_getElem? hpo)
        have np : p ∉ ord.take (sz + i) := fun hm => by
          obtain ⟨j', hj'⟩ := List.mem_iff_getElem?.mp hm
          have hlt : j' < sz + i := by
            have := (List.getElem?_eq_some_iff.mp hj').1
            rw [List.length_take] at this
            omega
          rw [List.getElem?_take_of_lt hlt] at hj'
          have z := nd_ix ondup hj' hpo
          omega
        have K6 := K5.put er inm np
        have tk := take_next hpo
        rw [← tk] at K6
        refine ⟨_, rfl, _, rfl, D, _, rfl, .inl hD6, _, _, rfl, rfl, ⟨by rw [List.length_map]; omega, by rw [List.length_map]; omega⟩, ?_⟩
        exact ⟨_, _, _, _, rfl, s6, f6, r6, K6⟩
      · rintro σ H5 ⟨pc, v10, v11, rss, rfl, s5', f5, r5, K5⟩
        have s05 := s12.trans s5'
        refine ⟨_, rfl, _, rfl, _, rfl, _, rfl, by show 4 ≤ sizeLine; decide, fun q hq => ?_⟩
        have sq := Same.put (o := .tup [.str kd, .ref Hd, .ref D, .int m]) hq
        rw [List.length_map, drl] at K5
        have hl5 : (kd = "five" ∧ hs.length = 5) ∨ (kd = "three" ∧ hs.length = 6) := by
          rcases hk with ⟨z1, z2⟩ | ⟨z1, z2⟩
          · exact .inl ⟨z1, by omega⟩
          · exact .inr ⟨z1, by omega⟩
        exact k _ q Hd D as kd hs rss m _ _ (s05.trans sq) upd_same (sq _ _ ((s2.trans s5') _ _ hH)) ((r5.same sq).older s12) hl5 (by omega) (by omega) (by rw [K5.len]; exact K5) (by rw [K5.len]; omega) (by rw [K5.len]; omega) (by omega)
    refine ⟨_, pss_cons (ps_set (i := 1) scKB.nd rfl (Or.inl rfl) (C8.pe_c (c_cell T L.fCell) hr (by decide) (by rfl) (pa_cons (pv 0) (pa_cons pe_int pa_nil))))
      (pss_cons (ps_set (i := 2) scKB.nd rfl (Or.inl rfl) (pe_ix ix_list (pe_lst (pa_cons pe_str (pa_cons pe_str pa_nil))) (pe_op op_mod (pv 1) pe_int) (fun _ _ => rfl)))
      (pss_cons (ps_set (i := 3) scKB.nd rfl (Or.inl rfl) (pe_ix ix_list (pe_lst (pa_cons pe_int (pa_cons pe_int pa_nil))) (pe_op op_mod (pv 1) pe_int) (fun _ _ => rfl)))
      (pss_cons (ps_set (i := 4) scKB.nd rfl (Or.inl rfl) (pe_op op_add (pe_op op_add (pv 3) (pe_op op_mod (pe_op op_fdiv (pv 1) pe_int) pe_int)) (pe_op op_mul pe_int (pe_callTy call_int1 (by rfl) T.int (by decide +kernel) (pa_cons (pe_cmpR op_eq (pe_op op_mod (pe_op op_fdiv (pv 1) pe_int) pe_int) pe_int (nomark _)) pa_nil)))))
      (pss_cons (ps_set (i := 5) scKB.nd rfl (Or.inl rfl) (C8.pe_c (c_order T L.fOrder) hr (by decide) (by rfl) (pa_cons (C8.pe_c (c_cell T L.fCell) hr (by decide) (by rfl) (pa_cons (pv 0) (pa_cons pe_int pa_nil))) (pa_cons (pv 4) pa_nil))))
      (pss_cons (ps_set (i := 6) scKB.nd rfl (Or.inr rfl) (pe_callB (id := "sorted") (r := rSortedI K) cr_sortedI (by rfl) T.sorted (by decide +kernel) (pa_cons (pe_slice sl_list (pv 5) po_none (po_some (pv 3))) pa_nil)))
      (pss_cons (ps_if (pt_cmpR op_eq (pv 2) pe_str (nomark _))
          (pss_cons (ps_set (i := 7) scKB.nd rfl (Or.inr rfl) (pe_op op_cat (pe_lst (pa_cons (pe_ix ix_list (pv 6) pe_int (fun _ _ => rfl)) pa_nil))
              (pe_slice sl_list (pe_lc (own := [("_law_point", 11)]) (g := gName 11) (tt := tTest (tOp rNe (tVar 11) (tOp (rIxL K) (tVar 6) (tC (.int 0))))) (te := tVar 11) (by rfl) scKB.nd (pi_list (pe_slice sl_list (pv 5) po_none (po_some (pv 3))))
                (blkOk_by (own := [("_law_point", 11)]) (N := nKB) (sc := defScope sLawKnotBy) (by decide +kernel)) (fun _ _ _ _ _ => pg_name (i := 11) scKB.nd rfl (Or.inl rfl)) (fun _ _ _ _ _ => pts_one (pt_cmpR op_ne (pv 11) (pe_ix ix_list (pv 6) pe_int (fun _ _ => rfl)) (nomark _)))
                (fun _ _ _ _ _ => pv 11)) po_none (po_some pe_int))))
          (pss_one (ps_set (i := 6) scKB.nd rfl (Or.inr rfl) (pe_op op_cat (pe_callB (id := "sorted") (r := rSortedI K) cr_sortedI (by rfl) T.sorted (by decide +kernel) (pa_cons (pv 7) pa_nil))
              (pe_lc (own := [("_law_point", 11)]) (g := gName 11) (tt := tTest (tOp (rIn K true) (tVar 11) (tVar 7))) (te := tVar 11) (by rfl) scKB.nd (pi_list (pv 6))
                (blkOk_by (own := [("_law_point", 11)]) (N := nKB) (sc := defScope sLawKnotBy) (by decide +kernel)) (fun _ _ _ _ _ => pg_name (i := 11) scKB.nd rfl (Or.inl rfl)) (fun _ _ _ _ _ => pts_one (pt_cmpR op_notIn_seq (pv 11) (pv 7) (by rfl)))
                (fun _ _ _ _ _ => pv 11)))))) pss_nil)
        hrest)))))), ?_⟩
    refine ⟨_, rfl, a, ns, 0, rfl, hS, ?_⟩
    rw [hc0]
    dsimp only [tNext, gName, tSeq, tAsg]
    refine ⟨smalle (by show 2 ≤ 1000; decide), fun q1 hq1 => ?_⟩
    have s1 : Same H (upd H q1 (.lst [.str "five", .str "three"])) := Same.put hq1
    have g1 : (upd H q1 (.lst [.str "five", .str "three"])) q1 = some (.lst [.str "five", .str "three"]) := upd_same
    generalize upd H q1 (.lst [.str "five", .str "three"]) = H1 at s1 g1 ⊢
    refine ⟨_, rfl, _, _, rfl, rfl, by show (0 : Int) < 2; decide, q1, _, _, _, rfl, rfl, SqL.of g1, e1, ?_⟩
    dsimp only [tNext, gName, tSeq, tAsg]
    refine ⟨smalle (by show 2 ≤ 1000; decide), fun q2 hq2 => ?_⟩
    have s2 : Same H (upd H1 q2 (.lst [.int 5, .int 6])) := Same.step s1 hq2
    have g2 : (upd H1 q2 (.lst [.int 5, .int 6])) q2 = some (.lst [.int 5, .int 6]) := upd_same
    generalize upd H1 q2 (.lst [.int 5, .int 6]) = H2 at s2 g2 ⊢
    refine ⟨_, rfl, _, _, rfl, rfl, by show (0 : Int) < 2; decide, q2, _, _, _, rfl, rfl, SqL.of g2, e2, ?_⟩
    dsimp only [tNext, gName, tSeq, tAsg]
    have c0 := Int.emod_nonneg (c / 2) (show (5 : Int) ≠ 0 by decide)
    have c5 := Int.emod_lt_of_pos (c / 2) (show (0 : Int) < 5 by decide)
    refine ⟨_, rfl, _, rfl, _, _, rfl, rfl, ⟨by decide, by decide⟩, _, _, rfl, rfl, by show (0 : Int) < 5; decide, _, _, rfl, rfl, ?_⟩
    refine ⟨_, rfl, _, _, rfl, rfl, ⟨by decide, by decide⟩, _, _, rfl, rfl, by show (0 : Int) < 4; decide, rfl, .inr ⟨_, rfl, ?_⟩⟩
    refine ⟨_, _, rfl, rfl, .inl ⟨by decide, by decide⟩, _, _, rfl, rfl, ?_⟩
    dsimp only [tNext, gName, tSeq, tAsg]
    rw [em]
    -- order
    refine ⟨_, rfl, a, ns, 1, rfl, s2.seq hS, ?_⟩
    refine ⟨_, rfl, cellAt ns 1, m, rfl, by omega, fun H3 O ord s3 hO d3 po => ?_⟩
    have s13 := s2.trans s3
    dsimp only [tNext, gName, tSeq, tAsg]
    have ordl : ord.length = m := by rw [po.length_eq, pts_len]
    have ondup : ord.Nodup := po.nodup_iff.mpr ((pts_strict m).imp fun h e => by omega)
    -- heads
    refine ⟨_, rfl, _, rfl, (sz : Int), rfl, O, iL ord, rfl, SqL.of d3, fun S hS3 => ?_⟩
    rw [cutI_take ord (by omega : sz ≤ ord.length)]
    have s34 := Same.put (o := .lst (iL (ord.take sz))) hS3
    have f4 : (upd H3 S (.lst (iL (ord.take sz)))) S = some (.lst (iL (ord.take sz))) := upd_same
    generalize upd H3 S (.lst (iL (ord.take sz))) = H4 at s34 f4 ⊢
    have tl : (ord.take sz).length = sz := by rw [List.length_take]; omega
    refine ⟨S, _, rfl, SqL.of f4, fun js Hd hp1 ho1 hHd => ?_⟩
    have s45 := Same.put (o := .lst (js.map V.int)) hHd
    have f5 : (upd H4 Hd (.lst (js.map V.int))) Hd = some (.lst (iL js)) := upd_same
    generalize upd H4 Hd (.lst (js.map V.int)) = H5 at s45 f5 ⊢
    dsimp only [tNext, gName, tSeq, tAsg]
    have s35 := s34.trans s45
    have s05 := s13.trans s35
    have jl : js.length = sz := by rw [hp1.length_eq, tl]
    have jnd : js.Nodup := hp1.nodup_iff.mpr (ondup.sublist (List.take_sublist _ _))
    refine ⟨_, rfl, rfl, _, rfl, ?_⟩
    rcases hk with ⟨k1, k2⟩ | ⟨k1, k2⟩
    · subst k1
      refine no_ (by decide) ?_
      exact sem H5 O Hd none ord js s05 (s35 _ _ d3) f5 po hp1
    · subst k1
      refine yep_ (decide_eq_true rfl) ?_
      have jpos : 1 ≤ js.length := by omega
      -- first
      refine ⟨_, rfl, Hd, _, 0, _, rfl, rfl, SqL.of f5, atI_first jpos, smalle (by show 1 ≤ 1000; decide), fun N1 hN1 => ?_⟩
      generalize hh0 : js.getD 0 0 = h0 at *
      have s56 := Same.put (o := .lst [.int h0]) hN1
      have n6 : (upd H5 N1 (.lst [.int h0])) N1 = some (.lst (iL [h0])) := upd_same
      generalize upd H5 N1 (.lst [.int h0]) = H6 at s56 n6 ⊢
      have s36 := s35.trans s56
      refine ⟨_, rfl, _, rfl, (sz : Int), rfl, O, iL ord, rfl, SqL.of (s36 _ _ d3), fun N2 hN2 => ?_⟩
      rw [cutI_take ord (by omega : sz ≤ ord.length)]
      have s67 := Same.put (o := .lst (iL (ord.take sz))) hN2
      have n7 : (upd H6 N2 (.lst (iL (ord.take sz)))) N2 = some (.lst (iL (ord.take sz))) := upd_same
      generalize upd H6 N2 (.lst (iL (ord.take sz))) = H7 at s67 n7 ⊢
      have f7 := (s56.trans s67) _ _ f5
      refine ⟨N2, rfl, ⟨_, SqL.of n7⟩, fun D hD => ?_⟩
      refine lcfv_W (K := K) (p := fun x => !decide (x = .int h0)) (f := fun x => x) (Nat.lt_of_lt_of_eq (by decide : 11 < 13) rfl) (SqL.of n7) hD (by rw [List.length_map]; omega) (fun H8 x Q' hx s8 q => ?_) (fun H8 x Q' hx _ s8 q => ?_) (fun H8 s8 d8 => ?_)
      · obtain ⟨y, _, rfl⟩ := List.mem_map.mp hx
        have a0 := atI_first (r := js) jpos
        rw [hh0] at a0
        exact ⟨_, rfl, _, rfl, Hd, _, 0, _, rfl, rfl, SqL.of (s8 _ _ f7), a0, rfl, _, rfl, q H8 (Same.refl H8)⟩
      · exact ⟨_, rfl, q H8 (Same.refl H8)⟩
      · have e8 : ((iL (ord.take sz)).filter fun x => !decide (x = .int h0)).map (fun x => x) = iL ((ord.take sz).filter fun x => !decide (V.int x = .int h0)) := by
          rw [List.map_id', filt_iL]
        rw [e8] at d8
        generalize hrest0 : ((ord.take sz).filter fun x => !decide (V.int x = .int h0)) = ot at d8
        have otl : ot.length ≤ 16 := by
          have z := List.length_filter_le (fun x : Int => !decide (V.int x = .int h0)) (ord.take sz)
          rw [hrest0] at z
          omega
        have ot0 : h0 ∉ ot := fun z => by
          rw [← hrest0] at z
          have z2 := (List.mem_filter.mp z).2
          rw [decide_eq_true rfl] at z2
          cases z2
        have ots : ∀ x ∈ ot, x ∈ ord.take sz := fun x hx => by
          rw [← hrest0] at hx
          exact (List.mem_filter.mp hx).1
        have otn : ot.Nodup := by
          rw [← hrest0]
          exact (ondup.sublist (List.take_sublist _ _)).filter _
        refine ⟨2, rfl, D, _, rfl, SqL.of d8, fun F hF => ?_⟩
        have s78 := s67.trans s8
        have n8 := s78 _ _ n6
        have ec2 : ∃ us : List Int, cutV (iL ot) none (some 2) = iL us ∧ us.Sublist ot := by
          refine ⟨ot.take 2, ?_, List.take_sublist _ _⟩
          unfold cutV
          have z1 : HT.sIx (iL ot).length 0 none = 0 := rfl
          have z2 : HT.sIx (iL ot).length (iL ot).length (some 2) = min 2 (iL ot).length := HT.sIx_nat _ _ 2
          rw [z1, z2, List.drop_zero]
          unfold iL
          rw [List.map_take, Nat.sub_zero]
          by_cases z3 : 2 ≤ (ot.map V.int).length
          · rw [Nat.min_eq_left z3]
          · rw [Nat.min_eq_right (by omega), List.take_of_length_le (Nat.le_refl _), List.take_of_length_le (by omega)]
        obtain ⟨us, ec, us1⟩ := ec2
        rw [ec]
        have s89 := Same.put (o := .lst (iL us)) hF
        have f9 : (upd H8 F (.lst (iL us))) F = some (.lst (iL us)) := upd_same
        have n9 := s89 _ _ n8
        generalize upd H8 F (.lst (iL us)) = H9 at s89 f9 n9 ⊢
        have ul := us1.length_le
        refine ⟨N1, F, _, _, rfl, rfl, n9, f9, smalle (by rw [List.length_map, List.length_map]; show 1 + _ ≤ 1000; omega), fun G hG => ?_⟩
        rw [iL_app]
        generalize hfl : [h0] ++ us = fl at *
        have s910 := Same.put (o := .lst (iL fl)) hG
        have g10 : (upd H9 G (.lst (iL fl))) G = some (.lst (iL fl)) := upd_same
        generalize upd H9 G (.lst (iL fl)) = H10 at s910 g10 ⊢
        have s510 := s56.trans (s78.trans (s89.trans s910))
        have fll : fl.length ≤ 17 := by
          rw [← hfl, List.length_append]
          show 1 + _ ≤ 17
          omega
        have jsO : ∀ x, x ∈ js ↔ x ∈ ord.take sz := fun x => hp1.mem_iff
        have h0j : h0 ∈ js := by
          rw [← hh0, List.getD_eq_getElem?_getD, List.getElem?_eq_getElem (show 0 < js.length by omega)]
          exact List.getElem_mem _
        have fln : fl.Nodup := by
          rw [← hfl]
          refine List.nodup_append.mpr ⟨by simp, otn.sublist us1, fun a ha b hb e => ?_⟩
          rw [List.mem_singleton.mp ha] at e
          exact ot0 (e ▸ us1.subset hb)
        have flj : ∀ x ∈ fl, x ∈ js := fun x hx => by
          rw [← hfl] at hx
          rcases List.mem_append.mp hx with z | z
          · rw [List.mem_singleton.mp z]
            exact h0j
          · exact (jsO x).mpr (ots x (us1.subset z))
        dsimp only [tNext, gName, tSeq, tAsg]
        -- heads once more
        refine ⟨_, rfl, G, fl, rfl, SqL.of g10, fun js2 q hp2 ho2 hq2 => ?_⟩
        have s1011 := Same.put (o := .lst (js2.map V.int)) hq2
        have j11 : (upd H10 q (.lst (js2.map V.int))) q = some (.lst (iL js2)) := upd_same
        have g11 := s1011 _ _ g10
        have f11 := (s510.trans s1011) _ _ f5
        generalize upd H10 q (.lst (js2.map V.int)) = H11 at s1011 j11 g11 f11 ⊢
        refine lc_filt (K := K) (i := 6) (j := 11) (p := fun x => !inV x (iL fl)) (f := fun x => x) rfl (Nat.lt_of_lt_of_eq (by decide : 11 < 13) rfl) (SqL.of f11) (by rw [List.length_map]; omega) (fun H12 x Q' hx s12 q' => ?_) (fun H12 x Q' hx _ s12 q' => ?_) (fun H12 D2 s12 hD2 d12 => ?_)
        · exact ⟨_, rfl, _, rfl, G, iL fl, rfl, .inl (SqL.of (s12 _ _ g11)), by obtain ⟨y, _, rfl⟩ := List.mem_map.mp hx; rfl, flat_ints _, by rw [if_pos rfl]; exact ⟨_, rfl, q' H12 (Same.refl H12)⟩⟩
        · exact ⟨_, rfl, q' H12 (Same.refl H12)⟩
        · have e12 : ((iL js).filter fun x => !inV x (iL fl)).map (fun x => x) = iL (js.filter fun x => !decide (x ∈ fl)) := by
            rw [List.map_id', filt_iL]
            congr 1
            refine List.filter_congr fun x _ => ?_
            rw [inV_ints]
          rw [e12] at d12
          have j12 := s12 _ _ j11
          have fl2 := List.length_filter_le (fun x => !decide (x ∈ fl)) js
          have jl2 : js2.length = fl.length := hp2.length_eq
          refine ⟨q, D2, _, _, rfl, rfl, j12, d12, smalle (by rw [List.length_map, List.length_map]; omega), fun Z hZ => ?_⟩
          rw [iL_app]
          have s13' := Same.put (o := .lst (iL (js2 ++ js.filter fun x => !decide (x ∈ fl)))) hZ
          have s5z := s510.trans (s1011.trans (s12.trans s13'))
          exact sem _ O Z (some (.ref G)) ord _ (s05.trans s5z) (s5z _ _ (s35 _ _ d3)) upd_same po (((hp2.append_right _).trans (split_perm fln jnd flj)).trans hp1)
end
end Fd
namespace Fd
open PySem PySem.Spec PyProof.Rows L2
/-! ### rows with one thing wrong: their ties -/
structure Odd8 (rss rss' : List (List Int)) : Prop where
  len : rss'.length ≤ rss.length + 1
  row : ∀ r ∈ rss', r.length ≤ 13
  few : (tiesL8 rss').length ≤ (tiesL8 rss).length + 12
  ex : ∃ E : List Tie, E.length ≤ 2 ∧ ∀ t ∈ tiesL8 rss', t ∈ tiesL8 rss ∨ t ∈ E
theorem ties_mem {rss : List (List Int)} {t : Tie} : t ∈ tiesL8 rss ↔ ∃ r ∈ rss, ∃ s ∈ steps2 r, t = norm s := by
  unfold tiesL8
  rw [List.mem_flatMap]
  constructor
  · rintro ⟨r, hr, h⟩
    obtain ⟨s, hs, rfl⟩ := List.mem_map.mp h
    exact ⟨r, hr, s, hs, rfl⟩
  · rintro ⟨r, hr, s, hs, rfl⟩
    exact ⟨r, hr, List.mem_map.mpr ⟨s, hs, rfl⟩⟩
theorem ties_sub {rss rss' : List (List Int)} (h : ∀ r ∈ rss', r ∈ rss) : ∀ t ∈ tiesL8 rss', t ∈ tiesL8 rss := fun t ht => by
  obtain ⟨r, hr, z⟩ := ties_mem.mp ht
  exact ties_mem.mpr ⟨r, h r hr, z⟩
theorem ties_len_app (xs ys : List (List Int)) : (tiesL8 (xs ++ ys)).length = (tiesL8 xs).length + (tiesL8 ys).length := by
  rw [tiesL8_app, List.length_append]
theorem ties_len_one (r : List Int) : (tiesL8 [r]).length = r.length - 1 := by
  rw [tiesL8_cons]
  show ((steps2 r).map norm ++ []).length = _
  rw [List.append_nil, List.length_map, steps2_len]
theorem at_split3 {α : Type} {l : List α} {j : Nat} {a : α} (h : l[j]? = some a) : l = l.take j ++ [a] ++ l.drop (j + 1) := by
  rw [List.append_assoc]
  exact at_split h
theorem ties_len_at {rss : List (List Int)} {a : Nat} {r : List Int} (h : rss[a]? = some r) : (tiesL8 rss).length = (tiesL8 (rss.take a)).length + (r.length - 1) + (tiesL8 (rss.drop (a + 1))).length := by
  have e := congrArg (fun x => (tiesL8 x).length) (at_split3 h)
  rw [ties_len_app, ties_len_app, ties_len_one] at e
  exact e
/-- one row in another's place -/
theorem odd_one {rss : List (List Int)} {a : Nat} {own r' : List Int} (h : rss[a]? = some own) (hl : ∀ r ∈ rss, r.length ≤ 12) (l : r'.length ≤ 13) (ex : ∃ E : List Tie, E.length ≤ 2 ∧ ∀ s ∈ steps2 r', norm s ∈ (steps2 own).map norm ∨ norm s ∈ E) : Odd8 rss (rss.take a ++ [r'] ++ rss.drop (a + 1)) := by
  have hj := (List.getElem?_eq_some_iff.mp h).1
  refine ⟨?_, fun r hr => ?_, ?_, ?_⟩
  · rw [List.length_append, List.length_append, List.length_take, List.length_drop]
    show _ + 1 + _ ≤ _
    omega
  · rcases List.mem_append.mp hr with z | z
    · rcases List.mem_append.mp z with z | z
      · have := hl r (List.mem_of_mem_take z)
        omega
      · rw [List.mem_singleton.mp z]
        exact l
    · have := hl r (List.mem_of_mem_drop z)
      omega
  · rw [ties_len_app, ties_len_app, ties_len_one, ties_len_at h]
    omega
  · obtain ⟨E, e1, e2⟩ := ex
    refine ⟨E, e1, fun t ht => ?_⟩
    obtain ⟨r, hr, s, hs, rfl⟩ := ties_mem.mp ht
    rcases List.mem_append.mp hr with z | z
    · rcases List.mem_append.mp z with z | z
      · exact .inl (ties_mem.mpr ⟨r, List.mem_of_mem_take z, s, hs, rfl⟩)
      · rw [List.mem_singleton.mp z] at hs
        rcases e2 s hs with q | q
        · obtain ⟨u, hu, e⟩ := List.mem_map.mp q
          exact .inl (ties_mem.mpr ⟨own, List.mem_of_getElem? h, u, hu, e.symm⟩)
        · exact .inr q
    · exact .inl (ties_mem.mpr ⟨r, List.mem_of_mem_drop z, s, hs, rfl⟩)
theorem steps_rev {r : List Int} {s : Tie} (h : s ∈ steps2 r.reverse) : (s.2, s.1) ∈ steps2 r := by
  obtain ⟨i, hi⟩ := List.mem_iff_getElem?.mp h
  unfold steps2 at hi
  rw [List.getElem?_zip_eq_some] at hi
  obtain ⟨h1, h2⟩ := hi
  rw [List.getElem?_tail] at h2
  have l2 := (List.getElem?_eq_some_iff.mp h2).1
  rw [List.length_reverse] at l2
  rw [List.getElem?_reverse (by omega)] at h1
  rw [List.getElem?_reverse (by omega)] at h2
  refine List.mem_of_getElem? (i := r.length - 1 - (i + 1)) ?_
  unfold steps2
  rw [List.getElem?_zip_eq_some, List.getElem?_tail]
  refine ⟨h2, ?_⟩
  have : r.length - 1 - (i + 1) + 1 = r.length - 1 - i := by omega
  rw [this]
  exact h1
theorem norm_swap (s : Tie) : norm (s.2, s.1) = norm s := by
  unfold norm
  dsimp only
  rw [Int.min_comm, Int.max_comm]
theorem odd_rev {rss : List (List Int)} {a : Nat} {own : List Int} (h : rss[a]? = some own) (hl : ∀ r ∈ rss, r.length ≤ 12) : Odd8 rss (rss.take a ++ [own.reverse] ++ rss.drop (a + 1)) := by
  have := hl own (List.mem_of_getElem? h)
  refine odd_one h hl (by rw [List.length_reverse]; omega) ⟨[], by decide, fun s hs => .inl ?_⟩
  rw [← norm_swap]
  exact List.mem_map.mpr ⟨_, steps_rev hs, rfl⟩
theorem odd_put {rss : List (List Int)} {a : Nat} {own : List Int} (p : Int) (h : rss[a]? = some own) (hl : ∀ r ∈ rss, 2 ≤ r.length ∧ r.length ≤ 12) : Odd8 rss (rss.take a ++ [putIn own p] ++ rss.drop (a + 1)) := by
  have l := hl own (List.mem_of_getElem? h)
  match own, l, h with
  | x :: y :: rest, l, h =>
    have e0 : putIn (x :: y :: rest) p = x :: p :: y :: rest := rfl
    rw [e0]
    refine odd_one h (fun r hr => (hl r hr).2) (by simp only [List.length_cons] at l ⊢; omega) ⟨[norm (x, p), norm (p, y)], Nat.le_refl _, fun s hs => ?_⟩
    rw [steps2_cons, steps2_cons] at hs
    rcases List.mem_cons.mp hs with c | c
    · rw [c]; exact .inr (by simp)
    · rcases List.mem_cons.mp c with c | c
      · rw [c]; exact .inr (by simp)
      · refine .inl (List.mem_map.mpr ⟨s, ?_, rfl⟩)
        rw [steps2_cons]
        exact List.mem_cons_of_mem _ c
theorem steps_take {r : List Int} {k : Nat} {s : Tie} (h : s ∈ steps2 (r.take k)) : s ∈ steps2 r := by
  obtain ⟨i, hi⟩ := List.mem_iff_getElem?.mp h
  unfold steps2 at hi
  rw [List.getElem?_zip_eq_some, List.getElem?_tail] at hi
  obtain ⟨h1, h2⟩ := hi
  have l1 := (List.getElem?_eq_some_iff.mp h1).1
  have l2 := (List.getElem?_eq_some_iff.mp h2).1
  rw [List.length_take] at l1 l2
  rw [List.getElem?_take_of_lt (by omega)] at h1 h2
  refine List.mem_of_getElem? (i := i) ?_
  unfold steps2
  rw [List.getElem?_zip_eq_some, List.getElem?_tail]
  exact ⟨h1, h2⟩
theorem odd_cut {rss : List (List Int)} {a : Nat} {own : List Int} (k : Nat) (h : rss[a]? = some own) (hl : ∀ r ∈ rss, r.length ≤ 12) : Odd8 rss (rss.take a ++ [own.take k] ++ rss.drop (a + 1)) := by
  have := hl own (List.mem_of_getElem? h)
  refine odd_one h hl (by rw [List.length_take]; omega) ⟨[], by decide, fun s hs => .inl (List.mem_map.mpr ⟨_, steps_take hs, rfl⟩)⟩
theorem odd_nil {rss : List (List Int)} {a : Nat} {own : List Int} (h : rss[a]? = some own) (hl : ∀ r ∈ rss, r.length ≤ 12) : Odd8 rss (rss.take a ++ [[]] ++ rss.drop (a + 1)) :=
  odd_one h hl (by show 0 ≤ 13; decide) ⟨[], by decide, fun s hs => by cases hs⟩
theorem odd_less {rss : List (List Int)} (a : Nat) (hl : ∀ r ∈ rss, r.length ≤ 12) : Odd8 rss (rss.take a ++ rss.drop (a + 1)) := by
  have sub : ∀ r ∈ rss.take a ++ rss.drop (a + 1), r ∈ rss := fun r hr => by
    rcases List.mem_append.mp hr with z | z
    · exact List.mem_of_mem_take z
    · exact List.mem_of_mem_drop z
  refine ⟨?_, fun r hr => ?_, ?_, [], by decide, fun t ht => .inl (ties_sub sub t ht)⟩
  · rw [List.length_append, List.length_take, List.length_drop]
    omega
  · have := hl r (sub r hr)
    omega
  · by_cases h : a < rss.length
    · rw [ties_len_app, ties_len_at (List.getElem?_eq_getElem h)]
      omega
    · rw [List.take_of_length_le (by omega), List.drop_of_length_le (by omega), List.append_nil]
      omega
theorem odd_more {rss : List (List Int)} {a : Nat} {own : List Int} (h : rss[a]? = some own) (hl : ∀ r ∈ rss, r.length ≤ 12) : Odd8 rss (rss ++ [own]) := by
  have hm := List.mem_of_getElem? h
  have l := hl own hm
  have sub : ∀ r ∈ rss ++ [own], r ∈ rss := fun r hr => by
    rcases List.mem_append.mp hr with z | z
    · exact z
    · rw [List.mem_singleton.mp z]
      exact hm
  refine ⟨by rw [List.length_append]; exact Nat.le_refl _, fun r hr => ?_, ?_, [], by decide, fun t ht => .inl (ties_sub sub t ht)⟩
  · have := hl r (sub r hr)
    omega
  · rw [ties_len_app, ties_len_one]
    omega
theorem ties_len_set {rss : List (List Int)} {a : Nat} {own r' : List Int} (h : rss[a]? = some own) : (tiesL8 (rss.set a r')).length + (own.length - 1) = (tiesL8 rss).length + (r'.length - 1) := by
  have hj := (List.getElem?_eq_some_iff.mp h).1
  have e : rss.set a r' = rss.take a ++ [r'] ++ rss.drop (a + 1) := by
    rw [List.append_assoc]
    exact set_split hj r'
  rw [e, ties_len_app, ties_len_app, ties_len_one, ties_len_at h]
  omega
theorem odd_swap {rss : List (List Int)} {a b : Nat} {ra rb : List Int} (ha : rss[a]? = some ra) (hb : rss[b]? = some rb) (hl : ∀ r ∈ rss, r.length ≤ 12) : Odd8 rss ((rss.set a rb).set b ra) := by
  have ma := List.mem_of_getElem? ha
  have mb := List.mem_of_getElem? hb
  have sub : ∀ r ∈ (rss.set a rb).set b ra, r ∈ rss := fun r hr => by
    rcases List.mem_or_eq_of_mem_set hr with z | z
    · rcases List.mem_or_eq_of_mem_set z with z | z
      · exact z
      · rw [z]; exact mb
    · rw [z]; exact ma
  refine ⟨by rw [List.length_set, List.length_set]; omega, fun r hr => ?_, ?_, [], by decide, fun t ht => .inl (ties_sub sub t ht)⟩
  · have := hl r (sub r hr)
    omega
  · have e1 := ties_len_set (r' := rb) ha
    by_cases c : a = b
    · subst c
      cases Option.some.inj (ha.symm.trans hb)
      have e2 : (rss.set a ra)[a]? = some ra := List.getElem?_set_self (List.getElem?_eq_some_iff.mp ha).1
      have e3 := ties_len_set (r' := ra) e2
      have := hl ra ma
      omega
    · have e2 : (rss.set a rb)[b]? = some rb := by rw [List.getElem?_set_ne c]; exact hb
      have e3 := ties_len_set (r' := ra) e2
      have := hl ra ma
      have := hl rb mb
      omega
end Fd
namespace Fd
open PySem PySem.Spec PyProof.Rows L2
theorem cutR_take (as : List Addr) {k : Nat} (h : k ≤ as.length) : cutV (as.map V.ref) none (some (k : Int)) = (as.take k).map V.ref := by
  rw [List.map_take]
  exact cut_take (as.map V.ref) k (by rw [List.length_map]; exact h)
theorem cutR_drop (as : List Addr) {k : Nat} (h : k ≤ as.length) : cutV (as.map V.ref) (some (k : Int)) none = (as.drop k).map V.ref := by
  rw [List.map_drop]
  exact cut_drop (as.map V.ref) k (by rw [List.length_map]; exact h)
theorem cutI_init (r : List Int) : cutV (iL r) none (some (-1)) = iL (r.take (r.length - 1)) := by
  unfold cutV
  have e1 : HT.sIx (iL r).length 0 none = 0 := rfl
  have e2 : HT.sIx (iL r).length (iL r).length (some (-1)) = r.length - 1 := by
    show (if (-1 : Int) < 0 then ((-1 : Int) + ((iL r).length : Int)).toNat else min (-1 : Int).toNat (iL r).length) = _
    rw [if_pos (by decide), List.length_map]
    omega
  rw [e1, e2, List.drop_zero, Nat.sub_zero]
  unfold iL
  rw [List.map_take]
theorem atI_back {r : List Int} {k : Int} (h0 : 0 ≤ k) (h1 : k < (r.length : Int)) : ∃ y, atI (iL r) (-1 - k) = some (.int y) := by
  have hk : r.length - 1 - k.toNat < r.length := by omega
  refine ⟨r[r.length - 1 - k.toNat], ?_⟩
  have e2 : ixN r.length (-1 - k) = some (r.length - 1 - k.toNat) := by
    unfold ixN
    rw [if_neg (by omega), if_pos (by omega)]
    congr 1
    omega
  unfold atI
  rw [List.length_map, e2]
  exact iL_get (List.getElem?_eq_getElem hk)
def refsO (as : List Addr) : HO := .lst (as.map V.ref)
def toA8 : V → Addr
  | .ref b => b
  | _ => default
theorem refs_app (as bs : List Addr) : as.map V.ref ++ bs.map V.ref = (as ++ bs).map V.ref := by rw [List.map_append]
/-- rows in the heap, by their places -/
abbrev Rw8 (H : Hp) (as : List Addr) (rss : List (List Int)) : Prop := Paired (RowIs H) as rss
theorem Rw8.same {H H' : Hp} {as : List Addr} {rss : List (List Int)} (h : Rw8 H as rss) (s : Same H H') : Rw8 H' as rss := Paired.mono (fun _ _ e => s _ _ e) h
theorem paired_app {α β : Type} {F : α → β → Prop} : ∀ {xs xs' : List α} {ys ys' : List β}, Paired F xs ys → Paired F xs' ys' → Paired F (xs ++ xs') (ys ++ ys')
  | _, _, _, _, .nil, h => h
  | _, _, _, _, .cons r t, h => .cons r (paired_app t h)
theorem paired_set {α β : Type} {F : α → β → Prop} : ∀ {xs : List α} {ys : List β}, Paired F xs ys → ∀ (j : Nat) {a : α} {b : β}, F a b → Paired F (xs.set j a) (ys.set j b)
  | _, _, .nil, _, _, _, _ => .nil
  | _, _, .cons _ t, 0, _, _, h => .cons h t
  | _, _, .cons r t, j + 1, _, _, h => .cons r (paired_set t j h)
theorem Rw8.at_ {H : Hp} {as : List Addr} {rss : List (List Int)} (h : Rw8 H as rss) {a : Nat} {r : List Int} (e : rss[a]? = some r) : ∃ b, as[a]? = some b ∧ H b = some (.lst (iL r)) := by
  obtain ⟨b, e1, e2⟩ := paired_get' h e
  exact ⟨b, e1, e2⟩
def spSpR : Sp := fun vs H Q _ => ∃ (R : Addr) (c : Int) (m : Nat) (rss : List (List Int)), vs = [.ref R, .int c, .int m] ∧ ListsAt H R rss ∧ 1 ≤ rss.length ∧ rss.length ≤ 10 ∧ (∀ r ∈ rss, 2 ≤ r.length ∧ r.length ≤ 12) ∧
  ∀ (H' : Hp) (D : Addr) (rss' : List (List Int)), Same H H' → ListsAt H' D rss' → Odd8 rss rss' → Q (.ref D) H'
section
variable {P : Program} {w : World} {K : PySem.W.Frag} {mg : Str → Option Value} {base : Heap} {C : Addr}
abbrev nSpR : List Str := ["_law_rows", "_law_cell", "_law_many", "_law_at", "_law_to", "_law_made", "_law_turned", "_law_own", "_law_through", "_law_wild", "_law_odd", "_law_row"]
theorem scSpR : FnScope nSpR ["_law_rows", "_law_cell", "_law_many"] (defScope sLawSpoiltRows) := ⟨rfl, rfl, rfl, by decide +kernel, rfl, by decide +kernel, by decide +kernel⟩
set_option maxHeartbeats 2000000 in
theorem c_sprows (T : WTxt K mg C) (L : L8Txt K mg) : C8.Cal P w K mg base 1 "_law_spoilt_rows" spSpR [] := by
  refine cal_of L.fSpR scSpR (fun vs H Q E h => ?_) (fun f cdv A outer s H vs Q E hr h => ?_)
  · obtain ⟨R, c, m, rss, rfl, _⟩ := h
    rfl
  · obtain ⟨R, c, m, rss, rfl, hR, l1, l10, rl, k⟩ := h
    refine ⟨_, pss_cons (ps_set (i := 3) scSpR.nd rfl (Or.inr rfl) (pe_op op_mod (pv 1) (pe_callB call_len_seq (by rfl) T.len PySem.boot_len (pa_cons (pv 0) pa_nil))))
      (pss_cons (ps_set (i := 4) scSpR.nd rfl (Or.inl rfl) (pe_op op_mod (pe_op op_fdiv (pv 1) pe_int) (pe_callB call_len_seq (by rfl) T.len PySem.boot_len (pa_cons (pv 0) pa_nil))))
      (pss_cons (ps_setLc (i := 5) (own := [("_law_row", 11)]) (g := gName 11) (tt := tYes) (te := tCB (rListOf K) (tCons (tVar 11) tNil)) (by rfl) scSpR.nd rfl rfl (sw_true rfl rfl rfl (by decide +kernel)) (pi_list (pv 0))
          (blkOk_by (own := [("_law_row", 11)]) (N := nSpR) (sc := defScope sLawSpoiltRows) (by decide +kernel)) (fun _ _ _ _ _ => pg_name (i := 11) scSpR.nd rfl (Or.inl rfl)) (fun _ _ _ _ _ => pts_nil) (fun _ _ _ _ _ => pe_callTy (r := rListOf K) call_list_of (by rfl) T.list (by decide +kernel) (pa_cons (pv 11) pa_nil)))
      (pss_cons (ps_asg (pe_tup (pa_cons (pe_ix ix_list (pv 0) (pv 4) (fun _ _ => rfl)) (pa_cons (pe_ix ix_list (pv 0) (pv 3) (fun _ _ => rfl)) pa_nil)))
          (pg_tup (by rfl) (pgs_cons (pg_sub (pv 5) (pv 3) set_list) (pgs_cons (pg_sub (pv 5) (pv 4) set_list) pgs_nil))))
      (pss_cons (ps_set (i := 6) scSpR.nd rfl (Or.inl rfl) (pe_op op_cat (pe_op op_cat (pe_slice sl_list (pv 0) po_none (po_some (pv 3))) (pe_lst (pa_cons (pe_listRev rfl (by rfl) T.list (by rfl) L.rev (pe_ix ix_list (pv 0) (pv 3) (fun _ _ => rfl))) pa_nil)))
          (pe_slice sl_list (pv 0) (po_some (pe_op op_add (pv 3) pe_int)) po_none)))
      (pss_cons (ps_set (i := 7) scSpR.nd rfl (Or.inl rfl) (pe_ix ix_list (pv 0) (pv 3) (fun _ _ => rfl)))
      (pss_cons (ps_set (i := 8) scSpR.nd rfl (Or.inl rfl) (pe_op op_cat (pe_op op_cat (pe_slice sl_list (pv 7) po_none (po_some pe_int)) (pe_lst (pa_cons (pe_ix ix_list (pe_ix ix_list (pv 0) (pv 4) (fun _ _ => rfl))
            (pe_op op_sub (pe_un un_neg pe_int) (pe_op op_mod (pe_op op_fdiv (pv 1) pe_int) (pe_callB call_len_seq (by rfl) T.len PySem.boot_len (pa_cons (pe_ix ix_list (pv 0) (pv 4) (fun _ _ => rfl)) pa_nil)))) (fun _ _ => rfl)) pa_nil)))
          (pe_slice sl_list (pv 7) (po_some pe_int) po_none)))
      (pss_cons (ps_set (i := 9) scSpR.nd rfl (Or.inl rfl) (pe_op op_cat (pe_op op_cat (pe_slice sl_list (pv 7) po_none (po_some pe_int)) (pe_lst (pa_cons (pe_op op_sub (pe_op op_mod (pe_op op_fdiv (pv 1) pe_int) (pe_op op_add (pv 2) pe_int)) pe_int) pa_nil)))
          (pe_slice sl_list (pv 7) (po_some pe_int) po_none)))
      (pss_cons (ps_set (i := 10) scSpR.nd rfl (Or.inl rfl) (pe_lst (pa_cons (pv 5) (pa_cons (pe_op op_cat (pe_slice sl_list (pv 0) po_none (po_some (pv 3))) (pe_slice sl_list (pv 0) (po_some (pe_op op_add (pv 3) pe_int)) po_none))
          (pa_cons (pe_op op_cat (pv 0) (pe_lst (pa_cons (pv 7) pa_nil))) (pa_cons (pv 6) pa_nil))))))
      (pss_cons (ps_set (i := 10) scSpR.nd rfl (Or.inl rfl) (pe_op op_cat (pv 10) (pe_lc (own := [("_law_row", 11)]) (g := gName 11) (tt := tYes)
          (te := tOp rCat (tOp rCat (tSl (rSlL K) (tVar 0) tNoPart (tPart (tVar 3))) (tLst (tCons (tVar 11) tNil))) (tSl (rSlL K) (tVar 0) (tPart (tOp (rI0 fun i j => .int (i + j)) (tVar 3) (tC (.int 1)))) tNoPart)) (by rfl) scSpR.nd
          (pi_list (pe_lst (pa_cons (pv 8) (pa_cons (pe_slice sl_list (pv 7) po_none (po_some (pe_un un_neg pe_int))) (pa_cons (pe_lst pa_nil) (pa_cons (pv 9) pa_nil))))))
          (blkOk_by (own := [("_law_row", 11)]) (N := nSpR) (sc := defScope sLawSpoiltRows) (by decide +kernel)) (fun _ _ _ _ _ => pg_name (i := 11) scSpR.nd rfl (Or.inl rfl)) (fun _ _ _ _ _ => pts_nil)
          (fun _ _ _ _ _ => pe_op op_cat (pe_op op_cat (pe_slice sl_list (pv 0) po_none (po_some (pv 3))) (pe_lst (pa_cons (pv 11) pa_nil))) (pe_slice sl_list (pv 0) (po_some (pe_op op_add (pv 3) pe_int)) po_none)))))
      (pss_one (ps_ret (pe_ix ix_list (pv 10) (pe_op op_mod (pe_op op_fdiv (pv 1) pe_int) pe_int) (fun _ _ => rfl))))))))))))), ?_⟩
    obtain ⟨as, hRa, ca⟩ := hR.ex
    have al : as.length = rss.length := ca.length
    have n0 : (0 : Int) < ((as.map V.ref).length : Int) := by rw [List.length_map]; omega
    obtain ⟨a, ea, ha⟩ : ∃ a : Nat, c % ((as.map V.ref).length : Int) = a ∧ a < rss.length := by
      have h0 := Int.emod_nonneg c (show ((as.map V.ref).length : Int) ≠ 0 by omega)
      have h1 := Int.emod_lt_of_pos c n0
      rw [List.length_map] at h0 h1 ⊢
      exact ⟨(c % (as.length : Int)).toNat, by omega, by omega⟩
    obtain ⟨b, eb, hb⟩ : ∃ b : Nat, c / 10 % ((as.map V.ref).length : Int) = b ∧ b < rss.length := by
      have h0 := Int.emod_nonneg (c / 10) (show ((as.map V.ref).length : Int) ≠ 0 by omega)
      have h1 := Int.emod_lt_of_pos (c / 10) n0
      rw [List.length_map] at h0 h1 ⊢
      exact ⟨(c / 10 % (as.length : Int)).toNat, by omega, by omega⟩
    have era : rss[a]? = some rss[a] := List.getElem?_eq_getElem ha
    have erb : rss[b]? = some rss[b] := List.getElem?_eq_getElem hb
    generalize rss[a] = ra at era
    generalize rss[b] = rb at erb
    obtain ⟨xa, exa, hxa⟩ := Rw8.at_ ca era
    obtain ⟨xb, exb, hxb⟩ := Rw8.at_ ca erb
    have la := rl ra (List.mem_of_getElem? era)
    have lb := rl rb (List.mem_of_getElem? erb)
    have hq := SqL.of (K := K) hRa
    have ata : atI (as.map V.ref) (a : Int) = some (.ref xa) := atI_nat (by rw [List.getElem?_map, exa]; rfl)
    have atb : atI (as.map V.ref) (b : Int) = some (.ref xb) := atI_nat (by rw [List.getElem?_map, exb]; rfl)
    refine ⟨_, rfl, _, rfl, R, _, rfl, .inl hq, _, _, rfl, rfl, n0, ?_⟩
    dsimp only [tNext, gName, tSeq, tAsg]
    rw [ea]
    refine ⟨_, rfl, _, _, rfl, rfl, ⟨by decide, by decide⟩, _, rfl, R, _, rfl, .inl hq, _, _, rfl, rfl, n0, ?_⟩
    dsimp only [tNext, gName, tSeq, tAsg]
    rw [eb]
    -- made
    have rdH : ∀ x ∈ as.map V.ref, ∃ y, x = .ref y ∧ H y = some (.lst (iL (rdRow H x))) := fun x hx => by
      obtain ⟨as', z1, _, z3⟩ := rows_read hR
      have ee : as'.map V.ref = as.map V.ref := by
        have := z1.symm.trans hRa
        exact HO.lst.inj (Option.some.inj this)
      rw [ee] at z3
      exact z3 x hx
    have eas : (as.map V.ref).map (rdRow H) = rss := by
      obtain ⟨as', z1, z2, _⟩ := rows_read hR
      have ee : as'.map V.ref = as.map V.ref := by
        have := z1.symm.trans hRa
        exact HO.lst.inj (Option.some.inj this)
      rw [ee] at z2
      exact z2
    refine lc_at (K := K) (o := rowO) (p := fun _ => true) (f := rdRow H) rfl (Nat.lt_of_lt_of_eq (by decide : 11 < 12) rfl) hq (by rw [List.length_map]; omega) (fun H1 x Q' _ _ k => yes_ (by exact k H1 (Same.refl H1))) (fun H1 x Q' hx _ s1 q => ?_) (fun H1 M ms s1 hM m1 c1 => ?_)
    · obtain ⟨y, rfl, hy⟩ := rdH x hx
      exact ⟨_, rfl, y, _, rfl, .inl (SqL.of (s1 _ _ hy)), fun l hl => q _ l (Same.put hl) upd_same (.inl hl)⟩
    rw [List.filter_eq_self.mpr (fun _ _ => rfl), eas] at c1
    have ml : ms.length = rss.length := c1.length
    have Mms : ∀ b ∈ ms, b ≠ M := fun y hy e => by
      obtain ⟨i, hi⟩ := List.mem_iff_getElem?.mp hy
      obtain ⟨r, er, hr⟩ := paired_get c1 hi
      have r2 := rl r (List.mem_of_getElem? er)
      rw [e, m1] at hr
      unfold rowO at hr
      cases r with
      | nil => exact absurd r2.1 (by decide)
      | cons z r =>
        cases ms with
        | nil => cases hy
        | cons y2 ms =>
          have := Option.some.inj hr
          cases this
    have xaM : xa ≠ M := ne_of_none hxa hM
    have xbM : xb ≠ M := ne_of_none hxb hM
    have ixm : ∀ (l : List Addr), l.length = rss.length → ∀ k : Nat, k < rss.length → ixN (l.map V.ref).length (k : Int) = some k := fun l hl k hk => by
      unfold ixN
      rw [List.length_map, if_pos (by omega), if_pos (by omega), Int.toNat_natCast]
    refine ⟨_, rfl, _, rfl, R, _, _, _, rfl, rfl, SqL.of (s1 _ _ hRa), atb, _, rfl, _, rfl, R, _, _, _, rfl, rfl, SqL.of (s1 _ _ hRa), ata, by show 2 ≤ sizeLine; decide, fun t ht => ?_⟩
    have s12 := Same.put (o := .tup [.ref xb, .ref xa]) ht
    refine ⟨t, _, rfl, SqT.of upd_same, rfl, ?_⟩
    have m2 := s12 _ _ m1
    have c2 := c1.same s12
    generalize upd H1 t (.tup [.ref xb, .ref xa]) = H2 at s12 m2 c2 ⊢
    have s2 := s1.trans s12
    have rset : ∀ (l : List Addr) (j : Nat) (y : Addr), (l.map V.ref).set j (.ref y) = (l.set j y).map V.ref := fun l j y => by rw [List.map_set]
    refine ⟨_, _, rfl, _, rfl, _, rfl, M, _, _, a, rfl, rfl, m2, ixm ms ml a ha, ?_⟩
    rw [rset]
    have s3 : Same H (upd H2 M (.lst ((ms.set a xb).map V.ref))) := Same.write s2 hM
    have m3 : (upd H2 M (.lst ((ms.set a xb).map V.ref))) M = some (.lst ((ms.set a xb).map V.ref)) := upd_same
    have c3 : Cells rowO (upd H2 M (.lst ((ms.set a xb).map V.ref))) ms rss := c2.write Mms
    generalize upd H2 M (.lst ((ms.set a xb).map V.ref)) = H3 at s3 m3 c3 ⊢
    refine ⟨_, _, rfl, _, rfl, _, rfl, M, _, _, b, rfl, rfl, m3, ixm _ (by rw [List.length_set]; exact ml) b hb, ?_⟩
    rw [rset]
    have s4 : Same H (upd H3 M (.lst (((ms.set a xb).set b xa).map V.ref))) := Same.write s3 hM
    have m4 : (upd H3 M (.lst (((ms.set a xb).set b xa).map V.ref))) M = some (.lst (((ms.set a xb).set b xa).map V.ref)) := upd_same
    have c4 : Cells rowO (upd H3 M (.lst (((ms.set a xb).set b xa).map V.ref))) ms rss := c3.write Mms
    generalize upd H3 M (.lst (((ms.set a xb).set b xa).map V.ref)) = H4 at s4 m4 c4 ⊢
    have lM : ListsAt H4 M ((rss.set a rb).set b ra) := ⟨_, m4, paired_set (paired_set (F := RowIs H4) c4 a (s4 _ _ hxb)) b (s4 _ _ hxa)⟩
    have od0 : Odd8 rss ((rss.set a rb).set b ra) := odd_swap era erb fun r hr => (rl r hr).2
    clear m1 m2 m3 m4 c1 c2 c3 c4 Mms s1 s2 s3 s12
    refine ⟨rfl, ?_⟩
    dsimp only [tNext, gName, tSeq, tAsg]
    -- turned
    have ea1 : (a : Int) + 1 = ((a + 1 : Nat) : Int) := by omega
    have tka : (as.take a).length = a := by rw [List.length_take]; omega
    have dra : (as.drop (a + 1)).length ≤ 10 := by rw [List.length_drop]; omega
    refine ⟨_, rfl, _, rfl, (a : Int), rfl, R, _, rfl, SqL.of (s4 _ _ hRa), fun P1 hP1 => ?_⟩
    rw [cutR_take as (by omega : a ≤ as.length)]
    have s5 := Same.put (o := .lst ((as.take a).map V.ref)) hP1
    have p1 : (upd H4 P1 (.lst ((as.take a).map V.ref))) P1 = some (.lst ((as.take a).map V.ref)) := upd_same
    generalize upd H4 P1 (.lst ((as.take a).map V.ref)) = H5 at s5 p1 ⊢
    have s05 := s4.trans s5
    refine ⟨_, rfl, _, rfl, R, _, _, _, rfl, rfl, SqL.of (s05 _ _ hRa), ata, xa, iL ra, rfl, SqL.of (s05 _ _ hxa), fun Y hY => ?_⟩
    have s56 := Same.put (o := .lst (iL ra).reverse) hY
    have y6 : (upd H5 Y (.lst (iL ra).reverse)) Y = some (.lst (iL ra.reverse)) := by
      rw [upd_same]
      unfold iL
      rw [List.map_reverse]
    generalize upd H5 Y (.lst (iL ra).reverse) = H6 at s56 y6 ⊢
    have s06 := s05.trans s56
    refine ⟨smalle (by show 1 ≤ 1000; decide), fun P2 hP2 => ?_⟩
    have s67 := Same.put (o := .lst [.ref Y]) hP2
    have p2 : (upd H6 P2 (.lst [.ref Y])) P2 = some (.lst (([Y] : List Addr).map V.ref)) := upd_same
    generalize upd H6 P2 (.lst [.ref Y]) = H7 at s67 p2 ⊢
    have s07 := s06.trans s67
    refine ⟨P1, P2, _, _, rfl, rfl, (s56.trans s67) _ _ p1, p2, smalle (by rw [List.length_map, List.length_map, tka]; show _ + 1 ≤ 1000; omega), fun P3 hP3 => ?_⟩
    rw [refs_app]
    have s78 := Same.put (o := .lst ((as.take a ++ [Y]).map V.ref)) hP3
    have p3 : (upd H7 P3 (.lst ((as.take a ++ [Y]).map V.ref))) P3 = some (.lst ((as.take a ++ [Y]).map V.ref)) := upd_same
    generalize upd H7 P3 (.lst ((as.take a ++ [Y]).map V.ref)) = H8 at s78 p3 ⊢
    have s08 := s07.trans s78
    refine ⟨_, rfl, _, rfl, _, _, rfl, rfl, _, rfl, R, _, rfl, SqL.of (s08 _ _ hRa), fun P4 hP4 => ?_⟩
    rw [ea1, cutR_drop as (by omega : a + 1 ≤ as.length)]
    have s89 := Same.put (o := .lst ((as.drop (a + 1)).map V.ref)) hP4
    have p4 : (upd H8 P4 (.lst ((as.drop (a + 1)).map V.ref))) P4 = some (.lst ((as.drop (a + 1)).map V.ref)) := upd_same
    generalize upd H8 P4 (.lst ((as.drop (a + 1)).map V.ref)) = H9 at s89 p4 ⊢
    have s09 := s08.trans s89
    refine ⟨P3, P4, _, _, rfl, rfl, s89 _ _ p3, p4, smalle (by rw [List.length_map, List.length_map, List.length_append, tka]; show _ + 1 + _ ≤ 1000; omega), fun P5 hP5 => ?_⟩
    rw [refs_app]
    have s910 := Same.put (o := .lst ((as.take a ++ [Y] ++ as.drop (a + 1)).map V.ref)) hP5
    have p5 : (upd H9 P5 (.lst ((as.take a ++ [Y] ++ as.drop (a + 1)).map V.ref))) P5 = some (.lst ((as.take a ++ [Y] ++ as.drop (a + 1)).map V.ref)) := upd_same
    generalize upd H9 P5 (.lst ((as.take a ++ [Y] ++ as.drop (a + 1)).map V.ref)) = H10 at s910 p5 ⊢
    have s410 := s5.trans (s56.trans (s67.trans (s78.trans (s89.trans s910))))
    have s010 := s4.trans s410
    have y10 := (s67.trans (s78.trans (s89.trans s910))) _ _ y6
    have mid8 : ∀ (H' : Hp) (D y : Addr) (r' : List Int), Same H H' → H' D = some (.lst ((as.take a ++ [y] ++ as.drop (a + 1)).map V.ref)) → H' y = some (.lst (iL r')) → ListsAt H' D (rss.take a ++ [r'] ++ rss.drop (a + 1)) := fun H' D y r' s' d' y' =>
      ⟨_, d', paired_app (paired_app (paired_take (Rw8.same ca s') a) (.cons y' .nil)) (paired_drop (Rw8.same ca s') (a + 1))⟩
    have lT := mid8 H10 P5 Y ra.reverse s010 p5 y10
    have od3 : Odd8 rss (rss.take a ++ [ra.reverse] ++ rss.drop (a + 1)) := odd_rev era fun r hr => (rl r hr).2
    have lM10 := lM.same s410
    clear p1 p2 p3 p4 p5 y6 y10 s5 s56 s67 s78 s89 s910 s05 s06 s07 s08 s09 s410 lM
    dsimp only [tNext, gName, tSeq, tAsg]
    -- own
    refine ⟨_, rfl, _, rfl, R, _, _, _, rfl, rfl, SqL.of (s010 _ _ hRa), ata, ?_⟩
    dsimp only [tNext, gName, tSeq, tAsg]
    -- through
    obtain ⟨x4, ex4⟩ := atI_back (r := rb) (k := c / 100 % ((iL rb).length : Int)) (Int.emod_nonneg _ (by rw [List.length_map]; omega)) (by
      have := Int.emod_lt_of_pos (c / 100) (show (0 : Int) < ((iL rb).length : Int) by rw [List.length_map]; omega)
      rw [List.length_map] at this ⊢
      exact this)
    have put8 : ∀ x : Int, iL (ra.take 1 ++ [x] ++ ra.drop 1) = iL (putIn ra x) := fun _ => rfl
    have c1t : cutV (iL ra) none (some 1) = iL (ra.take 1) := cutI_take ra (k := 1) (by omega)
    have c1d : cutV (iL ra) (some 1) none = iL (ra.drop 1) := cutI_drop ra (k := 1) (by omega)
    have tk1 : (ra.take 1).length = 1 := by rw [List.length_take]; omega
    have dr1 : (ra.drop 1).length ≤ 12 := by rw [List.length_drop]; omega
    refine ⟨_, rfl, 1, rfl, xa, _, rfl, SqL.of (s010 _ _ hxa), fun Q1 hQ1 => ?_⟩
    rw [c1t]
    have t1 := Same.put (o := .lst (iL (ra.take 1))) hQ1
    have q1 : (upd H10 Q1 (.lst (iL (ra.take 1)))) Q1 = some (.lst (iL (ra.take 1))) := upd_same
    generalize upd H10 Q1 (.lst (iL (ra.take 1))) = G1 at t1 q1 ⊢
    have t01 := s010.trans t1
    refine ⟨_, rfl, _, rfl, R, _, _, _, rfl, rfl, SqL.of (t01 _ _ hRa), atb, 1, rfl, _, rfl, _, _, rfl, rfl, ⟨by decide, by decide⟩, _, rfl, _, rfl, R, _, _, _, rfl, rfl, SqL.of (t01 _ _ hRa), atb, xb, iL rb, rfl, .inl (SqL.of (t01 _ _ hxb)), _, _, rfl, rfl, by rw [List.length_map]; omega, _, _, rfl, rfl, xb, _, _, _, rfl, rfl, SqL.of (t01 _ _ hxb), ex4, smalle (by show 1 ≤ 1000; decide), fun Q2 hQ2 => ?_⟩
    have t12 := Same.put (o := .lst [.int x4]) hQ2
    have q2 : (upd G1 Q2 (.lst [.int x4])) Q2 = some (.lst (iL [x4])) := upd_same
    have q1' := t12 _ _ q1
    generalize upd G1 Q2 (.lst [.int x4]) = G2 at t12 q2 q1' ⊢
    refine ⟨Q1, Q2, _, _, rfl, rfl, q1', q2, smalle (by rw [List.length_map, List.length_map, tk1]; show 1 + 1 ≤ 1000; decide), fun Q3 hQ3 => ?_⟩
    rw [iL_app]
    have t23 := Same.put (o := .lst (iL (ra.take 1 ++ [x4]))) hQ3
    have q3 : (upd G2 Q3 (.lst (iL (ra.take 1 ++ [x4])))) Q3 = some (.lst (iL (ra.take 1 ++ [x4]))) := upd_same
    generalize upd G2 Q3 (.lst (iL (ra.take 1 ++ [x4]))) = G3 at t23 q3 ⊢
    have t03 := t01.trans (t12.trans t23)
    refine ⟨_, rfl, 1, rfl, xa, _, rfl, SqL.of (t03 _ _ hxa), fun Q4 hQ4 => ?_⟩
    rw [c1d]
    have t34 := Same.put (o := .lst (iL (ra.drop 1))) hQ4
    have q4 : (upd G3 Q4 (.lst (iL (ra.drop 1)))) Q4 = some (.lst (iL (ra.drop 1))) := upd_same
    have q3' := t34 _ _ q3
    generalize upd G3 Q4 (.lst (iL (ra.drop 1))) = G4 at t34 q4 q3' ⊢
    refine ⟨Q3, Q4, _, _, rfl, rfl, q3', q4, smalle (by rw [List.length_map, List.length_map, List.length_append, tk1]; show 1 + 1 + _ ≤ 1000; omega), fun Th hTh => ?_⟩
    rw [iL_app, put8]
    have t45 := Same.put (o := .lst (iL (putIn ra x4))) hTh
    have th5 : (upd G4 Th (.lst (iL (putIn ra x4)))) Th = some (.lst (iL (putIn ra x4))) := upd_same
    generalize upd G4 Th (.lst (iL (putIn ra x4))) = G5 at t45 th5 ⊢
    have t05 := t03.trans (t34.trans t45)
    have t15 := t1.trans (t12.trans (t23.trans (t34.trans t45)))
    clear q1 q2 q3 q4 q1' q3' t1 t12 t23 t34 t45 t01 t03
    dsimp only [tNext, gName, tSeq, tAsg]
    -- wild
    refine ⟨_, rfl, 1, rfl, xa, _, rfl, SqL.of (t05 _ _ hxa), fun Q1 hQ1 => ?_⟩
    rw [c1t]
    have t1 := Same.put (o := .lst (iL (ra.take 1))) hQ1
    have q1 : (upd G5 Q1 (.lst (iL (ra.take 1)))) Q1 = some (.lst (iL (ra.take 1))) := upd_same
    generalize upd G5 Q1 (.lst (iL (ra.take 1))) = G6 at t1 q1 ⊢
    refine ⟨_, rfl, _, _, rfl, rfl, ⟨by decide, by decide⟩, _, rfl, _, _, rfl, rfl, _, _, rfl, rfl, by omega, _, _, rfl, rfl, smalle (by show 1 ≤ 1000; decide), fun Q2 hQ2 => ?_⟩
    dsimp only
    generalize c / 100 % ((m : Int) + 2) - 1 = x9
    have t12 := Same.put (o := .lst [.int x9]) hQ2
    have q2 : (upd G6 Q2 (.lst [.int x9])) Q2 = some (.lst (iL [x9])) := upd_same
    have q1' := t12 _ _ q1
    generalize upd G6 Q2 (.lst [.int x9]) = G7 at t12 q2 q1' ⊢
    refine ⟨Q1, Q2, _, _, rfl, rfl, q1', q2, smalle (by rw [List.length_map, List.length_map, tk1]; show 1 + 1 ≤ 1000; decide), fun Q3 hQ3 => ?_⟩
    rw [iL_app]
    have t23 := Same.put (o := .lst (iL (ra.take 1 ++ [x9]))) hQ3
    have q3 : (upd G7 Q3 (.lst (iL (ra.take 1 ++ [x9])))) Q3 = some (.lst (iL (ra.take 1 ++ [x9]))) := upd_same
    generalize upd G7 Q3 (.lst (iL (ra.take 1 ++ [x9]))) = G8 at t23 q3 ⊢
    have t53 := t1.trans (t12.trans t23)
    have t03 := t05.trans t53
    refine ⟨_, rfl, 1, rfl, xa, _, rfl, SqL.of (t03 _ _ hxa), fun Q4 hQ4 => ?_⟩
    rw [c1d]
    have t34 := Same.put (o := .lst (iL (ra.drop 1))) hQ4
    have q4 : (upd G8 Q4 (.lst (iL (ra.drop 1)))) Q4 = some (.lst (iL (ra.drop 1))) := upd_same
    have q3' := t34 _ _ q3
    generalize upd G8 Q4 (.lst (iL (ra.drop 1))) = G9 at t34 q4 q3' ⊢
    refine ⟨Q3, Q4, _, _, rfl, rfl, q3', q4, smalle (by rw [List.length_map, List.length_map, List.length_append, tk1]; show 1 + 1 + _ ≤ 1000; omega), fun Wi hWi => ?_⟩
    rw [iL_app, put8]
    have t45 := Same.put (o := .lst (iL (putIn ra x9))) hWi
    have wi10 : (upd G9 Wi (.lst (iL (putIn ra x9)))) Wi = some (.lst (iL (putIn ra x9))) := upd_same
    generalize upd G9 Wi (.lst (iL (putIn ra x9))) = G10 at t45 wi10 ⊢
    have t510 := t53.trans (t34.trans t45)
    have th10 := t510 _ _ th5
    have lT' := lT.same (t15.trans t510)
    have lM' := lM10.same (t15.trans t510)
    have t010 := t05.trans t510
    clear q1 q2 q3 q4 q1' q3' t1 t12 t23 t34 t45 t53 t03 th5 t510 t15 t05 s010 lT lM10 mid8
    dsimp only [tNext, gName, tSeq, tAsg]
    -- odd
    refine ⟨_, rfl, _, rfl, _, rfl, (a : Int), rfl, R, _, rfl, SqL.of (t010 _ _ hRa), fun P1 hP1 => ?_⟩
    rw [cutR_take as (by omega : a ≤ as.length)]
    have s1 := Same.put (o := .lst ((as.take a).map V.ref)) hP1
    have p1 : (upd G10 P1 (.lst ((as.take a).map V.ref))) P1 = some (.lst ((as.take a).map V.ref)) := upd_same
    generalize upd G10 P1 (.lst ((as.take a).map V.ref)) = H1 at s1 p1 ⊢
    refine ⟨_, rfl, _, rfl, _, _, rfl, rfl, _, rfl, R, _, rfl, SqL.of ((t010.trans s1) _ _ hRa), fun P2 hP2 => ?_⟩
    rw [ea1, cutR_drop as (by omega : a + 1 ≤ as.length)]
    have s12 := Same.put (o := .lst ((as.drop (a + 1)).map V.ref)) hP2
    have p2 : (upd H1 P2 (.lst ((as.drop (a + 1)).map V.ref))) P2 = some (.lst ((as.drop (a + 1)).map V.ref)) := upd_same
    have p1' := s12 _ _ p1
    generalize upd H1 P2 (.lst ((as.drop (a + 1)).map V.ref)) = H2 at s12 p2 p1' ⊢
    refine ⟨P1, P2, _, _, rfl, rfl, p1', p2, smalle (by rw [List.length_map, List.length_map, tka]; omega), fun O1 hO1 => ?_⟩
    rw [refs_app]
    have s23 := Same.put (o := .lst ((as.take a ++ as.drop (a + 1)).map V.ref)) hO1
    have o1 : (upd H2 O1 (.lst ((as.take a ++ as.drop (a + 1)).map V.ref))) O1 = some (.lst ((as.take a ++ as.drop (a + 1)).map V.ref)) := upd_same
    generalize upd H2 O1 (.lst ((as.take a ++ as.drop (a + 1)).map V.ref)) = H3 at s23 o1 ⊢
    have s13 := s1.trans (s12.trans s23)
    refine ⟨_, rfl, _, rfl, smalle (by show 1 ≤ 1000; decide), fun P3 hP3 => ?_⟩
    have s34 := Same.put (o := .lst [.ref xa]) hP3
    have p3 : (upd H3 P3 (.lst [.ref xa])) P3 = some (.lst (([xa] : List Addr).map V.ref)) := upd_same
    generalize upd H3 P3 (.lst [.ref xa]) = H4 at s34 p3 ⊢
    have s14 := s13.trans s34
    refine ⟨R, P3, _, _, rfl, rfl, (t010.trans s14) _ _ hRa, p3, smalle (by rw [List.length_map, List.length_map]; show _ + 1 ≤ 1000; omega), fun O2 hO2 => ?_⟩
    rw [refs_app]
    have s45 := Same.put (o := .lst ((as ++ [xa]).map V.ref)) hO2
    have o2 : (upd H4 O2 (.lst ((as ++ [xa]).map V.ref))) O2 = some (.lst ((as ++ [xa]).map V.ref)) := upd_same
    generalize upd H4 O2 (.lst ((as ++ [xa]).map V.ref)) = H5 at s45 o2 ⊢
    refine ⟨_, rfl, smalle (by show 4 ≤ 1000; decide), fun Od hOd => ?_⟩
    have s56 := Same.put (o := .lst [.ref M, .ref O1, .ref O2, .ref P5]) hOd
    have od6 : (upd H5 Od (.lst [.ref M, .ref O1, .ref O2, .ref P5])) Od = some (.lst (([M, O1, O2, P5] : List Addr).map V.ref)) := upd_same
    have o1' := (s34.trans (s45.trans s56)) _ _ o1
    have o2' := s56 _ _ o2
    have s16 := s14.trans (s45.trans s56)
    generalize upd H5 Od (.lst [.ref M, .ref O1, .ref O2, .ref P5]) = H6 at s16 od6 o1' o2' ⊢
    have s06 := t010.trans s16
    have th6 := s16 _ _ th10
    have wi6 := s16 _ _ wi10
    have lT6 := lT'.same s16
    have lM6 := lM'.same s16
    have l16 : ListsAt H6 O1 (rss.take a ++ rss.drop (a + 1)) := ⟨_, o1', paired_app (paired_take (Rw8.same ca s06) a) (paired_drop (Rw8.same ca s06) (a + 1))⟩
    have l26 : ListsAt H6 O2 (rss ++ [ra]) := ⟨_, o2', paired_app (Rw8.same ca s06) (.cons (s06 _ _ hxa) .nil)⟩
    clear p1 p2 p3 p1' o1 o2 o1' o2' s1 s12 s23 s13 s34 s14 s45 s56 th10 wi10 lT' lM' t010 s16
    dsimp only [tNext, gName, tSeq, tAsg]
    -- and one by one
    refine ⟨_, rfl, _, rfl, _, rfl, 1, rfl, -1, rfl, xa, _, rfl, SqL.of (s06 _ _ hxa), fun Cu hCu => ?_⟩
    rw [cutI_init]
    have v1 := Same.put (o := .lst (iL (ra.take (ra.length - 1)))) hCu
    have cu1 : (upd H6 Cu (.lst (iL (ra.take (ra.length - 1))))) Cu = some (.lst (iL (ra.take (ra.length - 1)))) := upd_same
    generalize upd H6 Cu (.lst (iL (ra.take (ra.length - 1)))) = G1 at v1 cu1 ⊢
    refine ⟨Nat.zero_le _, fun Em hEm => ?_⟩
    have v12 := Same.put (o := .lst []) hEm
    have em2 : (upd G1 Em (.lst [])) Em = some (.lst (iL [])) := upd_same
    generalize upd G1 Em (.lst []) = G2 at v12 em2 ⊢
    refine ⟨_, rfl, smalle (by show 4 ≤ 1000; decide), fun It hIt => ?_⟩
    have v23 := Same.put (o := .lst [.ref Th, .ref Cu, .ref Em, .ref Wi]) hIt
    have it3 : (upd G2 It (.lst [.ref Th, .ref Cu, .ref Em, .ref Wi])) It = some (.lst (([Th, Cu, Em, Wi] : List Addr).map V.ref)) := upd_same
    have cu3 := (v12.trans v23) _ _ cu1
    have em3 := v23 _ _ em2
    have v03 := v1.trans (v12.trans v23)
    generalize upd G2 It (.lst [.ref Th, .ref Cu, .ref Em, .ref Wi]) = G3 at v03 it3 cu3 em3 ⊢
    clear v1 cu1 v12 em2 v23
    have th3 := v03 _ _ th6
    have wi3 := v03 _ _ wi6
    have t03 := s06.trans v03
    refine ⟨It, rfl, ⟨_, SqL.of it3⟩, fun D hD => ?_⟩
    refine lcat_W (K := K) (o := refsO) (p := fun _ => true) (f := fun x => as.take a ++ [toA8 x] ++ as.drop (a + 1)) (Nat.lt_of_lt_of_eq (by decide : 11 < 12) rfl) (SqL.of it3) hD (by show 4 ≤ 900; decide) (fun H7 x Q' _ _ k => yes_ (by exact k H7 (Same.refl H7))) (fun H7 x Q' hx _ s7 q => ?_) (fun H7 bs s7 d7 c7 => ?_)
    · obtain ⟨y, _, rfl⟩ := List.mem_map.mp hx
      have t0 := t03.trans s7
      refine ⟨_, rfl, _, rfl, (a : Int), rfl, R, _, rfl, SqL.of (t0 _ _ hRa), fun R1 hR1 => ?_⟩
      rw [cutR_take as (by omega : a ≤ as.length)]
      have u1 := Same.put (o := .lst ((as.take a).map V.ref)) hR1
      have r1 : (upd H7 R1 (.lst ((as.take a).map V.ref))) R1 = some (.lst ((as.take a).map V.ref)) := upd_same
      generalize upd H7 R1 (.lst ((as.take a).map V.ref)) = K1 at u1 r1 ⊢
      refine ⟨_, rfl, smalle (by show 1 ≤ 1000; decide), fun R2 hR2 => ?_⟩
      have u2 := Same.put (o := .lst [.ref y]) hR2
      have r2 : (upd K1 R2 (.lst [.ref y])) R2 = some (.lst (([y] : List Addr).map V.ref)) := upd_same
      have r1' := u2 _ _ r1
      generalize upd K1 R2 (.lst [.ref y]) = K2 at u2 r2 r1' ⊢
      refine ⟨R1, R2, _, _, rfl, rfl, r1', r2, smalle (by rw [List.length_map, List.length_map, tka]; show _ + 1 ≤ 1000; omega), fun R3 hR3 => ?_⟩
      rw [refs_app]
      have u3 := Same.put (o := .lst ((as.take a ++ [y]).map V.ref)) hR3
      have r3 : (upd K2 R3 (.lst ((as.take a ++ [y]).map V.ref))) R3 = some (.lst ((as.take a ++ [y]).map V.ref)) := upd_same
      generalize upd K2 R3 (.lst ((as.take a ++ [y]).map V.ref)) = K3 at u3 r3 ⊢
      have u03 := u1.trans (u2.trans u3)
      refine ⟨_, rfl, _, rfl, _, _, rfl, rfl, _, rfl, R, _, rfl, SqL.of (u03 _ _ (t0 _ _ hRa)), fun R4 hR4 => ?_⟩
      rw [ea1, cutR_drop as (by omega : a + 1 ≤ as.length)]
      have u4 := Same.put (o := .lst ((as.drop (a + 1)).map V.ref)) hR4
      have r4 : (upd K3 R4 (.lst ((as.drop (a + 1)).map V.ref))) R4 = some (.lst ((as.drop (a + 1)).map V.ref)) := upd_same
      have r3' := u4 _ _ r3
      generalize upd K3 R4 (.lst ((as.drop (a + 1)).map V.ref)) = K4 at u4 r4 r3' ⊢
      have u04 := u03.trans u4
      refine ⟨R3, R4, _, _, rfl, rfl, r3', r4, smalle (by rw [List.length_map, List.length_map, List.length_append, tka]; show _ + 1 + _ ≤ 1000; omega), fun R5 hR5 => ?_⟩
      rw [refs_app]
      exact q _ R5 (u04.trans (Same.put hR5)) upd_same (.inl (u04.free hR5))
    · have b4 : bs.length = 4 := c7.length
      have od7 := (v03.trans s7) _ _ od6
      refine ⟨Od, D, _, _, rfl, rfl, od7, d7, smalle (by rw [List.length_map, List.length_map, b4]; show 4 + 4 ≤ 1000; decide), fun O9 hO9 => ?_⟩
      rw [refs_app]
      have s78 := Same.put (o := .lst (([M, O1, O2, P5] ++ bs).map V.ref)) hO9
      have o9 : (upd H7 O9 (.lst (([M, O1, O2, P5] ++ bs).map V.ref))) O9 = some (.lst (([M, O1, O2, P5] ++ bs).map V.ref)) := upd_same
      have c8 := c7.same s78
      have s68 := v03.trans (s7.trans s78)
      have s38 := s7.trans s78
      generalize upd H7 O9 (.lst (([M, O1, O2, P5] ++ bs).map V.ref)) = H8 at s68 s38 o9 c8 ⊢
      have s08 := s06.trans s68
      have c0 := Int.emod_nonneg (c / 1000) (show (8 : Int) ≠ 0 by decide)
      have c80 := Int.emod_lt_of_pos (c / 1000) (show (0 : Int) < 8 by decide)
      dsimp only [tNext, gName, tSeq, tAsg]
      refine ⟨_, rfl, _, rfl, _, _, rfl, rfl, ⟨by decide, by decide⟩, _, _, rfl, rfl, by show (0 : Int) < 8; decide, ?_⟩
      match bs, b4, c8, o9 with
      | [b0, b1, b2, b3], _, .cons k0 (.cons k1 (.cons k2 (.cons k3 _))), o9 =>
        have midr : ∀ (D' y : Addr) (r' : List Int), H8 D' = some (refsO (as.take a ++ [y] ++ as.drop (a + 1))) → H8 y = some (.lst (iL r')) → ListsAt H8 D' (rss.take a ++ [r'] ++ rss.drop (a + 1)) := fun D' y r' d' y' =>
          ⟨_, d', paired_app (paired_app (paired_take (Rw8.same ca s08) a) (.cons y' .nil)) (paired_drop (Rw8.same ca s08) (a + 1))⟩
        have rl2 : ∀ r ∈ rss, r.length ≤ 12 := fun r hr => (rl r hr).2
        have dd : c / 1000 % 8 = 0 ∨ c / 1000 % 8 = 1 ∨ c / 1000 % 8 = 2 ∨ c / 1000 % 8 = 3 ∨ c / 1000 % 8 = 4 ∨ c / 1000 % 8 = 5 ∨ c / 1000 % 8 = 6 ∨ c / 1000 % 8 = 7 := by omega
        rcases dd with d4 | d4 | d4 | d4 | d4 | d4 | d4 | d4
        · exact ⟨O9, _, _, .ref M, rfl, rfl, SqL.of o9, by rw [d4]; rfl, k H8 M _ s08 (lM6.same s68) od0⟩
        · exact ⟨O9, _, _, .ref O1, rfl, rfl, SqL.of o9, by rw [d4]; rfl, k H8 O1 _ s08 (l16.same s68) (odd_less a rl2)⟩
        · exact ⟨O9, _, _, .ref O2, rfl, rfl, SqL.of o9, by rw [d4]; rfl, k H8 O2 _ s08 (l26.same s68) (odd_more era rl2)⟩
        · exact ⟨O9, _, _, .ref P5, rfl, rfl, SqL.of o9, by rw [d4]; rfl, k H8 P5 _ s08 (lT6.same s68) od3⟩
        · exact ⟨O9, _, _, .ref b0, rfl, rfl, SqL.of o9, by rw [d4]; rfl, k H8 b0 _ s08 (midr b0 Th _ k0 (s38 _ _ th3)) (odd_put x4 era rl)⟩
        · exact ⟨O9, _, _, .ref b1, rfl, rfl, SqL.of o9, by rw [d4]; rfl, k H8 b1 _ s08 (midr b1 Cu _ k1 (s38 _ _ cu3)) (odd_cut _ era rl2)⟩
        · exact ⟨O9, _, _, .ref b2, rfl, rfl, SqL.of o9, by rw [d4]; rfl, k H8 b2 _ s08 (midr b2 Em [] k2 (s38 _ _ em3)) (odd_nil era rl2)⟩
        · exact ⟨O9, _, _, .ref b3, rfl, rfl, SqL.of o9, by rw [d4]; rfl, k H8 b3 _ s08 (midr b3 Wi _ k3 (s38 _ _ wi3)) (odd_put x9 era rl)⟩
end
end Fd
namespace Fd
open PySem PySem.Spec PyProof.Rows L2
theorem ne_row {H : Hp} {b D : Addr} {r : List Int} {as : List Addr} (hb : H b = some (.lst (iL r))) (n : r ≠ []) (hD : H D = some (.lst (as.map V.ref))) : b ≠ D := fun e => by
  subst e
  have z := HO.lst.inj (Option.some.inj (hb.symm.trans hD))
  cases r with
  | nil => exact n rfl
  | cons x r =>
    cases as with
    | nil => cases z
    | cons a as =>
      have := (List.cons.inj z).1
      cases this
theorem rw8_write {H H' : Hp} {bs : List Addr} {rss : List (List Int)} {D : Addr} {u : HO} (h : Rw8 H bs rss) (s : Same H H') (n : ∀ b ∈ bs, b ≠ D) : Rw8 (upd H' D u) bs rss :=
  Cells.write (o := rowO) (Rw8.same h s) n
def spRelaid : Sp := fun vs H Q _ => ∃ (kd : Str) (Hd R : Addr) (hs : List Int) (rss : List (List Int)), vs = [.str kd, .ref Hd, .ref R] ∧ H Hd = some (.lst (iL hs)) ∧ ((kd = "five" ∧ hs.length = 5) ∨ (kd ≠ "five" ∧ hs.length = 6)) ∧ ListsAt H R rss ∧ rss.length ≤ 10 ∧ (∀ r ∈ rss, 2 ≤ r.length ∧ r.length ≤ 12) ∧
  ∀ (H' : Hp) (D : Addr) (rss' : List (List Int)), Same H H' → ListsAt H' D rss' → rss'.length ≤ 10 → (∀ r ∈ rss', r.length ≤ 12) → Q (.ref D) H'
section
variable {P : Program} {w : World} {K : PySem.W.Frag} {mg : Str → Option Value} {base : Heap} {C : Addr}
abbrev nRl : List Str := ["_law_kind", "_law_heads", "_law_rows", "_law_made", "_law_ends_here", "_law_own", "_law_row"]
theorem scRl : FnScope nRl ["_law_kind", "_law_heads", "_law_rows"] (defScope sLawRelaid) := ⟨rfl, rfl, rfl, by decide +kernel, rfl, by decide +kernel, by decide +kernel⟩
theorem c_relaid (T : WTxt K mg C) (L : L8Txt K mg) : C8.Cal P w K mg base 3 "_law_relaid" spRelaid [] := by
  refine cal_of L.fRelaid scRl (fun vs H Q E h => ?_) (fun f cdv A outer s H vs Q E hr h => ?_)
  · obtain ⟨kd, Hd, R, hs, rss, rfl, _⟩ := h
    rfl
  · obtain ⟨kd, Hd, R, hs, rss, rfl, hH, hkl, hR, l10, rl, k⟩ := h
    have hun : (A.deeper (envOfC "_law_relaid" (defScope sLawRelaid) s.heap.objs.size f cdv)).units + 64 < cLine := by
      have := hr.un
      omega
    refine ⟨_, pss_cons (ps_set (i := 3) scRl.nd rfl (Or.inl rfl) (pe_lst pa_nil))
      (pss_cons (ps_for PassesOwn.never rfl (pi_list (C8.pe_c (c_ends T L) hr (by decide) (by rfl) (pa_cons (pv 0) (pa_cons (pv 1) pa_nil)))) (pg_name (i := 4) scRl.nd rfl (Or.inr rfl))
        (pss_cons (ps_setLc (i := 5) (own := [("_law_row", 6)]) (g := gName 6) (tt := tTest (tOp (rEqD K) (tTup (tCons (tOp (rIxL K) (tVar 6) (tC (.int 0))) (tCons (tOp (rIxL K) (tVar 6) (tUn (rU fun i => .int (-i)) (tC (.int 1)))) tNil))) (tVar 4))) (te := tVar 6) (by rfl) scRl.nd rfl rfl (sw_true rfl rfl rfl (by decide +kernel)) (pi_list (pv 2))
            (blkOk_by (own := [("_law_row", 6)]) (N := nRl) (sc := defScope sLawRelaid) (by decide +kernel)) (fun _ _ _ _ _ => pg_name (i := 6) scRl.nd rfl (Or.inl rfl))
            (fun _ _ _ _ _ => pts_one (pt_cmpR (op_eqD hun) (pe_tup (pa_cons (pe_ix ix_list (pv 6) pe_int (fun _ _ => rfl)) (pa_cons (pe_ix ix_list (pv 6) (pe_un un_neg pe_int) (fun _ _ => rfl)) pa_nil))) (pv 4) (nomark _))) (fun _ _ _ _ _ => pv 6))
        (pss_cons (ps_set (i := 5) scRl.nd rfl (Or.inl rfl) (pe_op op_cat (pv 5) (pe_lc (own := [("_law_row", 6)]) (g := gName 6) (tt := tTest (tOp (rEqD K) (tTup (tCons (tOp (rIxL K) (tVar 6) (tUn (rU fun i => .int (-i)) (tC (.int 1)))) (tCons (tOp (rIxL K) (tVar 6) (tC (.int 0))) tNil))) (tVar 4))) (te := tListRev K (tVar 6)) (by rfl) scRl.nd (pi_list (pv 2))
            (blkOk_by (own := [("_law_row", 6)]) (N := nRl) (sc := defScope sLawRelaid) (by decide +kernel)) (fun _ _ _ _ _ => pg_name (i := 6) scRl.nd rfl (Or.inl rfl))
            (fun _ _ _ _ _ => pts_one (pt_cmpR (op_eqD hun) (pe_tup (pa_cons (pe_ix ix_list (pv 6) (pe_un un_neg pe_int) (fun _ _ => rfl)) (pa_cons (pe_ix ix_list (pv 6) pe_int (fun _ _ => rfl)) pa_nil))) (pv 4) (nomark _))) (fun _ _ _ _ _ => pe_listRev rfl (by rfl) T.list (by rfl) L.rev (pv 6)))))
        (pss_cons (ps_if (pt_cmpR op_eq (pe_ix ix_tup (pv 4) pe_int (fun _ _ => rfl)) (pe_ix ix_tup (pv 4) pe_int (fun _ _ => rfl)) (nomark _))
            (pss_one (ps_setLc (i := 5) (own := [("_law_row", 6)]) (g := gName 6) (tt := tAnd (tTest (tOp rEq (tOp (rIxL K) (tVar 6) (tC (.int 0))) (tOp (rIxT K) (tVar 4) (tC (.int 0))))) (tTest (tOp (rIn K true) (tOp (rIxL K) (tVar 6) (tUn (rU fun i => .int (-i)) (tC (.int 1)))) (tVar 1)))) (te := tLst (tCons (tOp (rIxT K) (tVar 4) (tC (.int 0))) (tCons (tOp (rIxL K) (tVar 6) (tUn (rU fun i => .int (-i)) (tC (.int 1)))) (tCons (tOp (rIxT K) (tVar 4) (tC (.int 0))) tNil)))) (by rfl) scRl.nd rfl rfl (sw_true rfl rfl rfl (by decide +kernel)) (pi_list (pv 2))
              (blkOk_by (own := [("_law_row", 6)]) (N := nRl) (sc := defScope sLawRelaid) (by decide +kernel)) (fun _ _ _ _ _ => pg_name (i := 6) scRl.nd rfl (Or.inl rfl))
              (fun _ _ _ _ _ => pts_one (PW.pt (pw_and (pt_cmpR op_eq (pe_ix ix_list (pv 6) pe_int (fun _ _ => rfl)) (pe_ix ix_tup (pv 4) pe_int (fun _ _ => rfl)) (nomark _)) (pw_and1 (pt_cmpR op_notIn_seq (pe_ix ix_list (pv 6) (pe_un un_neg pe_int) (fun _ _ => rfl)) (pv 1) (by rfl))))))
              (fun _ _ _ _ _ => pe_lst (pa_cons (pe_ix ix_tup (pv 4) pe_int (fun _ _ => rfl)) (pa_cons (pe_ix ix_list (pv 6) (pe_un un_neg pe_int) (fun _ _ => rfl)) (pa_cons (pe_ix ix_tup (pv 4) pe_int (fun _ _ => rfl)) pa_nil)))))) pss_nil)
        (pss_one (ps_expr (pe_bm PySem.F.plainAttrs_list PySem.F.slot_list_append PySem.F.type_list_append mt_append (pv 3) (pa_cons (pe_ix ix_list (pe_op op_cat (pv 5) (pe_lst (pa_cons (pe_lst pa_nil) pa_nil))) pe_int (fun _ _ => rfl)) pa_nil))))))))
      (pss_one (ps_ret (pv 3)))), ?_⟩
    obtain ⟨as, hRa, eas, rdH⟩ := rows_read hR
    have hq := SqL.of (K := K) hRa
    have asl : as.length = rss.length := by rw [← eas]; simp
    have rlx : ∀ x ∈ as.map V.ref, 2 ≤ (rdRow H x).length ∧ (rdRow H x).length ≤ 12 := fun x hx => rl _ (rdRow_mem eas hx)
    refine ⟨Nat.zero_le _, fun D hD => ?_⟩
    have s1 : Same H (upd H D (.lst [])) := Same.put hD
    have d1 : (upd H D (.lst [])) D = some (.lst (([] : List Addr).map V.ref)) := upd_same
    generalize upd H D (.lst []) = H1 at s1 d1 ⊢
    refine ⟨_, rfl, _, rfl, kd, Hd, hs, rfl, s1 _ _ hH, hkl, fun H2 En es s2 hEn e2 ce => ⟨En, rfl, ⟨_, SqL.of e2⟩, ?_⟩⟩
    have pl := pairsL_len2 hkl
    have esl := ce.length
    have enD : En ≠ D := fun e => by
      have z := s2 _ _ d1
      rw [← e, e2] at z
      have z2 := HO.lst.inj (Option.some.inj z)
      have : es = [] := by
        cases es with
        | nil => rfl
        | cons a es => cases z2
      rw [this] at esl
      have : ([] : List Addr).length = 0 := rfl
      omega
    refine for_list (K := K) (a := En) (xs := es.map V.ref) (fun i σ H3 => ∃ v4 v5 : Option V, σ = [some (.str kd), some (.ref Hd), some (.ref R), some (.ref D), v4, v5, none] ∧ Same H H3 ∧ (∀ b o, H2 b = some o → b ≠ D → H3 b = some o) ∧ ∃ (bs : List Addr) (rss' : List (List Int)), H3 D = some (.lst (bs.map V.ref)) ∧ Rw8 H3 bs rss' ∧ (∀ b ∈ bs, b ≠ D) ∧ rss'.length = i ∧ ∀ r ∈ rss', r.length ≤ 12)
      ⟨none, none, rfl, s1.trans s2, fun b o e _ => e, [], [], s2 _ _ d1, .nil, fun b hb => (by cases hb), rfl, fun r hr => by cases hr⟩ (fun i σ H3 _ ⟨_, _, _, s3, keep, _⟩ => SqL.of (keep _ _ e2 enD)) ?_ ?_
    · rintro i x σ H3 hi ⟨v4, v5, rfl, s3, keep, bs, rss', dD, rc, n2, rl', r12⟩
      obtain ⟨c, e, rfl, hc3⟩ : ∃ (c : Addr) (e : Tie), x = .ref c ∧ H3 c = some (tupO e) := by
        rw [List.getElem?_map] at hi
        cases eb : es[i]? with
        | none =>
          rw [eb] at hi
          cases hi
        | some y =>
          rw [eb] at hi
          obtain ⟨t, et, hy⟩ := paired_get ce eb
          have yD : y ≠ D := fun z => by
            have z1 := s2 _ _ d1
            rw [← z, hy] at z1
            cases z1
          exact ⟨y, t, (Option.some.inj hi).symm, keep _ _ hy yD⟩
      have il : i < 10 := by
        have := (List.getElem?_eq_some_iff.mp hi).1
        rw [List.length_map] at this
        omega
      try dsimp only [tNext, gName, tSeq, tAsg]
      -- own
      refine lc_at (K := K) (o := rowO) (p := fun x => decide (endsOf (rdRow H x) = e)) (f := rdRow H) rfl (Nat.lt_of_lt_of_eq (by decide : 6 < 7) rfl) (s3.seq hq) (by rw [List.length_map]; omega) (fun H4 x Q' hx s4 q => ?_) (fun H4 x Q' hx _ s4 q => ?_) (fun H4 O1 o1s s4 hO1 d4 c4 => ?_)
      · obtain ⟨y, rfl, hy⟩ := rdH x hx
        have l := rlx _ hx
        have hb2 := SqL.of (K := K) (s4 _ _ (s3 _ _ hy))
        refine ⟨_, rfl, y, _, 0, _, rfl, rfl, hb2, atI_first (by omega), _, rfl, 1, rfl, y, _, -1, _, rfl, rfl, hb2, atI_last (by omega), by show 2 ≤ sizeLine; decide, fun t ht => ?_⟩
        refine ⟨_, rfl, prd (endsOf (rdRow H (.ref y))), prd e, dp_pair ⟨t, rfl, upd_same⟩, dp_pair ⟨c, rfl, (Same.put ht) _ _ (s4 _ _ hc3)⟩, prd_shaped _, prd_shaped _, _, rfl, ?_⟩
        rw [prd_eqv]
        exact q _ (Same.put ht)
      · obtain ⟨y, rfl, hy⟩ := rdH x hx
        exact ⟨_, rfl, q H4 y (Same.refl H4) (s4 _ _ (s3 _ _ hy)) (.inr (by rw [s3 _ _ hy]; intro z; cases z))⟩
      have s04 := s3.trans s4
      have hc4 := s4 _ _ hc3
      try dsimp only [tNext, gName, tSeq, tAsg]
      -- and those turned
      refine ⟨_, rfl, ?_⟩
      refine lc_at (K := K) (o := rowO) (p := fun x => decide ((lastI (rdRow H x), (rdRow H x).getD 0 0) = e)) (f := fun x => (rdRow H x).reverse) rfl (Nat.lt_of_lt_of_eq (by decide : 6 < 7) rfl) (s04.seq hq) (by rw [List.length_map]; omega) (fun H5 x Q' hx s5 q => ?_) (fun H5 x Q' hx _ s5 q => ?_) (fun H5 O2 o2s s5 hO2 d5 c5 => ?_)
      · obtain ⟨y, rfl, hy⟩ := rdH x hx
        have l := rlx _ hx
        have hb2 := SqL.of (K := K) (s5 _ _ (s04 _ _ hy))
        refine ⟨_, rfl, 1, rfl, y, _, -1, _, rfl, rfl, hb2, atI_last (by omega), _, rfl, y, _, 0, _, rfl, rfl, hb2, atI_first (by omega), by show 2 ≤ sizeLine; decide, fun t ht => ?_⟩
        refine ⟨_, rfl, prd (lastI (rdRow H (.ref y)), (rdRow H (.ref y)).getD 0 0), prd e, dp_pair ⟨t, rfl, upd_same⟩, dp_pair ⟨c, rfl, (Same.put ht) _ _ (s5 _ _ hc4)⟩, prd_shaped _, prd_shaped _, _, rfl, ?_⟩
        rw [prd_eqv]
        exact q _ (Same.put ht)
      · obtain ⟨y, rfl, hy⟩ := rdH x hx
        refine ⟨_, rfl, y, _, rfl, SqL.of (s5 _ _ (s04 _ _ hy)), fun l hl => ?_⟩
        refine q _ l (Same.put hl) ?_ (.inl hl)
        rw [upd_same]
        unfold rowO iL
        rw [List.map_reverse]
      have s05 := s04.trans s5
      have fl1 := List.length_filter_le (fun x => decide (endsOf (rdRow H x) = e)) (as.map V.ref)
      have fl2 := List.length_filter_le (fun x => decide ((lastI (rdRow H x), (rdRow H x).getD 0 0) = e)) (as.map V.ref)
      have cl1 := c4.length
      have cl2 := c5.length
      rw [List.length_map] at cl1 cl2
      rw [List.length_map] at fl1 fl2
      refine ⟨O1, O2, _, _, rfl, rfl, s5 _ _ d4, d5, smalle (by rw [List.length_map, List.length_map]; omega), fun O3 hO3 => ?_⟩
      rw [refs_app]
      have s56 := Same.put (o := .lst ((o1s ++ o2s).map V.ref)) hO3
      have d6 : (upd H5 O3 (.lst ((o1s ++ o2s).map V.ref))) O3 = some (.lst ((o1s ++ o2s).map V.ref)) := upd_same
      have c6 := paired_app (c4.same (s5.trans s56)) (c5.same s56)
      generalize upd H5 O3 (.lst ((o1s ++ o2s).map V.ref)) = H6 at s56 d6 c6 ⊢
      have s36 := s4.trans (s5.trans s56)
      have s06 := s3.trans s36
      have hc6 := s36 _ _ hc3
      have rows6 : ∀ r ∈ ((as.map V.ref).filter fun x => decide (endsOf (rdRow H x) = e)).map (rdRow H) ++ ((as.map V.ref).filter fun x => decide ((lastI (rdRow H x), (rdRow H x).getD 0 0) = e)).map (fun x => (rdRow H x).reverse), 2 ≤ r.length ∧ r.length ≤ 12 := fun r hr => by
        rcases List.mem_append.mp hr with q | q
        · obtain ⟨x, hx, rfl⟩ := List.mem_map.mp q
          exact rlx x (List.mem_filter.mp hx).1
        · obtain ⟨x, hx, rfl⟩ := List.mem_map.mp q
          rw [List.length_reverse]
          exact rlx x (List.mem_filter.mp hx).1
      generalize ((as.map V.ref).filter fun x => decide (endsOf (rdRow H x) = e)).map (rdRow H) ++ ((as.map V.ref).filter fun x => decide ((lastI (rdRow H x), (rdRow H x).getD 0 0) = e)).map (fun x => (rdRow H x).reverse) = orss6 at c6 rows6
      have ol6 : (o1s ++ o2s).length ≤ 20 := by rw [List.length_append]; omega
      generalize o1s ++ o2s = os6 at d6 c6 ol6
      try dsimp only [tNext, gName, tSeq, tAsg]
      have tq := SqT.of (K := K) hc6
      have at0 : atI [V.int e.1, V.int e.2] 0 = some (.int e.1) := rfl
      have at1 : atI [V.int e.1, V.int e.2] 1 = some (.int e.2) := rfl
      refine ⟨_, rfl, c, _, 0, _, rfl, rfl, tq, at0, _, rfl, c, _, 1, _, rfl, rfl, tq, at1, rfl, _, rfl, ?_⟩
      refine ite2 (fun cc => ?_) (fun cc => ?_)
      · -- a ring to a point between
        try dsimp only [tNext, gName, tSeq, tAsg]
        have hq6 := s06.seq hq
        refine lc_at (K := K) (o := rowO) (p := fun x => decide ((rdRow H x).getD 0 0 = e.1) && !decide (lastI (rdRow H x) ∈ hs)) (f := fun x => [e.1, lastI (rdRow H x), e.1]) rfl (Nat.lt_of_lt_of_eq (by decide : 6 < 7) rfl) hq6 (by rw [List.length_map]; omega) (fun H7 x Q' hx s7 q => ?_) (fun H7 x Q' hx _ s7 q => ?_) (fun HO O os sO6 hO oO oc => ?_)
        · obtain ⟨y, rfl, hy⟩ := rdH x hx
          have l := rlx _ hx
          have hb2 := SqL.of (K := K) (s7 _ _ (s06 _ _ hy))
          have tq7 := SqT.of (K := K) (s7 _ _ hc6)
          refine ⟨_, rfl, y, _, 0, _, rfl, rfl, hb2, atI_first (by omega), _, rfl, c, _, 0, _, rfl, rfl, tq7, at0, rfl, _, rfl, ?_⟩
          have z := q H7 (Same.refl H7)
          by_cases c7 : (rdRow H (.ref y)).getD 0 0 = e.1
          · refine yep_ (decide_eq_true (by rw [c7])) ?_
            refine ⟨_, rfl, 1, rfl, y, _, -1, _, rfl, rfl, hb2, atI_last (by omega), _, rfl, Hd, iL hs, rfl, .inl (SqL.of ((s06.trans s7) _ _ hH)), rfl, flat_ints _, ?_⟩
            rw [if_pos rfl, inV_ints]
            rw [decide_eq_true c7, Bool.true_and] at z
            exact ⟨_, rfl, z⟩
          · refine no_ (decide_eq_false fun z => c7 (V.int.inj z)) ?_
            rw [decide_eq_false c7, Bool.false_and] at z
            exact z
        · obtain ⟨y, rfl, hy⟩ := rdH x hx
          have l := rlx _ hx
          have hb2 := SqL.of (K := K) (s7 _ _ (s06 _ _ hy))
          have tq7 := SqT.of (K := K) (s7 _ _ hc6)
          exact ⟨_, rfl, c, _, 0, _, rfl, rfl, tq7, at0, _, rfl, 1, rfl, y, _, -1, _, rfl, rfl, hb2, atI_last (by omega), _, rfl, c, _, 0, _, rfl, rfl, tq7, at0, smalle (by show 3 ≤ 1000; decide), fun l hl => q _ l (Same.put hl) upd_same (.inl hl)⟩
        · have sO := s36.trans sO6
          have fl7 := List.length_filter_le (fun x => decide ((rdRow H x).getD 0 0 = e.1) && !decide (lastI (rdRow H x) ∈ hs)) (as.map V.ref)
          have cl7 := oc.length
          rw [List.length_map] at cl7
          rw [List.length_map] at fl7
          have os20 : os.length ≤ 20 := by omega
          have olen : ∀ r ∈ ((as.map V.ref).filter fun x => decide ((rdRow H x).getD 0 0 = e.1) && !decide (lastI (rdRow H x) ∈ hs)).map (fun x => [e.1, lastI (rdRow H x), e.1]), 2 ≤ r.length ∧ r.length ≤ 12 := fun r hr => by
            obtain ⟨x, _, rfl⟩ := List.mem_map.mp hr
            exact ⟨by show 2 ≤ 3; decide, by show 3 ≤ 12; decide⟩
          generalize ((as.map V.ref).filter fun x => decide ((rdRow H x).getD 0 0 = e.1) && !decide (lastI (rdRow H x) ∈ hs)).map (fun x => [e.1, lastI (rdRow H x), e.1]) = orss at oc olen
          -- made.append((own + [[]])[0])
          have ol : os.length = orss.length := oc.length
          have dO := sO _ _ dD
          have nO : ∀ b ∈ bs, b ≠ D := n2
          refine ⟨_, rfl, .inl ⟨rfl, _, SqL.of dO⟩, _, rfl, Nat.zero_le _, fun N1 hN1 => ?_⟩
          have u1 := Same.put (o := .lst []) hN1
          have n1e : (upd HO N1 (.lst [])) N1 = some (.lst (iL [])) := upd_same
          generalize upd HO N1 (.lst []) = G1 at u1 n1e ⊢
          refine ⟨smalle (by show 1 ≤ 1000; decide), fun N2 hN2 => ?_⟩
          have u2 := Same.put (o := .lst [.ref N1]) hN2
          have n2e : (upd G1 N2 (.lst [.ref N1])) N2 = some (.lst (([N1] : List Addr).map V.ref)) := upd_same
          have n1f := u2 _ _ n1e
          generalize upd G1 N2 (.lst [.ref N1]) = G2 at u2 n2e n1f ⊢
          have u02 := u1.trans u2
          refine ⟨O, N2, _, _, rfl, rfl, u02 _ _ oO, n2e, smalle (by rw [List.length_map, List.length_map]; show _ + 1 ≤ 1000; omega), fun N3 hN3 => ?_⟩
          rw [refs_app]
          have u3 := Same.put (o := .lst ((os ++ [N1]).map V.ref)) hN3
          have n3e : (upd G2 N3 (.lst ((os ++ [N1]).map V.ref))) N3 = some (.lst ((os ++ [N1]).map V.ref)) := upd_same
          have n1g := u3 _ _ n1f
          generalize upd G2 N3 (.lst ((os ++ [N1]).map V.ref)) = G3 at u3 n3e n1g ⊢
          have u03 := u02.trans u3
          have dD3 := u03 _ _ dO
          have sG : Same H G3 := s3.trans (sO.trans u03)
          obtain ⟨z, r, ez, hz, hzr, hzl, hzD⟩ : ∃ (z : Addr) (r : List Int), atI ((os ++ [N1]).map V.ref) 0 = some (.ref z) ∧ G3 z = some (.lst (iL r)) ∧ True ∧ r.length ≤ 12 ∧ z ≠ D := by
            match os, orss, oc with
            | [], [], _ => exact ⟨N1, [], atI_nat (j := 0) rfl, n1g, trivial, by decide, (ne_of_none dO hN1).symm⟩
            | o :: os, r :: orss, .cons h t =>
              have hh := u03 _ _ h
              have o2 := olen r List.mem_cons_self
              exact ⟨o, r, atI_nat (j := 0) rfl, hh, trivial, o2.2, ne_row hh (fun e => by rw [e] at o2; exact absurd o2.1 (by decide)) dD3⟩
          refine ⟨N3, _, 0, _, rfl, rfl, SqL.of n3e, ez, D, _, _, rfl, rfl, dD3, by rw [List.length_map]; exact small (by have := rc.length; omega), ?_⟩
          refine ⟨_, _, rfl, Same.write sG hD, fun b o e e2 => by rw [upd_ne e2]; exact (sO.trans u03) _ _ (keep b o e e2), bs ++ [z], rss' ++ [r], by rw [upd_same, List.map_append]; rfl, ?_, fun b hb => ?_, by rw [List.length_append, rl']; rfl, fun r' hr' => ?_⟩
          · refine Paired.snoc (rw8_write rc (sO.trans u03) nO) ?_
            show upd G3 D _ z = _
            rw [upd_ne hzD]
            exact hz
          · rcases List.mem_append.mp hb with q | q
            · exact n2 b q
            · rw [List.mem_singleton.mp q]
              exact hzD
          · rcases List.mem_append.mp hr' with q | q
            · exact r12 r' q
            · rw [List.mem_singleton.mp q]
              exact hzl
      · generalize H6 = HO at *
        generalize O3 = O at *
        have oO := d6
        have oc := c6
        have olen := rows6
        have os20 := ol6
        have sO := s36
        generalize os6 = os at *
        generalize orss6 = orss at *
        -- made.append((own + [[]])[0])
        have ol : os.length = orss.length := oc.length
        have dO := sO _ _ dD
        have nO : ∀ b ∈ bs, b ≠ D := n2
        refine ⟨_, rfl, .inl ⟨rfl, _, SqL.of dO⟩, _, rfl, Nat.zero_le _, fun N1 hN1 => ?_⟩
        have u1 := Same.put (o := .lst []) hN1
        have n1e : (upd HO N1 (.lst [])) N1 = some (.lst (iL [])) := upd_same
        generalize upd HO N1 (.lst []) = G1 at u1 n1e ⊢
        refine ⟨smalle (by show 1 ≤ 1000; decide), fun N2 hN2 => ?_⟩
        have u2 := Same.put (o := .lst [.ref N1]) hN2
        have n2e : (upd G1 N2 (.lst [.ref N1])) N2 = some (.lst (([N1] : List Addr).map V.ref)) := upd_same
        have n1f := u2 _ _ n1e
        generalize upd G1 N2 (.lst [.ref N1]) = G2 at u2 n2e n1f ⊢
        have u02 := u1.trans u2
        refine ⟨O, N2, _, _, rfl, rfl, u02 _ _ oO, n2e, smalle (by rw [List.length_map, List.length_map]; show _ + 1 ≤ 1000; omega), fun N3 hN3 => ?_⟩
        rw [refs_app]
        have u3 := Same.put (o := .lst ((os ++ [N1]).map V.ref)) hN3
        have n3e : (upd G2 N3 (.lst ((os ++ [N1]).map V.ref))) N3 = some (.lst ((os ++ [N1]).map V.ref)) := upd_same
        have n1g := u3 _ _ n1f
        generalize upd G2 N3 (.lst ((os ++ [N1]).map V.ref)) = G3 at u3 n3e n1g ⊢
        have u03 := u02.trans u3
        have dD3 := u03 _ _ dO
        have sG : Same H G3 := s3.trans (sO.trans u03)
        obtain ⟨z, r, ez, hz, hzr, hzl, hzD⟩ : ∃ (z : Addr) (r : List Int), atI ((os ++ [N1]).map V.ref) 0 = some (.ref z) ∧ G3 z = some (.lst (iL r)) ∧ True ∧ r.length ≤ 12 ∧ z ≠ D := by
          match os, orss, oc with
          | [], [], _ => exact ⟨N1, [], atI_nat (j := 0) rfl, n1g, trivial, by decide, (ne_of_none dO hN1).symm⟩
          | o :: os, r :: orss, .cons h t =>
            have hh := u03 _ _ h
            have o2 := olen r List.mem_cons_self
            exact ⟨o, r, atI_nat (j := 0) rfl, hh, trivial, o2.2, ne_row hh (fun e => by rw [e] at o2; exact absurd o2.1 (by decide)) dD3⟩
        refine ⟨N3, _, 0, _, rfl, rfl, SqL.of n3e, ez, D, _, _, rfl, rfl, dD3, by rw [List.length_map]; exact small (by have := rc.length; omega), ?_⟩
        refine ⟨_, _, rfl, Same.write sG hD, fun b o e e2 => by rw [upd_ne e2]; exact (sO.trans u03) _ _ (keep b o e e2), bs ++ [z], rss' ++ [r], by rw [upd_same, List.map_append]; rfl, ?_, fun b hb => ?_, by rw [List.length_append, rl']; rfl, fun r' hr' => ?_⟩
        · refine Paired.snoc (rw8_write rc (sO.trans u03) nO) ?_
          show upd G3 D _ z = _
          rw [upd_ne hzD]
          exact hz
        · rcases List.mem_append.mp hb with q | q
          · exact n2 b q
          · rw [List.mem_singleton.mp q]
            exact hzD
        · rcases List.mem_append.mp hr' with q | q
          · exact r12 r' q
          · rw [List.mem_singleton.mp q]
            exact hzl
    · rintro σ H3 ⟨v4, v5, rfl, s3, keep, bs, rss', dD, rc, n2, rl', r12⟩
      rw [List.length_map, esl] at rl'
      exact ⟨_, rfl, k H3 D rss' s3 ⟨bs, dD, rc⟩ (by omega) r12⟩
end
end Fd
namespace Fd
open PySem PySem.Spec PyProof.Rows L2
/-! ### a < b < c < d -/
def tChain3 (r r' r'' : R2) (ta tb tc td : TE) : TE := fun σ H Q => ta σ H fun x H1 => tb σ H1 fun y H2 => r x y H2 fun z H3 => ∃ k, z = .bl k ∧
  (if k = true then tc σ H3 fun w' H4 => r' y w' H4 fun z' H5 => ∃ k', z' = .bl k' ∧ (if k' = true then td σ H5 fun v H6 => r'' w' v H6 Q else Q (.bl false) H5) else Q (.bl false) H3)
section
variable {X : Cx} {a b c d : Expr} {ta tb tc td : TE} {pos : Pos}
theorem pt_chain3 {op op' op'' : CmpOp} {r r' r'' : R2} (ho : OpR X (compareOp op) r) (ho' : OpR X (compareOp op') r') (ho'' : OpR X (compareOp op'') r'') (ha : PE X a ta) (hb : PE X b tb) (hc : PE X c tc) (hd : PE X d td)
    (hm : lastMarks [op, op', op''] [b, c, d] = false := by with_unfolding_all rfl) : PT X (.Compare a [op, op', op''] [b, c, d] pos) (tTest (tChain3 r r' r'' ta tb tc td)) := by
  refine ⟨fun pins s σ H Q I h => ?_⟩
  refine isTrue_chain (thn (ha.run pins s σ H _ I h) fun v s1 ⟨x, H1, I1, r1, q1⟩ => test_link (thn (hb.run pins s1 σ H1 _ I1 q1) fun u s2 ⟨y, H2, I2, r2, q2⟩ =>
    thn (ho pins s2 σ H2 x y v u _ I2 r1 r2 q2) fun e s3 ⟨z, H3, I3, r3, k, e1, q3⟩ => ?_)) hm
  subst e1
  cases r3
  refine wpAny_truthy_bool ?_
  cases k with
  | false =>
    obtain ⟨k', e', q'⟩ := q3
    cases e'
    exact ite_ff ⟨H3, I3, q'⟩
  | true =>
    refine ite_tt (test_link (thn (hc.run pins s3 σ H3 _ I3 q3) fun w' s4 ⟨z', H4, I4, r4, q4⟩ => thn (ho' pins s4 σ H4 y z' u w' _ I4 r2 r4 q4) fun e' s5 ⟨z2, H5, I5, r5, k2, e2, q5⟩ => ?_))
    subst e2
    cases r5
    refine wpAny_truthy_bool ?_
    cases k2 with
    | false =>
      obtain ⟨k', e', q'⟩ := q5
      cases e'
      exact ite_ff ⟨H5, I5, q'⟩
    | true =>
      refine ite_tt (test_last (thn (hd.run pins s5 σ H5 _ I5 q5) fun w2 s6 ⟨z3, H6, I6, r6, q6⟩ => thn (ho'' pins s6 σ H6 z' z3 w' w2 _ I6 r4 r6 q6) fun e3 s7 ⟨z4, H7, I7, r7, k4, e4, q7⟩ => ?_))
      subst e4
      cases r7
      exact wpAny_truthy_bool ⟨H7, I7, q7⟩
end
def hdD (hs : List Int) (rss : List (List Int)) : PyData := .list [rowD hs, lstD rss]
theorem hdD_shaped (hs : List Int) (rss : List (List Int)) : SeqAt.shaped (hdD hs rss) = true := by
  have h := rows_depth rss
  have l1 : (rowD hs).canLay0 = true := by simp only [rowD, PyData.canLay0]; exact inl_lay hs
  have l2 : (lstD rss).canLay0 = true := by simp only [lstD, PyData.canLay0]; exact rows_lay rss
  have d1 : (rowD hs).depth = 1 := by simp only [rowD, PyData.depth, inl_depth]
  have d2 : (lstD rss).depth ≤ 2 := by simp only [lstD, PyData.depth]; omega
  refine shaped_by ?_ ?_
  · simp [hdD, PyData.canLay0, PyData.canLayAll0, l1, l2]
  · simp only [hdD, PyData.depth, PyData.depthAll]
    omega
theorem hdD_refl (hs : List Int) (rss : List (List Int)) : PyData.eqv (hdD hs rss) (hdD hs rss) = true := SeqAt.eqv_refl _ (SeqAt.canLay_of_shaped (hdD_shaped hs rss))
/-- a list of rows is no list of pairs -/
theorem ne_lists {H : Hp} {R Ti : Addr} {rss : List (List Int)} {bs : List Addr} {ts : List Tie} (h : ListsAt H R rss) (l : 1 ≤ rss.length) (hT : H Ti = some (.lst (bs.map V.ref))) (c : Cells tupO H bs ts) : R ≠ Ti := fun e => by
  subst e
  obtain ⟨as, h1, h2⟩ := h.ex
  have z := HO.lst.inj (Option.some.inj (h1.symm.trans hT))
  cases h2 with
  | nil => exact absurd l (by decide)
  | cons ha t1 =>
    cases c with
    | nil => cases z
    | cons hb t2 =>
      have e2 := V.ref.inj (List.cons.inj z).1
      rw [← e2] at hb
      have e3 := (show H _ = some (.lst (iL _)) from ha).symm.trans hb
      cases e3
theorem lists_write {H : Hp} {R Ti : Addr} {rss : List (List Int)} {bs : List Addr} {u : HO} (h : ListsAt H R rss) (n : R ≠ Ti) (hT : H Ti = some (.lst (bs.map V.ref))) (l : ∀ r ∈ rss, 1 ≤ r.length) : ListsAt (upd H Ti u) R rss := by
  obtain ⟨as, h1, h2⟩ := h.ex
  refine ⟨as, by rw [upd_ne n]; exact h1, ?_⟩
  refine Cells.write (o := rowO) h2 fun b hb => ?_
  obtain ⟨i, hi⟩ := List.mem_iff_getElem?.mp hb
  obtain ⟨r, er, hr⟩ := paired_get h2 hi
  have r1 := l r (List.mem_of_getElem? er)
  exact ne_row hr (fun e => by rw [e] at r1; exact absurd r1 (by decide)) hT
theorem refs_erase : ∀ (l : List Addr) (j : Nat), (l.map V.ref).eraseIdx j = (l.eraseIdx j).map V.ref
  | [], _ => by simp
  | x :: l, 0 => rfl
  | x :: l, j + 1 => by
    show V.ref x :: (l.map V.ref).eraseIdx j = (x :: l.eraseIdx j).map V.ref
    rw [refs_erase l j]
    rfl
theorem paired_erase {α β : Type} {F : α → β → Prop} : ∀ {xs : List α} {ys : List β}, Paired F xs ys → ∀ j : Nat, Paired F (xs.eraseIdx j) (ys.eraseIdx j)
  | _, _, .nil, _ => by simpa using Paired.nil
  | _, _, .cons _ t, 0 => t
  | _, _, .cons r t, j + 1 => .cons r (paired_erase t j)
theorem tups_ne {H : Hp} {Ti : Addr} {bs cs : List Addr} {ts : List Tie} (hT : H Ti = some (.lst (bs.map V.ref))) (c : Cells tupO H cs ts) : ∀ b ∈ cs, b ≠ Ti := fun b hb e => by
  obtain ⟨i, hi⟩ := List.mem_iff_getElem?.mp hb
  obtain ⟨t, _, ht⟩ := paired_get c hi
  rw [e, hT] at ht
  cases ht
theorem cut47 (xs : List V) : (cutV xs (some 4) (some 7)).length ≤ 3 := by
  unfold cutV
  rw [List.length_take]
  have e1 : HT.sIx xs.length 0 (some 4) = min 4 xs.length := HT.sIx_nat _ _ 4
  have e2 : HT.sIx xs.length xs.length (some 7) = min 7 xs.length := HT.sIx_nat _ _ 7
  rw [e1, e2]
  omega
theorem cells_zip {α : Type} {o : α → HO} {H : Hp} {bs : List Addr} {ts : List α} (c : Cells o H bs ts) {q : Addr × α} (h : q ∈ bs.zip ts) : H q.1 = some (o q.2) := by
  obtain ⟨i, hi⟩ := List.mem_iff_getElem?.mp h
  rw [List.getElem?_zip_eq_some] at hi
  obtain ⟨t, e, k⟩ := paired_get c hi.1
  rw [hi.2] at e
  rw [Option.some.inj e]
  exact k
def spLaw (K : PySem.W.Frag) : Sp := fun vs H Q _ => ∃ (a : Addr) (ns : List Int), vs = [.ref a] ∧ SqL K H a (ns.map V.int) ∧ ∀ H', Q (.bl true) H'
section
variable {P : Program} {w : World} {K : PySem.W.Frag} {mg : Str → Option Value} {base : Heap} {C : Addr}
abbrev nLaw : List Str := ["_law_script", "_law_kind", "_law_heads", "_law_rows", "_law_many", "_law_good", "_law_cell", "_law_ties", "_law_more", "_law_tie", "_law_wild", "_law_handed", "_law_web", "_law_seen", "_law_row"]
theorem scLaw : FnScope nLaw ["_law_script"] (defScope sLaw) := ⟨rfl, rfl, rfl, by decide +kernel, rfl, by decide +kernel, by decide +kernel⟩
theorem ok_law {f : Addr} {fd : FuncData} (F : L2.Fun K "law" "law" sLaw f fd) (T : WTxt K mg C) (U : P8Txt K mg C) (L : L8Txt K mg) : FnOk P w K mg base L2.CX0 8 f fd ["_law_script"] (spLaw K) := by
  refine F.ok scLaw (fun vs H Q E h => ?_) (fun cdv A outer s H vs Q E hr h => ?_)
  · obtain ⟨a, ns, rfl, _⟩ := h
    rfl
  · obtain ⟨a, ns, rfl, hS, k⟩ := h
    have hun : (A.deeper (envOfC "law" (defScope sLaw) s.heap.objs.size f cdv)).units + 64 < cLine := by
      have := hr.un
      omega
    -- handed, the web, and the questions
    obtain ⟨tr9, hrest9, sem9⟩ : ∃ t, PSs (cxOf L2.CX0 P w K mg base nLaw "law" (defScope sLaw) f cdv A outer s H E).nox ((defBody sLaw).drop 9) t ∧
        ∀ (H1 : Hp) (G H0 R0 Hd R Ti : Addr) (kd0 kd : Str) (hs0 hs : List Int) (rss0 rss : List (List Int)) (m : Nat) (c : Int) (bs : List Addr) (ts : List Tie) (v8 v9 v10 : Option V), H1 G = some (.tup [.str kd0, .ref H0, .ref R0]) → H1 H0 = some (.lst (iL hs0)) → hs0.length ≤ 100 → ListsAt H1 R0 rss0 → rss0.length ≤ 30 → (∀ r ∈ rss0, r.length ≤ 30) →
          H1 Hd = some (.lst (iL hs)) → hs.length ≤ 100 → ListsAt H1 R rss → rss.length ≤ 30 → (∀ r ∈ rss, r.length ≤ 30) → H1 Ti = some (.lst (bs.map V.ref)) → Cells tupO H1 bs ts → G8 m ts → ts.length ≤ 40 → 1 ≤ m → m ≤ 16 →
          t { nx := fun _ H' => Q .non H', rt := Q } [some (.ref a), some (.str kd), some (.ref Hd), some (.ref R), some (.int m), some (.ref G), some (.int c), some (.ref Ti), v8, v9, v10, none, none, none, none] H1 := by
      refine ⟨_, (pss_cons (ps_set (i := 11) scLaw.nd rfl (Or.inl rfl) (pe_lst (pa_cons (pe_callTy (r := rListOf K) call_list_of (by rfl) T.list (by decide +kernel) (pa_cons (pv 2) pa_nil)) (pa_cons (pe_lc (own := [("_law_row", 14)]) (g := gName 14) (tt := tYes) (te := tCB (rListOf K) (tCons (tVar 14) tNil)) (by rfl) scLaw.nd (pi_list (pv 3))
            (blkOk_by (own := [("_law_row", 14)]) (N := nLaw) (sc := defScope sLaw) (by decide +kernel)) (fun _ _ _ _ _ => pg_name (i := 14) scLaw.nd rfl (Or.inl rfl)) (fun _ _ _ _ _ => pts_nil) (fun _ _ _ _ _ => pe_callTy (r := rListOf K) call_list_of (by rfl) T.list (by decide +kernel) (pa_cons (pv 14) pa_nil))) pa_nil))))
        (pss_cons (ps_set (i := 12) scLaw.nd rfl (Or.inl rfl) (C8.pe_mk (c_init T) hr (by decide) (by rfl) (pa_cons (pv 4) (pa_cons (pe_callTy (r := rListOf K) call_list_of (by rfl) T.list (by decide +kernel) (pa_cons (pv 7) pa_nil)) pa_nil))))
        (pss_cons (ps_if (pt_cmpR op_ne (C8.pe_c (c_isknot T U) hr (by decide) (by rfl) (pa_cons (pv 12) (pa_cons (pv 5) pa_nil)))
            (C8.pe_c (c_lknot T L) hr (by decide) (by rfl) (pa_cons (pe_ix ix_tup (pv 5) pe_int (fun _ _ => rfl)) (pa_cons (pe_ix ix_tup (pv 5) pe_int (fun _ _ => rfl)) (pa_cons (pe_ix ix_tup (pv 5) pe_int (fun _ _ => rfl)) (pa_cons (pv 7) (pa_cons (pv 4) pa_nil)))))) (nomark _)) (pss_one (ps_ret pe_bl)) pss_nil)
        (pss_cons (ps_set (i := 13) scLaw.nd rfl (Or.inl rfl) (C8.pe_c (c_isknot T U) hr (by decide) (by rfl) (pa_cons (pv 12) (pa_cons (pe_tup (pa_cons (pv 1) (pa_cons (pe_ix ix_list (pv 11) pe_int (fun _ _ => rfl)) (pa_cons (pe_ix ix_list (pv 11) pe_int (fun _ _ => rfl)) pa_nil)))) pa_nil))))
        (pss_cons (ps_if (PW.pt (pw_or (pt_not (pt_val (pe_callB call_isi (by rfl) L.isi (by decide +kernel) (pa_cons (pv 13) (pa_cons (pe_bltn (v := .ty "bool") (by rfl) L.bool (by decide +kernel) rfl) pa_nil)))))
            (pw_or1 (pt_cmpR (op_neD hun) (pv 11) (pe_lst (pa_cons (pv 2) (pa_cons (pv 3) pa_nil))) (nomark _))))) (pss_one (ps_ret pe_bl)) pss_nil)
        (pss_one (ps_ret (pe_cmpR op_eq (pv 13) (C8.pe_c (c_lknot T L) hr (by decide) (by rfl) (pa_cons (pv 1) (pa_cons (pv 2) (pa_cons (pv 3) (pa_cons (pv 7) (pa_cons (pv 4) pa_nil)))))) (nomark _))))))))), fun H1 G H0 R0 Hd R Ti kd0 kd hs0 hs rss0 rss m c bs ts v8 v9 v10 hG hH0 l0 hR0 rl0 rs0 hH hl hR rl rsh hT hts g tl m1 m16 => ?_⟩
      obtain ⟨as, hRa, eas, rdH⟩ := rows_read hR
      have hq := SqL.of (K := K) hRa
      have asl : as.length = rss.length := by rw [← eas]; simp
      have hG' := SqT.of (K := K) hG
      have g0 : atI [V.str kd0, .ref H0, .ref R0] 0 = some (.str kd0) := rfl
      have g1 : atI [V.str kd0, .ref H0, .ref R0] 1 = some (.ref H0) := rfl
      have g2 : atI [V.str kd0, .ref H0, .ref R0] 2 = some (.ref R0) := rfl
      -- handed
      refine ⟨_, rfl, Hd, iL hs, rfl, .inl (SqL.of hH), fun N1 hN1 => ?_⟩
      have s1 := Same.put (o := .lst (iL hs)) hN1
      have n1 : (upd H1 N1 (.lst (iL hs))) N1 = some (.lst (iL hs)) := upd_same
      generalize upd H1 N1 (.lst (iL hs)) = H2 at s1 n1 ⊢
      refine lc_at (K := K) (o := rowO) (i := 3) (j := 14) (p := fun _ => true) (f := rdRow H1) rfl (Nat.lt_of_lt_of_eq (by decide : 14 < 15) rfl) (s1.seq hq) (by rw [List.length_map]; omega) (fun H3 x Q' _ _ k => yes_ (by exact k H3 (Same.refl H3))) (fun H3 x Q' hx _ s3 q => ?_) (fun H3 N2 cs s3 hN2 d3 c3 => ?_)
      · obtain ⟨y, rfl, hy⟩ := rdH x hx
        exact ⟨_, rfl, y, _, rfl, .inl (SqL.of ((s1.trans s3) _ _ hy)), fun l hl => q _ l (Same.put hl) upd_same (.inl hl)⟩
      rw [List.filter_eq_self.mpr (fun _ _ => rfl), eas] at c3
      have s13 := s1.trans s3
      refine ⟨smalle (by show 2 ≤ 1000; decide), fun Hn hHn => ?_⟩
      have s34 := Same.put (o := .lst [.ref N1, .ref N2]) hHn
      have f4 : (upd H3 Hn (.lst [.ref N1, .ref N2])) Hn = some (.lst [.ref N1, .ref N2]) := upd_same
      have n14 := (s3.trans s34) _ _ n1
      have n24 : ListsAt (upd H3 Hn (.lst [.ref N1, .ref N2])) N2 rss := ⟨cs, s34 _ _ d3, c3.same s34⟩
      have s14 := s13.trans s34
      generalize upd H3 Hn (.lst [.ref N1, .ref N2]) = H4 at f4 n14 n24 s14 ⊢
      dsimp only [tNext, gName, tSeq, tAsg]
      -- web
      refine ⟨_, rfl, _, rfl, Ti, _, rfl, .inl (SqL.of (s14 _ _ hT)), fun l hlw x dx nx ndx ndxx => ?_⟩
      have s45 := Same.put (o := .lst (bs.map V.ref)) hlw
      refine ⟨_, x, dx, m, l, bs.map V.ref, ts, rfl, upd_same, fun b o e => by rw [upd_ne (ne_of_none e nx), upd_ne (ne_of_none e ndx)]; exact e, nx, SqL.of upd_same, (pairs_of_cells hts).same (s14.trans s45), g.good, m1, m16, tl, fun H6 keep W0 => ⟨rfl, ?_⟩⟩
      have s56 := Same.made nx ndx keep
      have s46 := s45.trans s56
      have s16 := s14.trans s46
      have W : WebAt C H1 H6 x m ts := W0.older (s14.trans s45)
      clear keep W0 s45 s56
      dsimp only [tNext, gName, tSeq, tAsg]
      -- is_knot(web, good) != _law_is_knot(..)
      refine ⟨_, rfl, _, rfl, H1, x, G, H0, R0, m, ts, kd0, hs0, rss0, rfl, W, s16 _ _ hG, s16 _ _ hH0, l0, hR0.same s16, rl0, rs0, fun H7 s67 => ?_⟩
      have s17 := s16.trans s67
      have gq := SqT.of (K := K) (s17 _ _ hG)
      refine ⟨_, rfl, G, _, 0, _, rfl, rfl, gq, g0, _, rfl, G, _, 1, _, rfl, rfl, gq, g1, _, rfl, G, _, 2, _, rfl, rfl, gq, g2, _, rfl, _, rfl, ?_⟩
      refine ⟨kd0, H0, R0, Ti, m, hs0, rss0, bs, ts, rfl, s17 _ _ hH0, l0, hR0.same s17, rl0, rs0, s17 _ _ hT, hts.same s17, g.good, g.norm, by omega, fun H8 s78 => ?_⟩
      refine ⟨rfl, _, rfl, ?_⟩
      refine no_ (by rw [decide_eq_true rfl]; rfl) ?_
      have s68 := s67.trans s78
      have s18 := s16.trans s68
      have s48 := s46.trans s68
      have a0 : atI [V.ref N1, V.ref N2] 0 = some (.ref N1) := rfl
      have a1 : atI [V.ref N1, V.ref N2] 1 = some (.ref N2) := rfl
      -- seen
      refine ⟨_, rfl, _, rfl, _, rfl, Hn, _, 0, _, rfl, rfl, SqL.of (s48 _ _ f4), a0, _, rfl, Hn, _, 1, _, rfl, rfl, SqL.of (s48 _ _ f4), a1, by show 3 ≤ sizeLine; decide, fun Ft hFt => ?_⟩
      have s89 := Same.put (o := .tup [.str kd, .ref N1, .ref N2]) hFt
      have ft9 : (upd H8 Ft (.tup [.str kd, .ref N1, .ref N2])) Ft = some (.tup [.str kd, .ref N1, .ref N2]) := upd_same
      generalize upd H8 Ft (.tup [.str kd, .ref N1, .ref N2]) = H9 at s89 ft9 ⊢
      have s49 := s48.trans s89
      have s19 := s18.trans s89
      refine ⟨H1, x, Ft, N1, N2, m, ts, kd, hs, rss, rfl, W.same (s68.trans s89), ft9, s49 _ _ n14, hl, n24.same s49, rl, rsh, fun H10 s910 => ?_⟩
      have s410 := s49.trans s910
      have s110 := s19.trans s910
      -- isinstance(seen, bool), handed != [heads, rows]
      refine ⟨_, rfl, .bl (knotB m ts kd hs rss), .ty "bool", .type "bool", .type "bool", true, rfl, .ty _, .base (.bl _), kit_ty (by decide +kernel), _, rfl, ?_⟩
      refine iteF ?_
      refine ⟨_, rfl, _, rfl, _, rfl, smalle (by show 2 ≤ 1000; decide), fun Z hZ => ?_⟩
      have s1011 := Same.put (o := .lst [.ref Hd, .ref R]) hZ
      have z11 : (upd H10 Z (.lst [.ref Hd, .ref R])) Z = some (.lst [.ref Hd, .ref R]) := upd_same
      generalize upd H10 Z (.lst [.ref Hd, .ref R]) = H11 at s1011 z11 ⊢
      have s411 := s410.trans s1011
      have s111 := s110.trans s1011
      refine ⟨hdD hs rss, hdD hs rss, .lst (SqL.of (s411 _ _ f4)) (.cons (dp_ints (SqL.of (s411 _ _ n14))) (.cons (dp_lists (n24.same s411)) .nil)), .lst (SqL.of z11) (.cons (dp_ints (SqL.of (s111 _ _ hH))) (.cons (dp_lists (hR.same s111)) .nil)), hdD_shaped _ _, hdD_shaped _ _, _, rfl, ?_⟩
      refine no_ (by rw [hdD_refl]; rfl) ?_
      -- the answer
      refine ⟨_, rfl, _, rfl, _, rfl, _, rfl, _, rfl, _, rfl, kd, Hd, R, Ti, m, hs, rss, bs, ts, rfl, s111 _ _ hH, hl, hR.same s111, rl, rsh, s111 _ _ hT, hts.same s111, g.good, g.norm, by omega, fun H12 s12 => ⟨rfl, ?_⟩⟩
      rw [decide_eq_true rfl]
      exact k H12
    -- what may be wrong
    obtain ⟨tr5, hrest5, sem5⟩ : ∃ t, PSs (cxOf L2.CX0 P w K mg base nLaw "law" (defScope sLaw) f cdv A outer s H E).nox ((defBody sLaw).drop 5) t ∧
        ∀ (H1 : Hp) (G H0 R0 Hd R Ti : Addr) (kd : Str) (hs : List Int) (rss : List (List Int)) (m : Nat) (c : Int) (bs : List Addr) (ts : List Tie) (v8 v9 : Option V), H1 G = some (.tup [.str kd, .ref H0, .ref R0]) → H1 H0 = some (.lst (iL hs)) → ((kd = "five" ∧ hs.length = 5) ∨ (kd = "three" ∧ hs.length = 6)) → ListsAt H1 R0 rss → 1 ≤ rss.length → rss.length ≤ 10 → (∀ r ∈ rss, 2 ≤ r.length ∧ r.length ≤ 12) →
          H1 Hd = some (.lst (iL hs)) → ListsAt H1 R rss → H1 Ti = some (.lst (bs.map V.ref)) → Cells tupO H1 bs ts → G8 m ts → 1 ≤ ts.length → ts.length ≤ 23 → (∀ t ∈ tiesL8 rss, t ∈ ts) → (tiesL8 rss).length ≤ 20 → 1 ≤ m → m ≤ 16 →
          t { nx := fun _ H' => Q .non H', rt := Q } [some (.ref a), some (.str kd), some (.ref Hd), some (.ref R), some (.int m), some (.ref G), some (.int c), some (.ref Ti), v8, v9, none, none, none, none, none] H1 := by
      refine ⟨_, pss_cons (ps_if (pt_cmpR op_eq (pe_op op_mod (pv 6) pe_int) pe_int (nomark _))
          (pss_cons (ps_set (i := 2) scLaw.nd rfl (Or.inl rfl) (C8.pe_c (c_spheads T L) hr (by decide) (by rfl) (pa_cons (pv 2) (pa_cons (pe_op op_fdiv (pv 6) pe_int) (pa_cons (pv 4) pa_nil)))))
          (pss_one (ps_if (pt_cmpR op_eq (pe_op op_mod (pe_op op_fdiv (pv 6) pe_int) pe_int) pe_int (nomark _))
            (pss_one (ps_set (i := 1) scLaw.nd rfl (Or.inl rfl) (pe_ix ix_list (pe_lst (pa_cons pe_str (pa_cons pe_str (pa_cons pe_str (pa_cons pe_str (pa_cons pe_str pa_nil)))))) (pe_op op_mod (pe_op op_fdiv (pv 6) pe_int) pe_int) (fun _ _ => rfl)))) pss_nil))) pss_nil)
        (pss_cons (ps_if (pt_cmpR op_eq (pe_op op_mod (pv 6) pe_int) pe_int (nomark _))
          (pss_cons (ps_set (i := 3) scLaw.nd rfl (Or.inl rfl) (C8.pe_c (c_sprows T L) hr (by decide) (by rfl) (pa_cons (pv 3) (pa_cons (pe_op op_fdiv (pv 6) pe_int) (pa_cons (pv 4) pa_nil)))))
          (pss_one (ps_if (pt_cmpR op_eq (pe_op op_mod (pe_op op_fdiv (pv 6) pe_int) pe_int) pe_int (nomark _))
            (pss_cons (ps_setLc (i := 10) (own := [("_law_tie", 9)]) (g := gName 9) (tt := tTest (tChain3 (rI0 fun i j => .bl (decide (i ≤ j))) (rI0 fun i j => .bl (decide (i < j))) (rI0 fun i j => .bl (decide (i < j))) (tC (.int 0)) (tOp (rIxT K) (tVar 9) (tC (.int 0))) (tOp (rIxT K) (tVar 9) (tC (.int 1))) (tVar 4))) (te := tVar 9) (by rfl) scLaw.nd rfl rfl (sw_true rfl rfl rfl (by decide +kernel)) (pi_list (C8.pe_c (c_tiesof T L) hr (by decide) (by rfl) (pa_cons (pv 3) pa_nil)))
                (blkOk_by (own := [("_law_tie", 9)]) (N := nLaw) (sc := defScope sLaw) (by decide +kernel)) (fun _ _ _ _ _ => pg_name (i := 9) scLaw.nd rfl (Or.inl rfl)) (fun _ _ _ _ _ => pts_one (pt_chain3 op_le op_lt op_lt pe_int (pe_ix ix_tup (pv 9) pe_int (fun _ _ => rfl)) (pe_ix ix_tup (pv 9) pe_int (fun _ _ => rfl)) (pv 4))) (fun _ _ _ _ _ => pv 9))
            (pss_one (ps_set (i := 7) scLaw.nd rfl (Or.inr rfl) (pe_op op_cat (pv 7) (pe_lc (own := [("_law_tie", 9)]) (g := gName 9) (tt := tTest (tOp (rNotInD K) (tVar 9) (tVar 7))) (te := tVar 9) (by rfl) scLaw.nd (pi_list (pe_callB (id := "sorted") (r := rSortedT K P w) (cr_sortedT rfl) (by rfl) T.sorted (by decide +kernel) (pa_cons (pe_callTy (cr_setOfT rfl hun) (by rfl) U.set (by decide +kernel) (pa_cons (pv 10) pa_nil)) pa_nil)))
                (blkOk_by (own := [("_law_tie", 9)]) (N := nLaw) (sc := defScope sLaw) (by decide +kernel)) (fun _ _ _ _ _ => pg_name (i := 9) scLaw.nd rfl (Or.inl rfl)) (fun _ _ _ _ _ => pts_one (pt_cmpR (op_notInD (hu65 hr)) (pv 9) (pv 7) (by rfl))) (fun _ _ _ _ _ => pv 9)))))) pss_nil))) pss_nil)
        (pss_cons (ps_if (PW.pt (pw_and (pt_cmpR op_eq (pe_op op_mod (pv 6) pe_int) pe_int (nomark _)) (pw_and1 (pt_cmpR op_eq (pe_op op_mod (pe_op op_fdiv (pv 6) pe_int) pe_int) pe_int (nomark _)))))
          (pss_one (ps_expr (pe_bm PySem.F.plainAttrs_list PySem.F.slot_list_pop PySem.F.type_list_pop mt_popAt (pv 7) (pa_cons (pe_op op_mod (pe_op op_fdiv (pv 6) pe_int) (pe_callB call_len_seq (by rfl) T.len PySem.boot_len (pa_cons (pv 7) pa_nil))) pa_nil)))) pss_nil)
        (pss_cons (ps_if (PW.pt (pw_and (pt_cmpR op_eq (pe_op op_mod (pv 6) pe_int) pe_int (nomark _)) (pw_and1 (pt_cmpR op_eq (pe_op op_mod (pe_op op_fdiv (pv 6) pe_int) pe_int) pe_int (nomark _)))))
          (pss_cons (ps_set (i := 2) scLaw.nd rfl (Or.inl rfl) (C8.pe_c (c_other T L) hr (by decide) (by rfl) (pa_cons (pv 2) (pa_cons (pe_op op_fdiv (pv 6) pe_int) pa_nil))))
          (pss_one (ps_set (i := 3) scLaw.nd rfl (Or.inl rfl) (C8.pe_c (c_relaid T L) hr (by decide) (by rfl) (pa_cons (pv 1) (pa_cons (pv 2) (pa_cons (pv 3) pa_nil))))))) pss_nil)
        hrest9))), fun H1 G H0 R0 Hd R Ti kd hs rss m c bs ts v8 v9 hG hH0 hk hR0 l1 l10 rl hH hR hT hts g tl1 tl tin tfew m1 m16 => ?_⟩
      have p4 : (0 : Int) < 4 := by decide
      have cd : CDiv c 4 := ⟨by decide, by decide⟩
      have dn : ∀ {x y : Int}, x ≠ y → decide (V.int x = V.int y) = false := fun h => decide_eq_false fun z => h (V.int.inj z)
      have dy : ∀ {x y : Int}, x = y → decide (V.int x = V.int y) = true := fun h => decide_eq_true (by rw [h])
      have hlen : hs.length ≤ 6 ∧ 5 ≤ hs.length := by
        rcases hk with ⟨_, z⟩ | ⟨_, z⟩ <;> omega
      have rl30 : ∀ r ∈ rss, r.length ≤ 30 := fun r hr => by
        have := rl r hr
        omega
      have d4 : c % 4 = 0 ∨ c % 4 = 1 ∨ c % 4 = 2 ∨ c % 4 = 3 := by omega
      rcases d4 with e4 | e4 | e4 | e4
      · refine ⟨_, rfl, _, _, rfl, rfl, p4, rfl, _, rfl, ?_⟩
        refine no_ (dn (by omega)) ?_
        refine ⟨_, rfl, _, _, rfl, rfl, p4, rfl, _, rfl, ?_⟩
        refine no_ (dn (by omega)) ?_
        refine ⟨_, rfl, _, _, rfl, rfl, p4, rfl, _, rfl, ?_⟩
        refine no_ (dn (by omega)) (iteF ?_)
        refine ⟨_, rfl, _, _, rfl, rfl, p4, rfl, _, rfl, ?_⟩
        refine no_ (dn (by omega)) (iteF ?_)
        exact sem9 H1 G H0 R0 Hd R Ti kd kd hs hs rss rss m c bs ts v8 v9 none hG hH0 (by omega) hR0 (by omega) rl30 hH (by omega) hR (by omega) rl30 hT hts g (by omega) m1 m16
      · refine ⟨_, rfl, _, _, rfl, rfl, p4, rfl, _, rfl, ?_⟩
        refine yep_ (dy e4) ?_
        refine ⟨_, rfl, _, rfl, _, _, rfl, rfl, ⟨by decide, by decide⟩, _, rfl, Hd, _, m, hs, rfl, hH, by omega, by omega, fun H2 D hs' s2 hD l21 => ?_⟩
        try dsimp only [tNext, gName, tSeq, tAsg]
        refine ⟨_, rfl, _, _, rfl, rfl, cd, _, _, rfl, rfl, p4, rfl, _, rfl, ?_⟩
        refine ite2 (fun _ => ?_) (fun _ => ?_)
        · refine ⟨smalle (by show 5 ≤ 1000; decide), fun q hq => ?_⟩
          have s3 := Same.put (o := .lst [.str "five", .str "three", .str "four", .str "", .str "Five"]) hq
          have q3 : (upd H2 q (.lst [.str "five", .str "three", .str "four", .str "", .str "Five"])) q = some (.lst [.str "five", .str "three", .str "four", .str "", .str "Five"]) := upd_same
          generalize upd H2 q (.lst [.str "five", .str "three", .str "four", .str "", .str "Five"]) = H3 at s3 q3 ⊢
          obtain ⟨kd', ek⟩ : ∃ kd' : Str, atI [V.str "five", .str "three", .str "four", .str "", .str "Five"] (c / 16 % 5) = some (.str kd') := by
            have d5 : c / 16 % 5 = 0 ∨ c / 16 % 5 = 1 ∨ c / 16 % 5 = 2 ∨ c / 16 % 5 = 3 ∨ c / 16 % 5 = 4 := by omega
            rcases d5 with z | z | z | z | z <;> rw [z] <;> exact ⟨_, rfl⟩
          refine ⟨_, rfl, _, _, rfl, rfl, ⟨by decide, by decide⟩, _, _, rfl, rfl, by show (0 : Int) < 5; decide, q, _, _, _, rfl, rfl, SqL.of q3, ek, ?_⟩
          try dsimp only [tNext, gName, tSeq, tAsg]
          have s13 := s2.trans s3
          refine ⟨_, rfl, _, _, rfl, rfl, p4, rfl, _, rfl, ?_⟩
          refine no_ (dn (by omega)) ?_
          refine ⟨_, rfl, _, _, rfl, rfl, p4, rfl, _, rfl, ?_⟩
          refine no_ (dn (by omega)) (iteF ?_)
          refine ⟨_, rfl, _, _, rfl, rfl, p4, rfl, _, rfl, ?_⟩
          refine no_ (dn (by omega)) (iteF ?_)
          exact sem9 H3 G H0 R0 D R Ti kd kd' hs hs' rss rss m c bs ts v8 v9 none (s13 _ _ hG) (s13 _ _ hH0) (by omega) (hR0.same s13) (by omega) rl30 (s3 _ _ hD) (by omega) (hR.same s13) (by omega) rl30 (s13 _ _ hT) (hts.same s13) g (by omega) m1 m16
        · refine ⟨_, rfl, _, _, rfl, rfl, p4, rfl, _, rfl, ?_⟩
          refine no_ (dn (by omega)) ?_
          refine ⟨_, rfl, _, _, rfl, rfl, p4, rfl, _, rfl, ?_⟩
          refine no_ (dn (by omega)) (iteF ?_)
          refine ⟨_, rfl, _, _, rfl, rfl, p4, rfl, _, rfl, ?_⟩
          refine no_ (dn (by omega)) (iteF ?_)
          exact sem9 H2 G H0 R0 D R Ti kd kd hs hs' rss rss m c bs ts v8 v9 none (s2 _ _ hG) (s2 _ _ hH0) (by omega) (hR0.same s2) (by omega) rl30 hD (by omega) (hR.same s2) (by omega) rl30 (s2 _ _ hT) (hts.same s2) g (by omega) m1 m16
      · refine ⟨_, rfl, _, _, rfl, rfl, p4, rfl, _, rfl, ?_⟩
        refine no_ (dn (by omega)) ?_
        refine ⟨_, rfl, _, _, rfl, rfl, p4, rfl, _, rfl, ?_⟩
        refine yep_ (dy e4) ?_
        refine ⟨_, rfl, _, rfl, _, _, rfl, rfl, ⟨by decide, by decide⟩, _, rfl, R, _, m, rss, rfl, hR, l1, l10, rl, fun H2 D rss' s2 hD od => ?_⟩
        have rl30' : ∀ r ∈ rss', r.length ≤ 30 := fun r hr => by
          have := od.row r hr
          omega
        have len' := od.len
        try dsimp only [tNext, gName, tSeq, tAsg]
        refine ⟨_, rfl, _, _, rfl, rfl, ⟨by decide, by decide⟩, _, _, rfl, rfl, by show (0 : Int) < 2; decide, rfl, _, rfl, ?_⟩
        refine ite2 (fun _ => ?_) (fun _ => ?_)
        · -- ties for the wrong rows
          refine ⟨_, rfl, D, rss', rfl, hD, by omega, rl30', fun H3 W1 ws s3 hW1 w3 cw _ => ⟨W1, rfl, ⟨_, SqL.of w3⟩, fun D3 hD3 => ?_⟩⟩
          have s13 := s2.trans s3
          obtain ⟨ecw, rdw⟩ := tups_read cw
          have few' := od.few
          have wl : (ws.map V.ref).length ≤ 32 := by rw [List.length_map, cw.length]; omega
          refine lcat_W (K := K) (o := tupO) (p := fun x => decide (0 ≤ (rdTup H3 x).1) && (decide ((rdTup H3 x).1 < (rdTup H3 x).2) && decide ((rdTup H3 x).2 < (m : Int)))) (f := rdTup H3) (Nat.lt_of_lt_of_eq (by decide : 9 < 15) rfl) (SqL.of w3) hD3 (by omega) (fun H4 x Q' hx s4 q => ?_) (fun H4 x Q' hx _ s4 q => ?_) (fun H4 fs s4 f4 cf => ?_)
          · obtain ⟨y, rfl, hy⟩ := rdw x hx
            have yq := SqT.of (K := K) (s4 _ _ hy)
            generalize rdTup H3 (.ref y) = t at q yq
            have z := q H4 (Same.refl H4)
            refine ⟨_, rfl, y, _, 0, _, rfl, rfl, yq, rfl, _, _, rfl, rfl, _, rfl, ?_⟩
            by_cases c0 : 0 ≤ t.1
            · refine yep_ (decide_eq_true c0) ?_
              rw [decide_eq_true c0, Bool.true_and] at z
              refine ⟨_, rfl, y, _, 1, _, rfl, rfl, yq, rfl, _, _, rfl, rfl, _, rfl, ?_⟩
              by_cases c1 : t.1 < t.2
              · refine yep_ (decide_eq_true c1) ?_
                rw [decide_eq_true c1, Bool.true_and] at z
                exact ⟨_, rfl, _, _, rfl, rfl, _, rfl, z⟩
              · refine no_ (decide_eq_false c1) ?_
                rw [decide_eq_false c1, Bool.false_and] at z
                exact ⟨_, rfl, z⟩
            · refine no_ (decide_eq_false c0) ?_
              rw [decide_eq_false c0, Bool.false_and] at z
              exact ⟨_, rfl, z⟩
          · obtain ⟨y, rfl, hy⟩ := rdw x hx
            exact ⟨_, rfl, q H4 y (Same.refl H4) (s4 _ _ hy) (.inr (by rw [hy]; intro z; cases z))⟩
          generalize hwl : ((ws.map V.ref).filter fun x => decide (0 ≤ (rdTup H3 x).1) && (decide ((rdTup H3 x).1 < (rdTup H3 x).2) && decide ((rdTup H3 x).2 < (m : Int)))).map (rdTup H3) = wt at cf
          have wtl : wt.length ≤ 32 := by
            have z := List.length_filter_le (fun x => decide (0 ≤ (rdTup H3 x).1) && (decide ((rdTup H3 x).1 < (rdTup H3 x).2) && decide ((rdTup H3 x).2 < (m : Int)))) (ws.map V.ref)
            rw [← hwl, List.length_map]
            omega
          have wtm : ∀ t ∈ wt, t ∈ tiesL8 rss' ∧ 0 ≤ t.1 ∧ t.1 < t.2 ∧ t.2 < (m : Int) := fun t ht => by
            rw [← hwl] at ht
            obtain ⟨x, hx, rfl⟩ := List.mem_map.mp ht
            obtain ⟨h1, h2⟩ := List.mem_filter.mp hx
            rw [Bool.and_eq_true, Bool.and_eq_true, decide_eq_true_iff, decide_eq_true_iff, decide_eq_true_iff] at h2
            exact ⟨by rw [← ecw]; exact List.mem_map.mpr ⟨x, h1, rfl⟩, h2⟩
          have s14 := s13.trans s4
          have fsl : fs.length = wt.length := cf.length
          try dsimp only [tNext, gName, tSeq, tAsg]
          -- sorted(set(wild))
          refine ⟨_, rfl, _, rfl, D3, (fs.zip wt).map fun q => (q.1, [q.2.1, q.2.2]), rfl, ?_, ?_, ?_, fun S Ls hS hL1 hL2 => ?_⟩
          · have e : ((fs.zip wt).map fun q => (q.1, [q.2.1, q.2.2])).map (fun p => V.ref p.1) = fs.map V.ref := by
              rw [List.map_map]
              have : (fun p : Addr × List Int => V.ref p.1) ∘ (fun q : Addr × Tie => (q.1, [q.2.1, q.2.2])) = V.ref ∘ Prod.fst := rfl
              rw [this, ← List.map_map, List.map_fst_zip (by omega)]
            rw [e]
            exact SqL.of f4
          · intro p hp
            obtain ⟨q, hq, rfl⟩ := List.mem_map.mp hp
            exact SqT.of (cells_zip cf hq)
          · rw [List.length_map, List.length_zip]
            omega
          · have ks : ∀ q ∈ Ls, ∃ t : Tie, q.2 = [t.1, t.2] ∧ H4 q.1 = some (tupO t) ∧ t ∈ wt := fun q hq => by
              obtain ⟨z, hz, rfl⟩ := List.mem_map.mp (hL1 q hq)
              exact ⟨z.2, rfl, cells_zip cf hz, List.of_mem_zip hz |>.2⟩
            have s45 : Same H4 (upd H4 S (SetTO (cxOf L2.CX0 P w K mg base nLaw "law" (defScope sLaw) f cdv A outer s H E).prog (cxOf L2.CX0 P w K mg base nLaw "law" (defScope sLaw) f cdv A outer s H E).w S Ls)) := Same.put hS
            refine ⟨S, Ls, 2, 64, rfl, upd_same, fun q hq => ?_, by decide, fun q hq => ?_, fun L' So hperm hnd h64 _ hSo => ?_⟩
            · obtain ⟨t, e1, e2, _⟩ := ks q hq
              rw [e1]
              exact SqT.of (s45 _ _ e2)
            · obtain ⟨t, e1, _, e3⟩ := ks q hq
              have z := (wtm t e3).2
              rw [e1]
              refine ⟨rfl, fun y hy => ?_⟩
              rcases List.mem_cons.mp hy with c0 | c0
              · rw [c0]; omega
              · rw [List.mem_singleton.mp c0]; omega
            have ks' : ∀ q ∈ L', ∃ t : Tie, q.2 = [t.1, t.2] ∧ H4 q.1 = some (tupO t) ∧ t ∈ wt := fun q hq => ks q (hperm.mem_iff.mp hq)
            have s56 : Same (upd H4 S (SetTO (cxOf L2.CX0 P w K mg base nLaw "law" (defScope sLaw) f cdv A outer s H E).prog (cxOf L2.CX0 P w K mg base nLaw "law" (defScope sLaw) f cdv A outer s H E).w S Ls)) (upd (upd H4 S (SetTO (cxOf L2.CX0 P w K mg base nLaw "law" (defScope sLaw) f cdv A outer s H E).prog (cxOf L2.CX0 P w K mg base nLaw "law" (defScope sLaw) f cdv A outer s H E).w S Ls)) So (.lst (L'.map fun q => V.ref q.1))) := Same.put hSo
            have s46 := s45.trans s56
            have so6 : (upd (upd H4 S (SetTO (cxOf L2.CX0 P w K mg base nLaw "law" (defScope sLaw) f cdv A outer s H E).prog (cxOf L2.CX0 P w K mg base nLaw "law" (defScope sLaw) f cdv A outer s H E).w S Ls)) So (.lst (L'.map fun q => V.ref q.1))) So = some (.lst (L'.map fun q => V.ref q.1)) := upd_same
            generalize upd (upd H4 S (SetTO (cxOf L2.CX0 P w K mg base nLaw "law" (defScope sLaw) f cdv A outer s H E).prog (cxOf L2.CX0 P w K mg base nLaw "law" (defScope sLaw) f cdv A outer s H E).w S Ls)) So (.lst (L'.map fun q => V.ref q.1)) = H6 at s46 so6 ⊢
            have s16 := s14.trans s46
            refine ⟨So, rfl, ⟨_, SqL.of so6⟩, fun D6 hD6 => ?_⟩
            refine lcat_W (K := K) (o := tupO) (p := fun x => !decide (rdTup H4 x ∈ ts)) (f := rdTup H4) (Nat.lt_of_lt_of_eq (by decide : 9 < 15) rfl) (SqL.of so6) hD6 (by rw [List.length_map]; omega) (fun H7 x Q' hx s7 q => ?_) (fun H7 x Q' hx _ s7 q => ?_) (fun H7 gs s7 g7 cg => ?_)
            · obtain ⟨q1, hq1, rfl⟩ := List.mem_map.mp hx
              obtain ⟨t, _, e2, _⟩ := ks' q1 hq1
              have s17 := s16.trans s7
              refine ⟨_, rfl, _, rfl, prd t, ts.map prd, dp_pair ⟨q1.1, rfl, (s46.trans s7) _ _ e2⟩, dp_pairs (SqL.of (s17 _ _ hT)) (pairs_of_cells (hts.same s17)), prd_shaped _, prds_shaped _, _, rfl, ?_⟩
              rw [prds_any]
              have z := q H7 (Same.refl H7)
              rw [rdTup_at e2] at z
              exact z
            · obtain ⟨q1, hq1, rfl⟩ := List.mem_map.mp hx
              obtain ⟨t, _, e2, _⟩ := ks' q1 hq1
              refine ⟨_, rfl, q H7 q1.1 (Same.refl H7) ?_ (.inr (by rw [s46 _ _ e2]; intro z; cases z))⟩
              rw [rdTup_at e2]
              exact (s46.trans s7) _ _ e2
            have eN : ((L'.map fun q => V.ref q.1).filter fun x => !decide (rdTup H4 x ∈ ts)).map (rdTup H4) = (L'.map fun q => rdTup H4 (.ref q.1)).filter fun t => !decide (t ∈ ts) := by
              rw [filt_via (L'.map fun q => V.ref q.1) (rdTup H4) fun t => !decide (t ∈ ts), List.map_map]
              rfl
            rw [eN] at cg
            have ndN : (L'.map fun q => rdTup H4 (.ref q.1)).Nodup := by
              have e : L'.map (·.2) = (L'.map fun q => rdTup H4 (.ref q.1)).map fun t => [t.1, t.2] := by
                rw [List.map_map]
                refine List.map_congr_left fun q hq => ?_
                obtain ⟨t, e1, e2, _⟩ := ks' q hq
                show q.2 = [(rdTup H4 (.ref q.1)).1, (rdTup H4 (.ref q.1)).2]
                rw [rdTup_at e2, e1]
              rw [e] at hnd
              exact List.Pairwise.of_map _ (fun a b h z => h (by rw [z])) hnd
            have inN : ∀ t ∈ (L'.map fun q => rdTup H4 (.ref q.1)), t ∈ wt := fun t ht => by
              obtain ⟨q, hq, rfl⟩ := List.mem_map.mp ht
              obtain ⟨t, _, e2, e3⟩ := ks' q hq
              rw [rdTup_at e2]
              exact e3
            generalize hN : ((L'.map fun q => rdTup H4 (.ref q.1)).filter fun t => !decide (t ∈ ts)) = N at cg
            have mN : ∀ t ∈ N, t ∈ wt ∧ t ∉ ts := fun t ht => by
              rw [← hN] at ht
              obtain ⟨h1, h2⟩ := List.mem_filter.mp ht
              refine ⟨inN t h1, fun z => ?_⟩
              rw [decide_eq_true z] at h2
              cases h2
            have nN : N.Nodup := by
              rw [← hN]
              exact ndN.filter _
            have gN : G8 m N := ⟨fun t ht => (wtm t (mN t ht).1).2, nN⟩
            have lN : N.length ≤ 2 := by
              obtain ⟨E, e1, e2⟩ := od.ex
              refine Nat.le_trans (nN.length_le_of_subset fun t ht => ?_) e1
              rcases e2 t (wtm t (mN t ht).1).1 with z | z
              · exact absurd (tin t z) (mN t ht).2
              · exact z
            have s17 := s16.trans s7
            have gl : gs.length = N.length := cg.length
            have bl : bs.length = ts.length := hts.length
            refine ⟨Ti, D6, _, _, rfl, rfl, s17 _ _ hT, g7, smalle (by rw [List.length_map, List.length_map]; omega), fun T2 hT2 => ?_⟩
            rw [refs_app]
            have s78 := Same.put (o := .lst ((bs ++ gs).map V.ref)) hT2
            have t8 : (upd H7 T2 (.lst ((bs ++ gs).map V.ref))) T2 = some (.lst ((bs ++ gs).map V.ref)) := upd_same
            have c8 := paired_app ((hts.same s17).same s78) (cg.same s78)
            have s28 := (s3.trans (s4.trans s46)).trans (s7.trans s78)
            have s18 := s17.trans s78
            generalize upd H7 T2 (.lst ((bs ++ gs).map V.ref)) = H8 at t8 c8 s28 s18 ⊢
            have g8 : G8 m (ts ++ N) := g.app gN fun t ht => (mN t ht).2
            try dsimp only [tNext, gName, tSeq, tAsg]
            refine ⟨_, rfl, _, _, rfl, rfl, p4, rfl, _, rfl, ?_⟩
            refine no_ (dn (by omega)) (iteF ?_)
            refine ⟨_, rfl, _, _, rfl, rfl, p4, rfl, _, rfl, ?_⟩
            refine no_ (dn (by omega)) (iteF ?_)
            exact sem9 H8 G H0 R0 Hd D T2 kd kd hs hs rss rss' m c (bs ++ gs) (ts ++ N) v8 v9 _ (s18 _ _ hG) (s18 _ _ hH0) (by omega) (hR0.same s18) (by omega) rl30 (s18 _ _ hH) (by omega) (hD.same s28) (by omega) rl30' t8 c8 g8 (by rw [List.length_append]; omega) m1 m16
        · refine ⟨_, rfl, _, _, rfl, rfl, p4, rfl, _, rfl, ?_⟩
          refine no_ (dn (by omega)) (iteF ?_)
          refine ⟨_, rfl, _, _, rfl, rfl, p4, rfl, _, rfl, ?_⟩
          refine no_ (dn (by omega)) (iteF ?_)
          exact sem9 H2 G H0 R0 Hd D Ti kd kd hs hs rss rss' m c bs ts v8 v9 none (s2 _ _ hG) (s2 _ _ hH0) (by omega) (hR0.same s2) (by omega) rl30 (s2 _ _ hH) (by omega) hD (by omega) rl30' (s2 _ _ hT) (hts.same s2) g (by omega) m1 m16
      · refine ⟨_, rfl, _, _, rfl, rfl, p4, rfl, _, rfl, ?_⟩
        refine no_ (dn (by omega)) ?_
        refine ⟨_, rfl, _, _, rfl, rfl, p4, rfl, _, rfl, ?_⟩
        refine no_ (dn (by omega)) ?_
        refine ⟨_, rfl, _, _, rfl, rfl, p4, rfl, _, rfl, ?_⟩
        refine yep_ (dy e4) ?_
        refine ⟨_, rfl, _, _, rfl, rfl, cd, _, _, rfl, rfl, by show (0 : Int) < 2; decide, rfl, _, rfl, ?_⟩
        have d2 : c / 4 % 2 = 0 ∨ c / 4 % 2 = 1 := by omega
        rcases d2 with e2 | e2
        · refine yep_ (dy e2) ?_
          have bl : bs.length = ts.length := hts.length
          have b0 : (0 : Int) < ((bs.map V.ref).length : Int) := by rw [List.length_map]; omega
          have q0 := Int.emod_nonneg (c / 8) (show ((bs.map V.ref).length : Int) ≠ 0 by omega)
          have q1 := Int.emod_lt_of_pos (c / 8) b0
          obtain ⟨j, ej⟩ : ∃ j : Nat, c / 8 % ((bs.map V.ref).length : Int) = j := ⟨(c / 8 % ((bs.map V.ref).length : Int)).toNat, by omega⟩
          have hj : j < bs.length := by
            rw [List.length_map] at q1 ej
            omega
          refine ⟨_, rfl, .inl ⟨rfl, _, SqL.of hT⟩, _, rfl, _, _, rfl, rfl, ⟨by decide, by decide⟩, _, rfl, Ti, _, rfl, .inl (SqL.of hT), _, _, rfl, rfl, b0, ?_⟩
          refine ⟨Ti, bs.map V.ref, _, j, .ref bs[j], rfl, rfl, hT, by omega, by rw [ej]; omega, by rw [ej, seqIndex_of (by omega) (by rw [List.length_map]; omega), Int.toNat_natCast], by rw [List.getElem?_map, List.getElem?_eq_getElem hj]; rfl, ?_⟩
          rw [refs_erase]
          have r1 : ∀ r ∈ rss, 1 ≤ r.length := fun r hr => by
            have := rl r hr
            omega
          have nG : G ≠ Ti := fun e => by
            rw [e, hT] at hG
            cases hG
          have hne : hs ≠ [] := fun e => by rw [e] at hlen; exact absurd hlen.2 (by decide)
          have nH0 : H0 ≠ Ti := ne_row hH0 hne hT
          have nHd : Hd ≠ Ti := ne_row hH hne hT
          have nR0 := ne_lists hR0 l1 hT hts
          have nR := ne_lists hR l1 hT hts
          have c2 := (hts.write (u := .lst ((bs.eraseIdx j).map V.ref)) (tups_ne hT hts))
          have c3 := paired_erase c2 j
          refine ⟨_, rfl, _, _, rfl, rfl, p4, rfl, _, rfl, ?_⟩
          refine yep_ (dy e4) ?_
          refine ⟨_, rfl, _, _, rfl, rfl, cd, _, _, rfl, rfl, by show (0 : Int) < 2; decide, rfl, _, rfl, ?_⟩
          refine no_ (dn (by omega)) ?_
          have el := List.length_eraseIdx_le ts j
          exact sem9 _ G H0 R0 Hd R Ti kd kd hs hs rss rss m c _ (ts.eraseIdx j) v8 v9 none (by rw [upd_ne nG]; exact hG) (by rw [upd_ne nH0]; exact hH0) (by omega) (lists_write hR0 nR0 hT r1) (by omega) rl30 (by rw [upd_ne nHd]; exact hH) (by omega) (lists_write hR nR hT r1) (by omega) rl30 upd_same c3 (g.sub (List.eraseIdx_sublist _ _)) (by omega) m1 m16
        · refine no_ (dn (by omega)) ?_
          refine ⟨_, rfl, _, _, rfl, rfl, p4, rfl, _, rfl, ?_⟩
          refine yep_ (dy e4) ?_
          refine ⟨_, rfl, _, _, rfl, rfl, cd, _, _, rfl, rfl, by show (0 : Int) < 2; decide, rfl, _, rfl, ?_⟩
          refine yep_ (dy e2) ?_
          refine ⟨_, rfl, _, rfl, _, _, rfl, rfl, ⟨by decide, by decide⟩, Hd, _, hs, rfl, hH, by omega, by omega, fun H2 D hs' s2 hD el => ?_⟩
          try dsimp only [tNext, gName, tSeq, tAsg]
          have hk' : (kd = "five" ∧ hs'.length = 5) ∨ (kd ≠ "five" ∧ hs'.length = 6) := by
            rcases hk with ⟨z1, z2⟩ | ⟨z1, z2⟩
            · exact .inl ⟨z1, by omega⟩
            · exact .inr ⟨by rw [z1]; decide, by omega⟩
          refine ⟨_, rfl, _, rfl, _, rfl, kd, D, R, hs', rss, rfl, hD, hk', hR.same s2, l10, rl, fun H3 D3 rss' s3 hD3 l3 rl3 => ?_⟩
          have s13 := s2.trans s3
          exact sem9 H3 G H0 R0 D D3 Ti kd kd hs hs' rss rss' m c bs ts v8 v9 none (s13 _ _ hG) (s13 _ _ hH0) (by omega) (hR0.same s13) (by omega) rl30 (s3 _ _ hD) (by omega) hD3 (by omega) (fun r hr => by have := rl3 r hr; omega) (s13 _ _ hT) (hts.same s13) g (by omega) m1 m16
    refine ⟨_, pss_cons (ps_asg (C8.pe_c (c_knotby T L) hr (by decide) (by rfl) (pa_cons (pv 0) pa_nil)) (pg_tup (by rfl) (pgs_cons (pg_name (i := 1) scLaw.nd rfl (.inl rfl)) (pgs_cons (pg_name (i := 2) scLaw.nd rfl (.inl rfl)) (pgs_cons (pg_name (i := 3) scLaw.nd rfl (.inl rfl)) (pgs_cons (pg_name (i := 4) scLaw.nd rfl (.inr rfl)) pgs_nil))))))
      (pss_cons (ps_set (i := 5) scLaw.nd rfl (Or.inl rfl) (pe_tup (pa_cons (pv 1) (pa_cons (pe_callTy (r := rListOf K) call_list_of (by rfl) T.list (by decide +kernel) (pa_cons (pv 2) pa_nil)) (pa_cons (pe_lc (own := [("_law_row", 14)]) (g := gName 14) (tt := tYes) (te := tCB (rListOf K) (tCons (tVar 14) tNil)) (by rfl) scLaw.nd (pi_list (pv 3))
            (blkOk_by (own := [("_law_row", 14)]) (N := nLaw) (sc := defScope sLaw) (by decide +kernel)) (fun _ _ _ _ _ => pg_name (i := 14) scLaw.nd rfl (Or.inl rfl)) (fun _ _ _ _ _ => pts_nil) (fun _ _ _ _ _ => pe_callTy (r := rListOf K) call_list_of (by rfl) T.list (by decide +kernel) (pa_cons (pv 14) pa_nil))) pa_nil)))))
      (pss_cons (ps_set (i := 6) scLaw.nd rfl (Or.inl rfl) (C8.pe_c (c_cell T L.fCell) hr (by decide) (by rfl) (pa_cons (pv 0) (pa_cons pe_int pa_nil))))
      (pss_cons (ps_set (i := 7) scLaw.nd rfl (Or.inr rfl) (C8.pe_c (c_tiesof T L) hr (by decide) (by rfl) (pa_cons (pv 3) pa_nil)))
      (pss_cons (ps_for PassesOwn.never rfl (pi_list (pe_slice sl_list (pv 0) (po_some pe_int) (po_some pe_int))) (pg_name (i := 8) scLaw.nd rfl (Or.inl rfl))
        (pss_cons (ps_set (i := 9) scLaw.nd rfl (Or.inl rfl) (pe_tup (pa_cons
            (pe_callB (call_min2 rfl) (by rfl) L.min (by decide +kernel) (pa_cons (pe_op op_mod (pv 8) (pv 4)) (pa_cons (pe_op op_mod (pe_op op_fdiv (pv 8) (pv 4)) (pv 4)) pa_nil)))
            (pa_cons (pe_callB (call_max2 rfl) (by rfl) L.max (by decide +kernel) (pa_cons (pe_op op_mod (pv 8) (pv 4)) (pa_cons (pe_op op_mod (pe_op op_fdiv (pv 8) (pv 4)) (pv 4)) pa_nil))) pa_nil))))
        (pss_one (ps_if (PW.pt (pw_and (pt_cmpR op_ne (pe_ix ix_tup (pv 9) pe_int (fun _ _ => rfl)) (pe_ix ix_tup (pv 9) pe_int (fun _ _ => rfl)) (nomark _)) (pw_and1 (pt_cmpR (op_notInD (hu65 hr)) (pv 9) (pv 7) (by rfl)))))
          (pss_one (ps_expr (pe_bm PySem.F.plainAttrs_list PySem.F.slot_list_append PySem.F.type_list_append mt_append (pv 7) (pa_cons (pv 9) pa_nil)))) pss_nil))))
      hrest5)))), ?_⟩
    refine ⟨_, rfl, a, ns, rfl, hS, fun H1 q Hd R as kd hs rss m qs us s1 hq hH hRr hk m5 m16 K0 l9 l10 q10 => ?_⟩
    refine ⟨q, _, rfl, SqT.of hq, rfl, _, _, rfl, _, _, rfl, _, _, rfl, _, _, rfl, rfl, ?_⟩
    have hR := hRr.lists
    have rl : ∀ r ∈ rss, 2 ≤ r.length ∧ r.length ≤ 12 := fun r hr => by
      have := K0.row r hr
      omega
    obtain ⟨as, hRa, eas, rdH⟩ := rows_read hR
    have asl : as.length = rss.length := by rw [← eas]; simp
    -- good
    try dsimp only [tNext, gName, tSeq, tAsg]
    refine ⟨_, rfl, _, rfl, Hd, iL hs, rfl, .inl (SqL.of hH), fun N1 hN1 => ?_⟩
    have s12 := Same.put (o := .lst (iL hs)) hN1
    have n2 : (upd H1 N1 (.lst (iL hs))) N1 = some (.lst (iL hs)) := upd_same
    generalize upd H1 N1 (.lst (iL hs)) = H2 at s12 n2 ⊢
    refine lc_at (K := K) (o := rowO) (i := 3) (j := 14) (p := fun _ => true) (f := rdRow H1) rfl (Nat.lt_of_lt_of_eq (by decide : 14 < 15) rfl) (SqL.of (s12 _ _ hRa)) (by rw [List.length_map]; omega) (fun H3 x Q' _ _ k => yes_ (by exact k H3 (Same.refl H3))) (fun H3 x Q' hx _ s3 q => ?_) (fun H3 N2 cs s23 hN2 d3 c3 => ?_)
    · obtain ⟨y, rfl, hy⟩ := rdH x hx
      exact ⟨_, rfl, y, _, rfl, .inl (SqL.of ((s12.trans s3) _ _ hy)), fun l hl => q _ l (Same.put hl) upd_same (.inl hl)⟩
    rw [List.filter_eq_self.mpr (fun _ _ => rfl), eas] at c3
    refine ⟨by show 3 ≤ sizeLine; decide, fun G hG => ?_⟩
    have s34 := Same.put (o := .tup [.str kd, .ref N1, .ref N2]) hG
    have g4 : (upd H3 G (.tup [.str kd, .ref N1, .ref N2])) G = some (.tup [.str kd, .ref N1, .ref N2]) := upd_same
    have n4 := (s23.trans s34) _ _ n2
    have l4 : ListsAt (upd H3 G (.tup [.str kd, .ref N1, .ref N2])) N2 rss := ⟨cs, s34 _ _ d3, c3.same s34⟩
    have s14 := s12.trans (s23.trans s34)
    generalize upd H3 G (.tup [.str kd, .ref N1, .ref N2]) = H4 at g4 n4 l4 s14 ⊢
    have s04 := s1.trans s14
    try dsimp only [tNext, gName, tSeq, tAsg]
    refine ⟨_, rfl, a, ns, 3, rfl, s04.seq hS, ?_⟩
    generalize cellAt ns 3 = c
    try dsimp only [tNext, gName, tSeq, tAsg]
    -- ties
    refine ⟨_, rfl, R, rss, rfl, hR.same s14, by omega, fun r hr => by have := rl r hr; omega, fun H5 Ti bs s45 hTi t5 c5 _ => ?_⟩
    try dsimp only [tNext, gName, tSeq, tAsg]
    refine ⟨_, rfl, 4, rfl, 7, rfl, a, _, rfl, (s04.trans s45).seq hS, fun X hX => ?_⟩
    obtain ⟨ms, em, _⟩ := cut_iL ns (some 4) (some 7)
    have m3 : ms.length ≤ 3 := by
      have := cut47 (iL ns)
      rw [em, List.length_map] at this
      exact this
    rw [em]
    have XT : X ≠ Ti := fun e => by rw [e, t5] at hX; cases hX
    have few := K0.few
    have m0 : (0 : Int) < (m : Int) := by omega
    refine ⟨X, rfl, ⟨_, SqL.of upd_same⟩, for_list (K := K) (a := X) (xs := iL ms) (fun i σ H6 => ∃ (v8 v9 : Option V) (bs : List Addr) (ts : List Tie), σ = [some (.ref a), some (.str kd), some (.ref Hd), some (.ref R), some (.int m), some (.ref G), some (.int c), some (.ref Ti), v8, v9, none, none, none, none, none] ∧ Same H4 H6 ∧
        H6 X = some (.lst (iL ms)) ∧ H6 Ti = some (.lst (bs.map V.ref)) ∧ Cells tupO H6 bs ts ∧ G8 m ts ∧ ts.length ≤ (tiesL8 rss).length + i ∧ ∀ t ∈ tiesL8 rss, t ∈ ts)
      ⟨none, none, bs, tiesL8 rss, rfl, s45.trans (Same.put hX), upd_same, by rw [upd_ne XT.symm]; exact t5, c5.same (Same.put hX), K0.g, Nat.le_refl _, fun t h => h⟩ (fun i σ H6 _ ⟨_, _, _, _, _, _, h, _⟩ => SqL.of h) ?_ ?_⟩
    · rintro i x σ H6 hi ⟨v8, v9, bs, ts, rfl, s6, x6, t6, c6, g6, l6, in6⟩
      obtain ⟨z, ez, rfl⟩ := iL_at hi
      have il : i < 3 := by
        have := (List.getElem?_eq_some_iff.mp ez).1
        omega
      try dsimp only [tNext, gName, tSeq, tAsg]
      have cdm : CDiv z (m : Int) := ⟨m0, by omega⟩
      refine ⟨_, rfl, _, rfl, _, _, rfl, rfl, m0, _, rfl, _, rfl, _, _, rfl, rfl, cdm, _, rfl, _, _, rfl, rfl, m0, _, _, rfl, _, rfl, _, rfl, _, _, rfl, rfl, m0, _, rfl, _, rfl, _, _, rfl, rfl, cdm, _, rfl, _, _, rfl, rfl, m0, _, _, rfl, by show 2 ≤ sizeLine; decide, fun t ht => ?_⟩
      have y0 := Int.emod_nonneg z (show (m : Int) ≠ 0 by omega)
      have y1 := Int.emod_lt_of_pos z m0
      have y2 := Int.emod_nonneg (z / (m : Int)) (show (m : Int) ≠ 0 by omega)
      have y3 := Int.emod_lt_of_pos (z / (m : Int)) m0
      dsimp only at ht ⊢
      generalize z % (m : Int) = x1 at y0 y1 ht ⊢
      generalize z / (m : Int) % (m : Int) = x2 at y2 y3 ht ⊢
      have e1 : (if x2 < x1 then x2 else x1) = (norm (x1, x2)).1 := by
        unfold norm
        show _ = min x1 x2
        split <;> omega
      have e2 : (if x2 > x1 then x2 else x1) = (norm (x1, x2)).2 := by
        unfold norm
        show _ = max x1 x2
        split <;> omega
      rw [e1, e2]
      have nt : ((norm (x1, x2)).1 ≠ (norm (x1, x2)).2 → 0 ≤ (norm (x1, x2)).1 ∧ (norm (x1, x2)).1 < (norm (x1, x2)).2 ∧ (norm (x1, x2)).2 < (m : Int)) := fun h => by
        refine norm_rng ⟨y0, y1, y2, y3, fun e => h ?_⟩
        unfold norm
        dsimp only at e ⊢
        omega
      generalize norm (x1, x2) = tt at nt ⊢
      have s67 := Same.put (o := .tup [.int tt.1, .int tt.2]) ht
      have t7 : (upd H6 t (.tup [.int tt.1, .int tt.2])) t = some (tupO tt) := upd_same
      have tT : t ≠ Ti := fun e => by rw [e, t6] at ht; cases ht
      generalize upd H6 t (.tup [.int tt.1, .int tt.2]) = H7 at s67 t7 ⊢
      have s47 := s6.trans s67
      have tq := SqT.of (K := K) t7
      have stay : ∃ (v8 v9 : Option V) (bs : List Addr) (ts : List Tie), [some (V.ref a), some (.str kd), some (.ref Hd), some (.ref R), some (.int m), some (.ref G), some (.int c), some (.ref Ti), some (.int z), some (.ref t), none, none, none, none, none] = [some (V.ref a), some (.str kd), some (.ref Hd), some (.ref R), some (.int m), some (.ref G), some (.int c), some (.ref Ti), v8, v9, none, none, none, none, none] ∧ Same H4 H7 ∧
        H7 X = some (.lst (iL ms)) ∧ H7 Ti = some (.lst (bs.map V.ref)) ∧ Cells tupO H7 bs ts ∧ G8 m ts ∧ ts.length ≤ (tiesL8 rss).length + (i + 1) ∧ ∀ t ∈ tiesL8 rss, t ∈ ts :=
        ⟨_, _, bs, ts, rfl, s47, s67 _ _ x6, s67 _ _ t6, c6.same s67, g6, by omega, in6⟩
      try dsimp only [tNext, gName, tSeq, tAsg]
      refine ⟨_, rfl, t, _, 0, _, rfl, rfl, tq, rfl, _, rfl, t, _, 1, _, rfl, rfl, tq, rfl, rfl, _, rfl, ?_⟩
      by_cases c7 : tt.1 = tt.2
      · refine no_ (by rw [decide_eq_true (by rw [c7])]; rfl) (iteF ?_)
        exact stay
      · refine yep_ (by rw [decide_eq_false fun e => c7 (V.int.inj e)]; rfl) ?_
        refine ⟨_, rfl, _, rfl, prd tt, ts.map prd, dp_pair ⟨t, rfl, t7⟩, dp_pairs (SqL.of (s67 _ _ t6)) (pairs_of_cells (c6.same s67)), prd_shaped _, prds_shaped _, _, rfl, ?_⟩
        rw [prds_any]
        by_cases c8 : tt ∈ ts
        · refine no_ (by rw [decide_eq_true c8]; rfl) ?_
          exact stay
        · refine yep_ (by rw [decide_eq_false c8]; rfl) ?_
          have bl : bs.length = ts.length := c6.length
          refine ⟨_, rfl, .inl ⟨rfl, _, SqL.of (s67 _ _ t6)⟩, _, rfl, Ti, _, _, rfl, rfl, s67 _ _ t6, by rw [List.length_map]; exact small (by omega), ?_⟩
          refine ⟨_, _, bs ++ [t], ts ++ [tt], rfl, Same.write s47 hTi, by rw [upd_ne XT]; exact s67 _ _ x6, by rw [upd_same, List.map_append]; rfl, Paired.snoc ((c6.same s67).write (tups_ne t6 c6)) (by rw [upd_ne tT]; exact t7), g6.snoc (nt c7) c8, by rw [List.length_append]; show _ + 1 ≤ _; omega, fun u hu => List.mem_append_left _ (in6 u hu)⟩
    · rintro σ H6 ⟨v8, v9, bs, ts, rfl, s6, x6, t6, c6, g6, l6, in6⟩
      rw [List.length_map] at l6
      have s16 := s14.trans s6
      have ge : (tiesL8 rss).length ≤ ts.length := K0.g.nd.length_le_of_subset in6
      exact sem5 H6 G N1 N2 Hd R Ti kd hs rss m c bs ts v8 v9 (s6 _ _ g4) (s6 _ _ n4) hk (l4.same s6) (by omega) l10 rl (s16 _ _ hH) (hR.same s16) t6 c6 g6 (by omega) (by omega) in6 (by omega) (by omega) m16
end
end Fd
namespace Fd
open PySem PySem.Spec PyProof.Rows L2
theorem fn_mk {K : PySem.W.Frag} {h : Heap} {mg : Str → Option Value} (X : K.In h) (G : h.Ns mainGlobals mg) {x : Str} {st : Stmt} {ps : List Str} {f : Addr} {od an : Option Addr} {sl : Array (Option Value)} {oc kV dc pm cd ct : Value}
    (a : PySem.W.nsIn K mainGlobals x = some (some (.ref f))) (l : K.lookup f = some ⟨oc, od, .func (PySem.W.fnOf x x (defArgs st) (defBody st) (defScope st) .none kV dc pm an cd ct), sl⟩) (c : PySem.W.codeIn K cd x = true) (k : PySem.W.keepIn K (.ref f) = true)
    (hb : ∀ (kV doc pm : Value) (an : Option Addr) (cdv ct : Value) (us : List Value), us.length = ps.length → bindArgs (PySem.W.fnOf x x (defArgs st) (defBody st) (defScope st) .none kV doc pm an cdv ct) ⟨us, []⟩ = pure (ps.zip us)) : Fn K mg x st ps :=
  ⟨f, _, fun_mk l c k, PySem.W.mg_of X G a, (fun_mk l c k).binds hb⟩
theorem fnM_mk {K : PySem.W.Frag} {C : Addr} {m qual : Str} {st : Stmt} {ps : List Str} {f : Addr} {od an : Option Addr} {sl : Array (Option Value)} {oc kV dc pm cd ct : Value}
    (a : PySem.W.findIn K (.ref C) m = some (some (.ref f))) (i : PySem.W.isFn K (.ref f) = true) (l : K.lookup f = some ⟨oc, od, .func (PySem.W.fnOf m qual (defArgs st) (defBody st) (defScope st) .none kV dc pm an cd ct), sl⟩) (c : PySem.W.codeIn K cd qual = true) (k : PySem.W.keepIn K (.ref f) = true)
    (hb : ∀ (kV doc pm : Value) (an : Option Addr) (cdv ct : Value) (us : List Value), us.length = ps.length → bindArgs (PySem.W.fnOf m qual (defArgs st) (defBody st) (defScope st) .none kV doc pm an cdv ct) ⟨us, []⟩ = pure (ps.zip us)) : FnM K C m qual st ps :=
  ⟨f, _, fun_mk l c k, ⟨a, i, k⟩, (fun_mk l c k).binds hb⟩
theorem fnI_mk {K : PySem.W.Frag} {C : Addr} {qual : Str} {st : Stmt} {ps : List Str} {f : Addr} {od an : Option Addr} {sl : Array (Option Value)} {oc kV dc pm cd ct : Value} (mk : PySem.W.makesIn K C = true)
    (a : PySem.W.findIn K (.ref C) "__init__" = some (some (.ref f))) (i : PySem.W.isFn K (.ref f) = true) (kc : PySem.W.keepIn K (.ref C) = true) (l : K.lookup f = some ⟨oc, od, .func (PySem.W.fnOf "__init__" qual (defArgs st) (defBody st) (defScope st) .none kV dc pm an cd ct), sl⟩) (c : PySem.W.codeIn K cd qual = true) (k : PySem.W.keepIn K (.ref f) = true)
    (hb : ∀ (kV doc pm : Value) (an : Option Addr) (cdv ct : Value) (us : List Value), us.length = ps.length → bindArgs (PySem.W.fnOf "__init__" qual (defArgs st) (defBody st) (defScope st) .none kV doc pm an cdv ct) ⟨us, []⟩ = pure (ps.zip us)) : FnI K C qual st ps :=
  ⟨f, _, fun_mk l c k, ⟨mk, a, i, kc⟩, (fun_mk l c k).binds hb⟩
end Fd
namespace Fd
open PySem PySem.Spec PyProof.Rows L2
/-! ### What the top has left, and the end -/
theorem all_mk {l : PySem.W.OpenLaw} {w : World} {K : PySem.W.Frag} {h : Heap} {mg : Str → Option Value} {fa C : Addr} {tmP : Tok} {tmT : Tok} {tF5 : Tok} {tF3 : Tok} {f1 : Addr} {od1 an1 : Option Addr} {sl1 : Array (Option Value)} {oc1 kV1 dc1 pm1 cd1 ct1 : Value} {f2 : Addr} {od2 an2 : Option Addr} {sl2 : Array (Option Value)} {oc2 kV2 dc2 pm2 cd2 ct2 : Value} {f3 : Addr} {od3 an3 : Option Addr} {sl3 : Array (Option Value)} {oc3 kV3 dc3 pm3 cd3 ct3 : Value} {f4 : Addr} {od4 an4 : Option Addr} {sl4 : Array (Option Value)} {oc4 kV4 dc4 pm4 cd4 ct4 : Value} {f5 : Addr} {od5 an5 : Option Addr} {sl5 : Array (Option Value)} {oc5 kV5 dc5 pm5 cd5 ct5 : Value} {f6 : Addr} {od6 an6 : Option Addr} {sl6 : Array (Option Value)} {oc6 kV6 dc6 pm6 cd6 ct6 : Value} {f7 : Addr} {od7 an7 : Option Addr} {sl7 : Array (Option Value)} {oc7 kV7 dc7 pm7 cd7 ct7 : Value} {f8 : Addr} {od8 an8 : Option Addr} {sl8 : Array (Option Value)} {oc8 kV8 dc8 pm8 cd8 ct8 : Value} {f9 : Addr} {od9 an9 : Option Addr} {sl9 : Array (Option Value)} {oc9 kV9 dc9 pm9 cd9 ct9 : Value} {f10 : Addr} {od10 an10 : Option Addr} {sl10 : Array (Option Value)} {oc10 kV10 dc10 pm10 cd10 ct10 : Value} {f11 : Addr} {od11 an11 : Option Addr} {sl11 : Array (Option Value)} {oc11 kV11 dc11 pm11 cd11 ct11 : Value} {f12 : Addr} {od12 an12 : Option Addr} {sl12 : Array (Option Value)} {oc12 kV12 dc12 pm12 cd12 ct12 : Value} {f13 : Addr} {od13 an13 : Option Addr} {sl13 : Array (Option Value)} {oc13 kV13 dc13 pm13 cd13 ct13 : Value} {f14 : Addr} {od14 an14 : Option Addr} {sl14 : Array (Option Value)} {oc14 kV14 dc14 pm14 cd14 ct14 : Value} {f15 : Addr} {od15 an15 : Option Addr} {sl15 : Array (Option Value)} {oc15 kV15 dc15 pm15 cd15 ct15 : Value} {f16 : Addr} {od16 an16 : Option Addr} {sl16 : Array (Option Value)} {oc16 kV16 dc16 pm16 cd16 ct16 : Value} {f17 : Addr} {od17 an17 : Option Addr} {sl17 : Array (Option Value)} {oc17 kV17 dc17 pm17 cd17 ct17 : Value} {f18 : Addr} {od18 an18 : Option Addr} {sl18 : Array (Option Value)} {oc18 kV18 dc18 pm18 cd18 ct18 : Value} {f19 : Addr} {od19 an19 : Option Addr} {sl19 : Array (Option Value)} {oc19 kV19 dc19 pm19 cd19 ct19 : Value} {f20 : Addr} {od20 an20 : Option Addr} {sl20 : Array (Option Value)} {oc20 kV20 dc20 pm20 cd20 ct20 : Value} {f21 : Addr} {od21 an21 : Option Addr} {sl21 : Array (Option Value)} {oc21 kV21 dc21 pm21 cd21 ct21 : Value} {f22 : Addr} {od22 an22 : Option Addr} {sl22 : Array (Option Value)} {oc22 kV22 dc22 pm22 cd22 ct22 : Value} {f23 : Addr} {od23 an23 : Option Addr} {sl23 : Array (Option Value)} {oc23 kV23 dc23 pm23 cd23 ct23 : Value} {f24 : Addr} {od24 an24 : Option Addr} {sl24 : Array (Option Value)} {oc24 kV24 dc24 pm24 cd24 ct24 : Value} {f25 : Addr} {od25 an25 : Option Addr} {sl25 : Array (Option Value)} {oc25 kV25 dc25 pm25 cd25 ct25 : Value} {f26 : Addr} {od26 an26 : Option Addr} {sl26 : Array (Option Value)} {oc26 kV26 dc26 pm26 cd26 ct26 : Value} {f27 : Addr} {od27 an27 : Option Addr} {sl27 : Array (Option Value)} {oc27 kV27 dc27 pm27 cd27 ct27 : Value} {fL : Addr} {odL anL : Option Addr} {slL : Array (Option Value)} {ocL kVL dcL pmL cdL ctL : Value}
    (X : K.In h) (G : h.Ns mainGlobals mg) (hfa : mg "law" = some (.ref fa))
    (aC : PySem.W.nsIn K mainGlobals "Web" = some (some (.ref C)))
    (pg : PySem.W.plainGet K C Str.empty = true)
    (hd : PySem.W.hasDictIn K C = true)
    (po : PySem.W.plainOver K C = true)
    (sa : PySem.W.findIn K (.ref C) "__setattr__" = some (some (.builtin "object.__setattr__")))
    (mk : PySem.W.makesIn K C = true)
    (kc : PySem.W.keepIn K (.ref C) = true)
    (nM : PySem.W.findIn K (.ref C) "many" = some none)
    (nR : PySem.W.findIn K (.ref C) "_rows" = some none)
    (mP : PySem.W.nsIn K mainGlobals "MOST_POINTS" = some (some (.int 16 tmP)))
    (mT : PySem.W.nsIn K mainGlobals "MOST_TIES" = some (some (.int 40 tmT)))
    (z_len : PySem.W.nsIn K mainGlobals "len" = some none)
    (z_type : PySem.W.nsIn K mainGlobals "type" = some none)
    (z_int : PySem.W.nsIn K mainGlobals "int" = some none)
    (z_list : PySem.W.nsIn K mainGlobals "list" = some none)
    (z_tuple : PySem.W.nsIn K mainGlobals "tuple" = some none)
    (z_range : PySem.W.nsIn K mainGlobals "range" = some none)
    (z_sorted : PySem.W.nsIn K mainGlobals "sorted" = some none)
    (z_bool : PySem.W.nsIn K mainGlobals "bool" = some none)
    (z_max : PySem.W.nsIn K mainGlobals "max" = some none)
    (z_min : PySem.W.nsIn K mainGlobals "min" = some none)
    (z_all : PySem.W.nsIn K mainGlobals "all" = some none)
    (z_any : PySem.W.nsIn K mainGlobals "any" = some none)
    (z_zip : PySem.W.nsIn K mainGlobals "zip" = some none)
    (z_set : PySem.W.nsIn K mainGlobals "set" = some none)
    (z_str : PySem.W.nsIn K mainGlobals "str" = some none)
    (z_isi : PySem.W.nsIn K mainGlobals "isinstance" = some none)
    (z_rev : PySem.W.nsIn K mainGlobals "reversed" = some none)
    (aComb : PySem.W.nsIn K mainGlobals "combinations" = some (some (.type "itertools.combinations")))
    (aFive : PySem.W.nsIn K mainGlobals "FIVE" = some (some (.str "five" tF5)))
    (aThree : PySem.W.nsIn K mainGlobals "THREE" = some (some (.str "three" tF3)))
    (a1 : PySem.W.nsIn K mainGlobals "is_number" = some (some (.ref f1)))
    (l1 : K.lookup f1 = some ⟨oc1, od1, .func (PySem.W.fnOf "is_number" "is_number" (defArgs sIsNumber) (defBody sIsNumber) (defScope sIsNumber) .none kV1 dc1 pm1 an1 cd1 ct1), sl1⟩)
    (c1 : PySem.W.codeIn K cd1 "is_number" = true)
    (k1 : PySem.W.keepIn K (.ref f1) = true)
    (a2 : PySem.W.nsIn K mainGlobals "is_point" = some (some (.ref f2)))
    (l2 : K.lookup f2 = some ⟨oc2, od2, .func (PySem.W.fnOf "is_point" "is_point" (defArgs sIsPoint) (defBody sIsPoint) (defScope sIsPoint) .none kV2 dc2 pm2 an2 cd2 ct2), sl2⟩)
    (c2 : PySem.W.codeIn K cd2 "is_point" = true)
    (k2 : PySem.W.keepIn K (.ref f2) = true)
    (a3 : PySem.W.nsIn K mainGlobals "_is_tie" = some (some (.ref f3)))
    (l3 : K.lookup f3 = some ⟨oc3, od3, .func (PySem.W.fnOf "_is_tie" "_is_tie" (defArgs sIsTie) (defBody sIsTie) (defScope sIsTie) .none kV3 dc3 pm3 an3 cd3 ct3), sl3⟩)
    (c3 : PySem.W.codeIn K cd3 "_is_tie" = true)
    (k3 : PySem.W.keepIn K (.ref f3) = true)
    (a4 : PySem.W.nsIn K mainGlobals "_joined" = some (some (.ref f4)))
    (l4 : K.lookup f4 = some ⟨oc4, od4, .func (PySem.W.fnOf "_joined" "_joined" (defArgs sJoined) (defBody sJoined) (defScope sJoined) .none kV4 dc4 pm4 an4 cd4 ct4), sl4⟩)
    (c4 : PySem.W.codeIn K cd4 "_joined" = true)
    (k4 : PySem.W.keepIn K (.ref f4) = true)
    (a5 : PySem.W.nsIn K mainGlobals "_are_points" = some (some (.ref f5)))
    (l5 : K.lookup f5 = some ⟨oc5, od5, .func (PySem.W.fnOf "_are_points" "_are_points" (defArgs sArePoints) (defBody sArePoints) (defScope sArePoints) .none kV5 dc5 pm5 an5 cd5 ct5), sl5⟩)
    (c5 : PySem.W.codeIn K cd5 "_are_points" = true)
    (k5 : PySem.W.keepIn K (.ref f5) = true)
    (a6 : PySem.W.nsIn K mainGlobals "_rise" = some (some (.ref f6)))
    (l6 : K.lookup f6 = some ⟨oc6, od6, .func (PySem.W.fnOf "_rise" "_rise" (defArgs sRise) (defBody sRise) (defScope sRise) .none kV6 dc6 pm6 an6 cd6 ct6), sl6⟩)
    (c6 : PySem.W.codeIn K cd6 "_rise" = true)
    (k6 : PySem.W.keepIn K (.ref f6) = true)
    (a7 : PySem.W.nsIn K mainGlobals "_differ" = some (some (.ref f7)))
    (l7 : K.lookup f7 = some ⟨oc7, od7, .func (PySem.W.fnOf "_differ" "_differ" (defArgs sDiffer) (defBody sDiffer) (defScope sDiffer) .none kV7 dc7 pm7 an7 cd7 ct7), sl7⟩)
    (c7 : PySem.W.codeIn K cd7 "_differ" = true)
    (k7 : PySem.W.keepIn K (.ref f7) = true)
    (a8 : PySem.W.nsIn K mainGlobals "_is_row" = some (some (.ref f8)))
    (l8 : K.lookup f8 = some ⟨oc8, od8, .func (PySem.W.fnOf "_is_row" "_is_row" (defArgs sIsRow) (defBody sIsRow) (defScope sIsRow) .none kV8 dc8 pm8 an8 cd8 ct8), sl8⟩)
    (c8 : PySem.W.codeIn K cd8 "_is_row" = true)
    (k8 : PySem.W.keepIn K (.ref f8) = true)
    (a9 : PySem.W.nsIn K mainGlobals "_are_heads" = some (some (.ref f9)))
    (l9 : K.lookup f9 = some ⟨oc9, od9, .func (PySem.W.fnOf "_are_heads" "_are_heads" (defArgs sAreHeads) (defBody sAreHeads) (defScope sAreHeads) .none kV9 dc9 pm9 an9 cd9 ct9), sl9⟩)
    (c9 : PySem.W.codeIn K cd9 "_are_heads" = true)
    (k9 : PySem.W.keepIn K (.ref f9) = true)
    (a10 : PySem.W.nsIn K mainGlobals "_are_rows" = some (some (.ref f10)))
    (l10 : K.lookup f10 = some ⟨oc10, od10, .func (PySem.W.fnOf "_are_rows" "_are_rows" (defArgs sAreRows) (defBody sAreRows) (defScope sAreRows) .none kV10 dc10 pm10 an10 cd10 ct10), sl10⟩)
    (c10 : PySem.W.codeIn K cd10 "_are_rows" = true)
    (k10 : PySem.W.keepIn K (.ref f10) = true)
    (a11 : PySem.W.nsIn K mainGlobals "_pairs" = some (some (.ref f11)))
    (l11 : K.lookup f11 = some ⟨oc11, od11, .func (PySem.W.fnOf "_pairs" "_pairs" (defArgs sPairs) (defBody sPairs) (defScope sPairs) .none kV11 dc11 pm11 an11 cd11 ct11), sl11⟩)
    (c11 : PySem.W.codeIn K cd11 "_pairs" = true)
    (k11 : PySem.W.keepIn K (.ref f11) = true)
    (a12 : PySem.W.nsIn K mainGlobals "is_knot" = some (some (.ref f12)))
    (l12 : K.lookup f12 = some ⟨oc12, od12, .func (PySem.W.fnOf "is_knot" "is_knot" (defArgs sIsKnot) (defBody sIsKnot) (defScope sIsKnot) .none kV12 dc12 pm12 an12 cd12 ct12), sl12⟩)
    (c12 : PySem.W.codeIn K cd12 "is_knot" = true)
    (k12 : PySem.W.keepIn K (.ref f12) = true)
    (a13 : PySem.W.nsIn K mainGlobals "_law_cell_at" = some (some (.ref f13)))
    (l13 : K.lookup f13 = some ⟨oc13, od13, .func (PySem.W.fnOf "_law_cell_at" "_law_cell_at" (defArgs sLawCellAt) (defBody sLawCellAt) (defScope sLawCellAt) .none kV13 dc13 pm13 an13 cd13 ct13), sl13⟩)
    (c13 : PySem.W.codeIn K cd13 "_law_cell_at" = true)
    (k13 : PySem.W.keepIn K (.ref f13) = true)
    (a14 : PySem.W.nsIn K mainGlobals "_law_order_by" = some (some (.ref f14)))
    (l14 : K.lookup f14 = some ⟨oc14, od14, .func (PySem.W.fnOf "_law_order_by" "_law_order_by" (defArgs sLawOrderBy) (defBody sLawOrderBy) (defScope sLawOrderBy) .none kV14 dc14 pm14 an14 cd14 ct14), sl14⟩)
    (c14 : PySem.W.codeIn K cd14 "_law_order_by" = true)
    (k14 : PySem.W.keepIn K (.ref f14) = true)
    (a15 : PySem.W.nsIn K mainGlobals "_law_ends" = some (some (.ref f15)))
    (l15 : K.lookup f15 = some ⟨oc15, od15, .func (PySem.W.fnOf "_law_ends" "_law_ends" (defArgs sLawEnds) (defBody sLawEnds) (defScope sLawEnds) .none kV15 dc15 pm15 an15 cd15 ct15), sl15⟩)
    (c15 : PySem.W.codeIn K cd15 "_law_ends" = true)
    (k15 : PySem.W.keepIn K (.ref f15) = true)
    (a16 : PySem.W.nsIn K mainGlobals "_law_pairs" = some (some (.ref f16)))
    (l16 : K.lookup f16 = some ⟨oc16, od16, .func (PySem.W.fnOf "_law_pairs" "_law_pairs" (defArgs sLawPairs) (defBody sLawPairs) (defScope sLawPairs) .none kV16 dc16 pm16 an16 cd16 ct16), sl16⟩)
    (c16 : PySem.W.codeIn K cd16 "_law_pairs" = true)
    (k16 : PySem.W.keepIn K (.ref f16) = true)
    (a17 : PySem.W.nsIn K mainGlobals "_law_knot_by" = some (some (.ref f17)))
    (l17 : K.lookup f17 = some ⟨oc17, od17, .func (PySem.W.fnOf "_law_knot_by" "_law_knot_by" (defArgs sLawKnotBy) (defBody sLawKnotBy) (defScope sLawKnotBy) .none kV17 dc17 pm17 an17 cd17 ct17), sl17⟩)
    (c17 : PySem.W.codeIn K cd17 "_law_knot_by" = true)
    (k17 : PySem.W.keepIn K (.ref f17) = true)
    (a18 : PySem.W.nsIn K mainGlobals "_law_ties_of" = some (some (.ref f18)))
    (l18 : K.lookup f18 = some ⟨oc18, od18, .func (PySem.W.fnOf "_law_ties_of" "_law_ties_of" (defArgs sLawTiesOf) (defBody sLawTiesOf) (defScope sLawTiesOf) .none kV18 dc18 pm18 an18 cd18 ct18), sl18⟩)
    (c18 : PySem.W.codeIn K cd18 "_law_ties_of" = true)
    (k18 : PySem.W.keepIn K (.ref f18) = true)
    (a19 : PySem.W.nsIn K mainGlobals "_law_spoilt_heads" = some (some (.ref f19)))
    (l19 : K.lookup f19 = some ⟨oc19, od19, .func (PySem.W.fnOf "_law_spoilt_heads" "_law_spoilt_heads" (defArgs sLawSpoiltHeads) (defBody sLawSpoiltHeads) (defScope sLawSpoiltHeads) .none kV19 dc19 pm19 an19 cd19 ct19), sl19⟩)
    (c19 : PySem.W.codeIn K cd19 "_law_spoilt_heads" = true)
    (k19 : PySem.W.keepIn K (.ref f19) = true)
    (a20 : PySem.W.nsIn K mainGlobals "_law_spoilt_rows" = some (some (.ref f20)))
    (l20 : K.lookup f20 = some ⟨oc20, od20, .func (PySem.W.fnOf "_law_spoilt_rows" "_law_spoilt_rows" (defArgs sLawSpoiltRows) (defBody sLawSpoiltRows) (defScope sLawSpoiltRows) .none kV20 dc20 pm20 an20 cd20 ct20), sl20⟩)
    (c20 : PySem.W.codeIn K cd20 "_law_spoilt_rows" = true)
    (k20 : PySem.W.keepIn K (.ref f20) = true)
    (a21 : PySem.W.nsIn K mainGlobals "_law_relaid" = some (some (.ref f21)))
    (l21 : K.lookup f21 = some ⟨oc21, od21, .func (PySem.W.fnOf "_law_relaid" "_law_relaid" (defArgs sLawRelaid) (defBody sLawRelaid) (defScope sLawRelaid) .none kV21 dc21 pm21 an21 cd21 ct21), sl21⟩)
    (c21 : PySem.W.codeIn K cd21 "_law_relaid" = true)
    (k21 : PySem.W.keepIn K (.ref f21) = true)
    (a22 : PySem.W.nsIn K mainGlobals "_law_other_heads" = some (some (.ref f22)))
    (l22 : K.lookup f22 = some ⟨oc22, od22, .func (PySem.W.fnOf "_law_other_heads" "_law_other_heads" (defArgs sLawOtherHeads) (defBody sLawOtherHeads) (defScope sLawOtherHeads) .none kV22 dc22 pm22 an22 cd22 ct22), sl22⟩)
    (c22 : PySem.W.codeIn K cd22 "_law_other_heads" = true)
    (k22 : PySem.W.keepIn K (.ref f22) = true)
    (a23 : PySem.W.nsIn K mainGlobals "_law_heads_fit" = some (some (.ref f23)))
    (l23 : K.lookup f23 = some ⟨oc23, od23, .func (PySem.W.fnOf "_law_heads_fit" "_law_heads_fit" (defArgs sLawHeadsFit) (defBody sLawHeadsFit) (defScope sLawHeadsFit) .none kV23 dc23 pm23 an23 cd23 ct23), sl23⟩)
    (c23 : PySem.W.codeIn K cd23 "_law_heads_fit" = true)
    (k23 : PySem.W.keepIn K (.ref f23) = true)
    (a24 : PySem.W.nsIn K mainGlobals "_law_is_knot" = some (some (.ref f24)))
    (l24 : K.lookup f24 = some ⟨oc24, od24, .func (PySem.W.fnOf "_law_is_knot" "_law_is_knot" (defArgs sLawIsKnot) (defBody sLawIsKnot) (defScope sLawIsKnot) .none kV24 dc24 pm24 an24 cd24 ct24), sl24⟩)
    (c24 : PySem.W.codeIn K cd24 "_law_is_knot" = true)
    (k24 : PySem.W.keepIn K (.ref f24) = true)
    (a25 : PySem.W.findIn K (.ref C) "__init__" = some (some (.ref f25)))
    (i25 : PySem.W.isFn K (.ref f25) = true)
    (l25 : K.lookup f25 = some ⟨oc25, od25, .func (PySem.W.fnOf "__init__" "Web.__init__" (defArgs sWebInit) (defBody sWebInit) (defScope sWebInit) .none kV25 dc25 pm25 an25 cd25 ct25), sl25⟩)
    (c25 : PySem.W.codeIn K cd25 "Web.__init__" = true)
    (k25 : PySem.W.keepIn K (.ref f25) = true)
    (a26 : PySem.W.findIn K (.ref C) "_check_point" = some (some (.ref f26)))
    (i26 : PySem.W.isFn K (.ref f26) = true)
    (l26 : K.lookup f26 = some ⟨oc26, od26, .func (PySem.W.fnOf "_check_point" "Web._check_point" (defArgs sWebCheckPoint) (defBody sWebCheckPoint) (defScope sWebCheckPoint) .none kV26 dc26 pm26 an26 cd26 ct26), sl26⟩)
    (c26 : PySem.W.codeIn K cd26 "Web._check_point" = true)
    (k26 : PySem.W.keepIn K (.ref f26) = true)
    (a27 : PySem.W.findIn K (.ref C) "tied" = some (some (.ref f27)))
    (i27 : PySem.W.isFn K (.ref f27) = true)
    (l27 : K.lookup f27 = some ⟨oc27, od27, .func (PySem.W.fnOf "tied" "Web.tied" (defArgs sWebTied) (defBody sWebTied) (defScope sWebTied) .none kV27 dc27 pm27 an27 cd27 ct27), sl27⟩)
    (c27 : PySem.W.codeIn K cd27 "Web.tied" = true)
    (k27 : PySem.W.keepIn K (.ref f27) = true)
    (aL : PySem.W.nsIn K mainGlobals "law" = some (some (.ref fL)))
    (lL : K.lookup fL = some ⟨ocL, odL, .func (PySem.W.fnOf "law" "law" (defArgs sLaw) (defBody sLaw) (defScope sLaw) .none kVL dcL pmL anL cdL ctL), slL⟩)
    (cL : PySem.W.codeIn K cdL "law" = true)
    (kL : PySem.W.keepIn K (.ref fL) = true)
    : ∃ fd : FuncData, (∀ (s : Shared) (v : Value), BindsTo s fd ⟨[v], []⟩ [("_law_script", v)]) ∧ ∀ base : Heap, K.In base → base.Ns mainGlobals mg → FnOk l.prog w K mg base L2.CX0 8 fa fd ["_law_script"] (spLaw K) := by
  have e := hfa.symm.trans (PySem.W.mg_of X G aL)
  cases e
  have T : WTxt K mg C := { cl := ⟨pg, hd, po, sa⟩, nMany := nM, nRows := nR, gWeb := PySem.W.mg_of X G aC, mostP := ⟨_, PySem.W.mg_of X G mP⟩, mostT := ⟨_, PySem.W.mg_of X G mT⟩, len := PySem.W.mg_none_of X G z_len, type := PySem.W.mg_none_of X G z_type, int := PySem.W.mg_none_of X G z_int, list := PySem.W.mg_none_of X G z_list, tuple := PySem.W.mg_none_of X G z_tuple, range := PySem.W.mg_none_of X G z_range, sorted := PySem.W.mg_none_of X G z_sorted, fNum := (fn_mk (ps := ["thing"]) X G a1 l1 c1 k1 fun _ _ _ _ _ _ us hl => match us, hl with | [_], _ => rfl), fPoint := (fn_mk (ps := ["many", "thing"]) X G a2 l2 c2 k2 fun _ _ _ _ _ _ us hl => match us, hl with | [_, _], _ => rfl), fTie := (fn_mk (ps := ["many", "thing"]) X G a3 l3 c3 k3 fun _ _ _ _ _ _ us hl => match us, hl with | [_, _], _ => rfl), fJoined := (fn_mk (ps := ["many", "ties"]) X G a4 l4 c4 k4 fun _ _ _ _ _ _ us hl => match us, hl with | [_, _], _ => rfl), fInit := (fnI_mk (ps := ["self", "many", "ties"]) mk a25 i25 kc l25 c25 k25 fun _ _ _ _ _ _ us hl => match us, hl with | [_, _, _], _ => rfl) }
  have U : P8Txt K mg C := { all := PySem.W.mg_none_of X G z_all, any := PySem.W.mg_none_of X G z_any, zip := PySem.W.mg_none_of X G z_zip, set := PySem.W.mg_none_of X G z_set, str := PySem.W.mg_none_of X G z_str, comb := PySem.W.mg_of X G aComb, five := ⟨_, PySem.W.mg_of X G aFive⟩, three := ⟨_, PySem.W.mg_of X G aThree⟩, fPts := (fn_mk (ps := ["web", "things"]) X G a5 l5 c5 k5 fun _ _ _ _ _ _ us hl => match us, hl with | [_, _], _ => rfl), fRise := (fn_mk (ps := ["points"]) X G a6 l6 c6 k6 fun _ _ _ _ _ _ us hl => match us, hl with | [_], _ => rfl), fDiffer := (fn_mk (ps := ["points"]) X G a7 l7 c7 k7 fun _ _ _ _ _ _ us hl => match us, hl with | [_], _ => rfl), fRow := (fn_mk (ps := ["web", "row"]) X G a8 l8 c8 k8 fun _ _ _ _ _ _ us hl => match us, hl with | [_, _], _ => rfl), fHeads := (fn_mk (ps := ["web", "kind", "heads"]) X G a9 l9 c9 k9 fun _ _ _ _ _ _ us hl => match us, hl with | [_, _, _], _ => rfl), fRows := (fn_mk (ps := ["web", "pairs", "rows"]) X G a10 l10 c10 k10 fun _ _ _ _ _ _ us hl => match us, hl with | [_, _, _], _ => rfl), fPairs := (fn_mk (ps := ["kind", "heads"]) X G a11 l11 c11 k11 fun _ _ _ _ _ _ us hl => match us, hl with | [_, _], _ => rfl), fKnot := (fn_mk (ps := ["web", "found"]) X G a12 l12 c12 k12 fun _ _ _ _ _ _ us hl => match us, hl with | [_, _], _ => rfl), fC := (fnM_mk (ps := ["self", "thing"]) a26 i26 l26 c26 k26 fun _ _ _ _ _ _ us hl => match us, hl with | [_, _], _ => rfl), fT := (fnM_mk (ps := ["self", "one", "other"]) a27 i27 l27 c27 k27 fun _ _ _ _ _ _ us hl => match us, hl with | [_, _, _], _ => rfl) }
  have L : L8Txt K mg := { isi := PySem.W.mg_none_of X G z_isi, bool := PySem.W.mg_none_of X G z_bool, min := PySem.W.mg_none_of X G z_min, max := PySem.W.mg_none_of X G z_max, rev := PySem.W.mg_none_of X G z_rev, fCell := (fn_mk (ps := ["_law_script", "_law_k"]) X G a13 l13 c13 k13 fun _ _ _ _ _ _ us hl => match us, hl with | [_, _], _ => rfl), fOrder := (fn_mk (ps := ["_law_cell", "_law_many"]) X G a14 l14 c14 k14 fun _ _ _ _ _ _ us hl => match us, hl with | [_, _], _ => rfl), fEnds := (fn_mk (ps := ["_law_kind", "_law_heads"]) X G a15 l15 c15 k15 fun _ _ _ _ _ _ us hl => match us, hl with | [_, _], _ => rfl), fPairs := (fn_mk (ps := ["_law_size"]) X G a16 l16 c16 k16 fun _ _ _ _ _ _ us hl => match us, hl with | [_], _ => rfl), fKnotBy := (fn_mk (ps := ["_law_script"]) X G a17 l17 c17 k17 fun _ _ _ _ _ _ us hl => match us, hl with | [_], _ => rfl), fTiesOf := (fn_mk (ps := ["_law_rows"]) X G a18 l18 c18 k18 fun _ _ _ _ _ _ us hl => match us, hl with | [_], _ => rfl), fSpH := (fn_mk (ps := ["_law_heads", "_law_cell", "_law_many"]) X G a19 l19 c19 k19 fun _ _ _ _ _ _ us hl => match us, hl with | [_, _, _], _ => rfl), fSpR := (fn_mk (ps := ["_law_rows", "_law_cell", "_law_many"]) X G a20 l20 c20 k20 fun _ _ _ _ _ _ us hl => match us, hl with | [_, _, _], _ => rfl), fRelaid := (fn_mk (ps := ["_law_kind", "_law_heads", "_law_rows"]) X G a21 l21 c21 k21 fun _ _ _ _ _ _ us hl => match us, hl with | [_, _, _], _ => rfl), fOther := (fn_mk (ps := ["_law_heads", "_law_cell"]) X G a22 l22 c22 k22 fun _ _ _ _ _ _ us hl => match us, hl with | [_, _], _ => rfl), fFit := (fn_mk (ps := ["_law_kind", "_law_heads", "_law_many"]) X G a23 l23 c23 k23 fun _ _ _ _ _ _ us hl => match us, hl with | [_, _, _], _ => rfl), fIsKnot := (fn_mk (ps := ["_law_kind", "_law_heads", "_law_rows", "_law_ties", "_law_many"]) X G a24 l24 c24 k24 fun _ _ _ _ _ _ us hl => match us, hl with | [_, _, _, _, _], _ => rfl) }
  exact ⟨_, fun s v => .of_eq rfl, fun base _ _ => ok_law (fun_mk (st := sLaw) lL cL kL) T U L⟩
theorem walk_law {l : PySem.W.OpenLaw} {q : Program} {loose : List Str} {XP : (Str → Option Value) → Heap → Prop} {YP : World → Heap → Prop} {d : DefRec} {K : Params → PySem.W.Frag} (hn : l.most = some 63) (hdf : d.params.defaults = [])
    (hY : ∀ (w : World) (h : Heap), YP w h → (K w.params).In h)
    (F : ∀ (w : World) (mg : Str → Option Value) (fa : Addr) (h : Heap), (K w.params).In h → h.Ns mainGlobals mg → mg d.name = some (.ref fa) →
      ∃ fd : FuncData, (∀ (s : Shared) (u : Value), BindsTo s fd ⟨[u], []⟩ [("_law_script", u)]) ∧ ∀ base : Heap, (K w.params).In base → base.Ns mainGlobals mg → FnOk l.prog w (K w.params) mg base L2.CX0 8 fa fd ["_law_script"] (spLaw (K w.params))) :
    PySem.W.WalkO q loose XP YP l.row.toRowW d [] (fun f vs => PySem.call f vs) :=
  L2.walk_of (n := 63) (k := 8) (x := "_law_script") (CX := fun _ => L2.CX0) (sp := fun w => spLaw (K w.params)) hn (by decide) hdf ⟨rfl, by decide, by decide⟩ hY F (fun _ _ a ns hl _ hS => ⟨a, ns, rfl, hS, fun _ => rfl⟩) fun _ _ _ _ _ z => z
end Fd
open PySem PySem.W PyProof.Rows
set_option maxRecDepth 100000 in
set_option maxHeartbeats 0 in
theorem PySem.Challenge.cw_flatdraw_k08_knots_looked_at_holds : PySem.Challenge.rw_flatdraw_k08_knots_looked_at.Holds := by
  w_on; o_law; k_head; (case hw => w_witness2)
  k_fill
  refine Fd.walk_law (l := PySem.Challenge.rw_flatdraw_k08_knots_looked_at) rfl rfl (fun w h Y => PySem.W.kIn_of Y) ?F
  case F =>
    intro w mg fa h KX G hmg
    refine' Fd.all_mk KX G hmg ?aC ?pg ?hd ?po ?sa ?mk ?kc ?nM ?nR ?mP ?mT ?z_len ?z_type ?z_int ?z_list ?z_tuple ?z_range ?z_sorted ?z_bool ?z_max ?z_min ?z_all ?z_any ?z_zip ?z_set ?z_str ?z_isi ?z_rev ?aComb ?aFive ?aThree ?a1 ?l1 ?c1 ?k1 ?a2 ?l2 ?c2 ?k2 ?a3 ?l3 ?c3 ?k3 ?a4 ?l4 ?c4 ?k4 ?a5 ?l5 ?c5 ?k5 ?a6 ?l6 ?c6 ?k6 ?a7 ?l7 ?c7 ?k7 ?a8 ?l8 ?c8 ?k8 ?a9 ?l9 ?c9 ?k9 ?a10 ?l10 ?c10 ?k10 ?a11 ?l11 ?c11 ?k11 ?a12 ?l12 ?c12 ?k12 ?a13 ?l13 ?c13 ?k13 ?a14 ?l14 ?c14 ?k14 ?a15 ?l15 ?c15 ?k15 ?a16 ?l16 ?c16 ?k16 ?a17 ?l17 ?c17 ?k17 ?a18 ?l18 ?c18 ?k18 ?a19 ?l19 ?c19 ?k19 ?a20 ?l20 ?c20 ?k20 ?a21 ?l21 ?c21 ?k21 ?a22 ?l22 ?c22 ?k22 ?a23 ?l23 ?c23 ?k23 ?a24 ?l24 ?c24 ?k24 ?a25 ?i25 ?l25 ?c25 ?k25 ?a26 ?i26 ?l26 ?c26 ?k26 ?a27 ?i27 ?l27 ?c27 ?k27 ?aL ?lL ?cL ?kL
    (case aC => k_is)
    (case pg => k_is)
    (case hd => k_is)
    (case po => k_is)
    (case sa => k_is)
    (case mk => k_is)
    (case kc => k_is)
    (case nM => k_is)
    (case nR => k_is)
    (case mP => k_is)
    (case mT => k_is)
    (case z_len => k_is)
    (case z_type => k_is)
    (case z_int => k_is)
    (case z_list => k_is)
    (case z_tuple => k_is)
    (case z_range => k_is)
    (case z_sorted => k_is)
    (case z_bool => k_is)
    (case z_max => k_is)
    (case z_min => k_is)
    (case z_all => k_is)
    (case z_any => k_is)
    (case z_zip => k_is)
    (case z_set => k_is)
    (case z_str => k_is)
    (case z_isi => k_is)
    (case z_rev => k_is)
    (case aComb => k_is)
    (case aFive => k_is)
    (case aThree => k_is)
    (case a1 => k_is)
    (case l1 => k_is)
    (case c1 => k_is)
    (case k1 => k_is)
    (case a2 => k_is)
    (case l2 => k_is)
    (case c2 => k_is)
    (case k2 => k_is)
    (case a3 => k_is)
    (case l3 => k_is)
    (case c3 => k_is)
    (case k3 => k_is)
    (case a4 => k_is)
    (case l4 => k_is)
    (case c4 => k_is)
    (case k4 => k_is)
    (case a5 => k_is)
    (case l5 => k_is)
    (case c5 => k_is)
    (case k5 => k_is)
    (case a6 => k_is)
    (case l6 => k_is)
    (case c6 => k_is)
    (case k6 => k_is)
    (case a7 => k_is)
    (case l7 => k_is)
    (case c7 => k_is)
    (case k7 => k_is)
    (case a8 => k_is)
    (case l8 => k_is)
    (case c8 => k_is)
    (case k8 => k_is)
    (case a9 => k_is)
    (case l9 => k_is)
    (case c9 => k_is)
    (case k9 => k_is)
    (case a10 => k_is)
    (case l10 => k_is)
    (case c10 => k_is)
    (case k10 => k_is)
    (case a11 => k_is)
    (case l11 => k_is)
    (case c11 => k_is)
    (case k11 => k_is)
    (case a12 => k_is)
    (case l12 => k_is)
    (case c12 => k_is)
    (case k12 => k_is)
    (case a13 => k_is)
    (case l13 => k_is)
    (case c13 => k_is)
    (case k13 => k_is)
    (case a14 => k_is)
    (case l14 => k_is)
    (case c14 => k_is)
    (case k14 => k_is)
    (case a15 => k_is)
    (case l15 => k_is)
    (case c15 => k_is)
    (case k15 => k_is)
    (case a16 => k_is)
    (case l16 => k_is)
    (case c16 => k_is)
    (case k16 => k_is)
    (case a17 => k_is)
    (case l17 => k_is)
    (case c17 => k_is)
    (case k17 => k_is)
    (case a18 => k_is)
    (case l18 => k_is)
    (case c18 => k_is)
    (case k18 => k_is)
    (case a19 => k_is)
    (case l19 => k_is)
    (case c19 => k_is)
    (case k19 => k_is)
    (case a20 => k_is)
    (case l20 => k_is)
    (case c20 => k_is)
    (case k20 => k_is)
    (case a21 => k_is)
    (case l21 => k_is)
    (case c21 => k_is)
    (case k21 => k_is)
    (case a22 => k_is)
    (case l22 => k_is)
    (case c22 => k_is)
    (case k22 => k_is)
    (case a23 => k_is)
    (case l23 => k_is)
    (case c23 => k_is)
    (case k23 => k_is)
    (case a24 => k_is)
    (case l24 => k_is)
    (case c24 => k_is)
    (case k24 => k_is)
    (case a25 => k_is)
    (case i25 => k_is)
    (case l25 => k_is)
    (case c25 => k_is)
    (case k25 => k_is)
    (case a26 => k_is)
    (case i26 => k_is)
    (case l26 => k_is)
    (case c26 => k_is)
    (case k26 => k_is)
    (case a27 => k_is)
    (case i27 => k_is)
    (case l27 => k_is)
    (case c27 => k_is)
    (case k27 => k_is)
    (case aL => k_is)
    (case lL => k_is)
    (case cL => k_is)
    (case kL => k_is)
