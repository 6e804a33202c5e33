import PyProof.Rows.All
import Wide.All
import OpenK.AllK
import Wide.FinOn
import HandS.ForMost
import HandS.Wide
import HandS.Evl
import HandS.IsInst
import PyProof.ReprRoads
import PyProof.ReprReads
import PyProof.ReprLen
import HandS.Conv
import KE.GoesMore
import HandS.Style
import HandS.Deep
import HandS.SortInts
import HandS.Gcd
import KE.KMathGC
import HandS.TupLen
import HandS.DictComp
import HandS.Zip
import KE.GoesZip
import HandS.SetBool
import HandS.Strs
import PyProof.Rows.SortShellAny
import HandS.Rev
import HandS.TryOnly
import HandS.EndBits
import KE.IntBitsLaws
import KE.KDictDisplayH
import PyProof.LongRange
import HandS.SetFor
import HandS.ExcOwn
import HandS.WordsExc
import HandS.ExcIs
import HandS.Property
import PyProof.InstSpecial
import PyProof.ZipIter
import KE.KItemsList
import HandS.Codes
import KE.DataMinKey
import KE.LtData
import HandS.FStr
import HandS.Walk
import PyProof.StrBlock2
import KE.KxText
import KE.IntTextLaws
import PySem.Challenge.RW_twocombs_k44_written_texts
set_option Elab.async false
set_option linter.all false
set_option maxRecDepth 100000
set_option maxHeartbeats 4000000
/-! PD1: data in the heap, states of slots over data, what an expression comes to -/
namespace PD
open PySem PySem.Spec PyProof.Rows L2 Evl
abbrev D := PyData

mutual
/-- the value v bears the data d in the heap G -/
inductive R (G : Hp) : V → D → Prop
  | non : R G .non .none
  | bl (b : Bool) : R G (.bl b) (.bool b)
  | int (i : Int) : R G (.int i) (.int i)
  | str (x : Str) : R G (.str x) (.str x)
  | lst {a : Addr} {xs : List V} {ds : List D} : G a = some (.lst xs) → RA G xs ds → R G (.ref a) (.list ds)
  | tup {a : Addr} {xs : List V} {ds : List D} : G a = some (.tup xs) → RA G xs ds → R G (.ref a) (.tuple ds)
inductive RA (G : Hp) : List V → List D → Prop
  | nil : RA G [] []
  | cons {v : V} {vs : List V} {d : D} {ds : List D} : R G v d → RA G vs ds → RA G (v :: vs) (d :: ds)
end
mutual
theorem R.mono {G G' : Hp} (e : Ex G G') : ∀ (d : D) (v : V), R G v d → R G' v d
  | .none, _, h => by cases h; exact .non
  | .bool b, _, h => by cases h; exact .bl b
  | .int i, _, h => by cases h; exact .int i
  | .str x, _, h => by cases h; exact .str x
  | .list ds, _, h => by
    cases h with
    | lst a b => exact .lst (e _ _ a) (RA.mono e ds _ b)
  | .tuple ds, _, h => by
    cases h with
    | tup a b => exact .tup (e _ _ a) (RA.mono e ds _ b)
  | .dict _, _, h => by cases h
theorem RA.mono {G G' : Hp} (e : Ex G G') : ∀ (ds : List D) (vs : List V), RA G vs ds → RA G' vs ds
  | [], _, h => by cases h; exact .nil
  | d :: ds, _, h => by
    cases h with
    | cons a b => exact .cons (R.mono e d _ a) (RA.mono e ds _ b)
end
theorem R.up {G G' : Hp} {v : V} {d : D} (h : R G v d) (e : Ex G G') : R G' v d := R.mono e d v h
theorem RA.up {G G' : Hp} {v : List V} {d : List D} (h : RA G v d) (e : Ex G G') : RA G' v d := RA.mono e d v h
mutual
theorem R.dp {K : PySem.W.Frag} {G : Hp} : ∀ (d : D) (v : V), R G v d → Dp K G v d
  | .none, _, h => by cases h; exact .non
  | .bool b, _, h => by cases h; exact .bl b
  | .int i, _, h => by cases h; exact .int i
  | .str x, _, h => by cases h; exact .str x
  | .list ds, _, h => by
    cases h with
    | lst a b => exact .lst (SqL.of a) (RA.dp ds _ b)
  | .tuple ds, _, h => by
    cases h with
    | tup a b => exact .tup (SqT.of a) (RA.dp ds _ b)
  | .dict _, _, h => by cases h
theorem RA.dp {K : PySem.W.Frag} {G : Hp} : ∀ (ds : List D) (vs : List V), RA G vs ds → DpAll K G vs ds
  | [], _, h => by cases h; exact .nil
  | d :: ds, _, h => by
    cases h with
    | cons a b => exact .cons (R.dp d _ a) (RA.dp ds _ b)
end
theorem RA.len {G : Hp} : ∀ {vs : List V} {ds : List D}, RA G vs ds → vs.length = ds.length
  | _, _, .nil => rfl
  | _, _, .cons _ t => by rw [List.length_cons, List.length_cons, RA.len t]
theorem RA.get {G : Hp} : ∀ {vs : List V} {ds : List D} {i : Nat} {d : D}, RA G vs ds → ds[i]? = some d → ∃ v, vs[i]? = some v ∧ R G v d
  | _, _, _, _, .nil, e => by simp at e
  | _, _, 0, _, .cons r _, e => by simp at e; subst e; exact ⟨_, rfl, r⟩
  | _, _, i + 1, d, .cons _ t, e => by
    obtain ⟨u, h1, h2⟩ := RA.get (i := i) (d := d) t (by simpa using e)
    exact ⟨u, by simpa using h1, h2⟩
theorem RA.get' {G : Hp} : ∀ {vs : List V} {ds : List D} {i : Nat} {v : V}, RA G vs ds → vs[i]? = some v → ∃ d, ds[i]? = some d ∧ R G v d
  | _, _, _, _, .nil, e => by simp at e
  | _, _, 0, _, .cons r _, e => by simp at e; subst e; exact ⟨_, rfl, r⟩
  | _, _, i + 1, d, .cons _ t, e => by
    obtain ⟨u, h1, h2⟩ := RA.get' (i := i) t (by simpa using e)
    exact ⟨u, by simpa using h1, h2⟩
theorem RA.app {G : Hp} : ∀ {vs : List V} {ds : List D} {us : List V} {es : List D}, RA G vs ds → RA G us es → RA G (vs ++ us) (ds ++ es)
  | _, _, _, _, .nil, s => s
  | _, _, _, _, .cons r t, s => .cons r (RA.app t s)
theorem RA.take {G : Hp} : ∀ {vs : List V} {ds : List D} (n : Nat), RA G vs ds → RA G (vs.take n) (ds.take n)
  | _, _, 0, _ => .nil
  | _, _, _ + 1, .nil => .nil
  | _, _, n + 1, .cons r t => .cons r (RA.take n t)
theorem RA.drop {G : Hp} : ∀ {vs : List V} {ds : List D} (n : Nat), RA G vs ds → RA G (vs.drop n) (ds.drop n)
  | _, _, 0, r => r
  | _, _, _ + 1, .nil => .nil
  | _, _, n + 1, .cons _ t => RA.drop n t
theorem RA.set {G : Hp} {v : V} {d : D} (r : R G v d) : ∀ {vs : List V} {ds : List D} (i : Nat), RA G vs ds → RA G (vs.set i v) (ds.set i d)
  | _, _, _, .nil => .nil
  | _, _, 0, .cons _ t => .cons r t
  | _, _, i + 1, .cons q t => .cons q (RA.set r i t)
theorem RA.ints {G : Hp} : ∀ {vs : List V} {ns : List Int}, RA G vs (ns.map PyData.int) → vs = ns.map V.int
  | _, [], h => by cases h; rfl
  | _, n :: ns, h => by
    cases h with
    | cons a b =>
      cases a
      rw [List.map_cons, RA.ints b]
theorem RA.of_ints {G : Hp} : ∀ (ns : List Int), RA G (ns.map V.int) (ns.map PyData.int)
  | [] => .nil
  | n :: ns => .cons (.int n) (RA.of_ints ns)

inductive W where
  | d (x : D) | o (xs : List D) | v (x : V)

structure Cn where
  H0 : Hp
  hd : Addr → Prop
  pool : Option Addr
  pin : Addr → Option HO

abbrev DS := List (Option W)
def VW (G H : Hp) (c : Cn) (v : V) : W → Prop
  | .d x => R G v x
  | .o xs => ∃ p vs, v = .ref p ∧ H p = some (.lst vs) ∧ RA G vs xs ∧ G p = none ∧ c.H0 p = none ∧ c.pin p = none ∧ c.pool ≠ some p ∧ ¬ c.hd p
  | .v x => v = x

structure HS (c : Cn) (G : Hp) (σ : L2.St) (H : Hp) (ds : DS) (pl : List D) : Prop where
  sub : Ex G H
  gh : ∀ a, c.hd a → G a = none
  gq : ∀ a, c.pool = some a → G a = none
  gn : ∀ a o, c.pin a = some o → G a = none
  keep : ∀ a o, c.pool ≠ some a → c.H0 a = some o → H a = some o
  pl : ∀ p, c.pool = some p → ¬ c.hd p ∧ c.pin p = none ∧ ∃ vs, H p = some (.lst vs) ∧ RA G vs pl
  pin : ∀ a o, c.pin a = some o → H a = some o
  hid : ∀ a, c.hd a → ∃ o, H a = some o
  len : σ.length = ds.length
  slots : ∀ (i : Nat) (w : W), ds[i]? = some (some w) → ∃ v, σ[i]? = some (some v) ∧ VW G H c v w
  own : ∀ (i j : Nat) (p : Addr) (xs ys : List D), ds[i]? = some (some (.o xs)) → ds[j]? = some (some (.o ys)) → σ[i]? = some (some (.ref p)) → σ[j]? = some (some (.ref p)) → i = j

theorem VW.up {G G' H H' : Hp} {c : Cn} {v : V} {w : W} (h : VW G H c v w) (e : Ex G G') (eH : ∀ p vs, G p = none → c.H0 p = none → c.pin p = none → c.pool ≠ some p → ¬ c.hd p → H p = some (.lst vs) → H' p = some (.lst vs) ∧ G' p = none) : VW G' H' c v w := by
  cases w with
  | d x => exact R.up h e
  | o xs =>
    obtain ⟨p, vs, a1, a2, a3, a4, a5, a6, a7, a8⟩ := h
    obtain ⟨b1, b2⟩ := eH p vs a4 a5 a6 a7 a8 a2
    exact ⟨p, vs, a1, b1, a3.up e, b2, a5, a6, a7, a8⟩
  | v x => exact h

section
variable {c : Cn} {G H : Hp} {σ : L2.St} {ds : DS} {pl : List D}
theorem HS.none_of (h : HS c G σ H ds pl) {p : Addr} (hp : H p = none) : G p = none ∧ ¬ c.hd p ∧ c.pin p = none ∧ c.pool ≠ some p ∧ c.H0 p = none := by
  refine ⟨?_, fun z => ?_, ?_, fun z => ?_, ?_⟩
  · cases e : G p with
    | none => rfl
    | some o => rw [h.sub p o e] at hp; cases hp
  · obtain ⟨o, e⟩ := h.hid p z
    rw [e] at hp; cases hp
  · cases e : c.pin p with
    | none => rfl
    | some o => rw [h.pin p o e] at hp; cases hp
  · obtain ⟨_, _, vs, e, _⟩ := h.pl p z
    rw [e] at hp; cases hp
  · cases e : c.H0 p with
    | none => rfl
    | some o =>
      by_cases z : c.pool = some p
      · obtain ⟨_, _, vs, e2, _⟩ := h.pl p z
        rw [e2] at hp; cases hp
      · rw [h.keep p o z e] at hp; cases hp
theorem HS.newD (h : HS c G σ H ds pl) {p : Addr} {o : HO} (hp : H p = none) : HS c (upd G p o) σ (upd H p o) ds pl := by
  obtain ⟨n1, n2, n3, n4, n5⟩ := h.none_of hp
  have eG : Ex G (upd G p o) := Ex.new n1
  have eH : Ex H (upd H p o) := Ex.new hp
  refine ⟨fun a u q => ?_, fun a q => ?_, fun a q => ?_, fun a u q => ?_, fun a u q1 q2 => eH _ _ (h.keep a u q1 q2), fun q z => ?_, fun a u q => eH _ _ (h.pin a u q), fun a q => ?_, h.len, fun i w q => ?_, h.own⟩
  · by_cases z : a = p
    · subst z; rw [upd_same] at q ⊢; exact q
    · rw [upd_ne z] at q ⊢; exact h.sub a u q
  · rw [upd_ne (fun z : a = p => n2 (z ▸ q))]; exact h.gh a q
  · rw [upd_ne (fun z : a = p => n4 (z ▸ q))]; exact h.gq a q
  · rw [upd_ne (fun z => by rw [z, n3] at q; cases q)]; exact h.gn a u q
  · obtain ⟨b1, b2, vs, b3, b4⟩ := h.pl q z
    exact ⟨b1, b2, vs, eH _ _ b3, b4.up eG⟩
  · obtain ⟨u, e⟩ := h.hid a q
    exact ⟨u, eH _ _ e⟩
  · obtain ⟨v, e1, e2⟩ := h.slots i w q
    refine ⟨v, e1, e2.up eG fun q vs a1 a2 a3 a4 a5 a6 => ⟨eH _ _ a6, ?_⟩⟩
    rw [upd_ne (ne_of_none a6 hp)]; exact a1
theorem HS.newH (h : HS c G σ H ds pl) {p : Addr} {o : HO} (hp : H p = none) : HS c G σ (upd H p o) ds pl := by
  have eH : Ex H (upd H p o) := Ex.new hp
  refine ⟨fun a u q => eH _ _ (h.sub a u q), h.gh, h.gq, h.gn, fun a u q1 q2 => eH _ _ (h.keep a u q1 q2), fun q z => ?_, fun a u q => eH _ _ (h.pin a u q), fun a q => ?_, h.len, fun i w q => ?_, h.own⟩
  · obtain ⟨b1, b2, vs, b3, b4⟩ := h.pl q z
    exact ⟨b1, b2, vs, eH _ _ b3, b4⟩
  · obtain ⟨u, e⟩ := h.hid a q
    exact ⟨u, eH _ _ e⟩
  · obtain ⟨v, e1, e2⟩ := h.slots i w q
    exact ⟨v, e1, e2.up (Ex.refl _) fun q vs a1 a2 a3 a4 a5 a6 => ⟨eH _ _ a6, a1⟩⟩
theorem HS.setPool (h : HS c G σ H ds pl) {p : Addr} (z : c.pool = some p) {us : List V} {pl' : List D} (hr : RA G us pl') : HS c G σ (upd H p (.lst us)) ds pl' := by
  obtain ⟨b1, b2, vs, b3, b4⟩ := h.pl p z
  have ne : ∀ a, a ≠ p → (upd H p (.lst us)) a = H a := fun a q => upd_ne q
  refine ⟨fun a u q => ?_, h.gh, h.gq, h.gn, fun a u q1 q2 => ?_, fun q z' => ?_, fun a u q => ?_, fun a q => ?_, h.len, fun i w q => ?_, h.own⟩
  · rw [ne a (fun e => by rw [e, h.gq p z] at q; cases q)]; exact h.sub a u q
  · rw [ne a (fun e => q1 (e ▸ z))]; exact h.keep a u q1 q2
  · have e : q = p := by rw [z] at z'; exact (Option.some.inj z').symm
    subst e
    exact ⟨b1, b2, us, upd_same, hr⟩
  · rw [ne a (fun e => by rw [e, b2] at q; cases q)]; exact h.pin a u q
  · rw [ne a (fun e => b1 (e ▸ q))]; exact h.hid a q
  · obtain ⟨v, e1, e2⟩ := h.slots i w q
    refine ⟨v, e1, e2.up (Ex.refl _) fun q vs a1 a2 a3 a4 a5 a6 => ⟨?_, a1⟩⟩
    rw [ne q (fun e => a4 (e ▸ z))]; exact a6
end

/-! ### what an expression comes to -/
def WE (c : Cn) (te : TE) (ds : DS) (pl : List D) (Φ : W → List D → Prop) : Prop := ∀ G σ H, HS c G σ H ds pl → ∀ Q : VK,
  (∀ v G' H' w pl', HS c G' σ H' ds pl' → Ex G G' → VW G' H' c v w → Φ w pl' → Q v H') → te σ H Q
def WA (c : Cn) (ta : TA) (ds : DS) (pl : List D) (Φ : List D → List D → Prop) : Prop := ∀ G σ H, HS c G σ H ds pl → ∀ Q : List V → Hp → Prop,
  (∀ vs G' H' xs pl', HS c G' σ H' ds pl' → Ex G G' → RA G' vs xs → Φ xs pl' → Q vs H') → ta σ H Q
def WT (c : Cn) (tt : TT) (ds : DS) (pl : List D) (Φ : Bool → List D → Prop) : Prop := ∀ G σ H, HS c G σ H ds pl → ∀ Q : Bool → Hp → Prop,
  (∀ b G' H' pl', HS c G' σ H' ds pl' → Ex G G' → Φ b pl' → Q b H') → tt σ H Q

abbrev isD (k : D → List D → Prop) : W → List D → Prop := fun w pl => match w with
  | .d x => k x pl
  | _ => False
abbrev isI (k : Int → List D → Prop) : W → List D → Prop := fun w pl => match w with
  | .d (.int i) => k i pl
  | _ => False
abbrev isB (k : Bool → List D → Prop) : W → List D → Prop := fun w pl => match w with
  | .d (.bool i) => k i pl
  | _ => False
abbrev isS (k : D → List D → Prop) : W → List D → Prop := fun w pl => match w with
  | .d x => k x pl
  | .o xs => k (.list xs) pl
  | _ => False

def dV : V → D
  | .non => .none
  | .bl b => .bool b
  | .int i => .int i
  | .str x => .str x
  | _ => .none
def plainV : V → Bool
  | .non | .bl _ | .int _ | .str _ => true
  | _ => false
theorem r_dV {G : Hp} : ∀ {v : V}, plainV v = true → R G v (dV v)
  | .non, _ => .non
  | .bl b, _ => .bl b
  | .int i, _ => .int i
  | .str x, _ => .str x
  | .byt _, h => by cases h
  | .flt _, h => by cases h
  | .ref _, h => by cases h
  | .ty _, h => by cases h

section
variable {c : Cn} {K : PySem.W.Frag} {ds : DS} {pl : List D} {Φ : W → List D → Prop} {ta tb te : TE} {tr : TA}
theorem WE.mono {Ψ : W → List D → Prop} (h : WE c te ds pl Φ) (k : ∀ w pl', Φ w pl' → Ψ w pl') : WE c te ds pl Ψ := fun G σ H hs Q q => h G σ H hs Q fun v G' H' w pl' a b e f => q v G' H' w pl' a b e (k w pl' f)
theorem WA.mono {Ψ Φ : List D → List D → Prop} (h : WA c tr ds pl Φ) (k : ∀ w pl', Φ w pl' → Ψ w pl') : WA c tr ds pl Ψ := fun G σ H hs Q q => h G σ H hs Q fun v G' H' w pl' a b e f => q v G' H' w pl' a b e (k w pl' f)
theorem we_var {i : Nat} {w : W} (hi : ds[i]? = some (some w)) (h : Φ w pl) : WE c (tVar i) ds pl Φ := fun G σ H hs Q q => by
  obtain ⟨v, e1, e2⟩ := hs.slots i w hi
  exact ⟨v, e1, q v G H w pl hs (Ex.refl _) e2 h⟩
theorem we_c {v : V} (hv : plainV v = true) (h : Φ (.d (dV v)) pl) : WE c (tC v) ds pl Φ := fun G σ H hs Q q => q v G H (.d _) pl hs (Ex.refl _) (r_dV hv) h
theorem we_int {i : Int} (h : Φ (.d (.int i)) pl) : WE c (tC (.int i)) ds pl Φ := we_c rfl h
theorem we_bl {i : Bool} (h : Φ (.d (.bool i)) pl) : WE c (tC (.bl i)) ds pl Φ := we_c rfl h
theorem we_str {i : Str} (h : Φ (.d (.str i)) pl) : WE c (tC (.str i)) ds pl Φ := we_c rfl h
theorem we_non (h : Φ (.d .none) pl) : WE c (tC .non) ds pl Φ := we_c rfl h

def RT (G H : Hp) (v : V) (x : D) : Prop := R G v x ∨ ∃ p vs xs, v = .ref p ∧ x = .list xs ∧ H p = some (.lst vs) ∧ RA G vs xs
theorem RT.h {G H : Hp} {v : V} {x : D} (h : RT G H v x) (s : Ex G H) : R H v x := by
  rcases h with h | ⟨p, vs, xs, rfl, rfl, a, b⟩
  · exact h.up s
  · exact .lst a (b.up s)
theorem RT.list {G H : Hp} {v : V} {xs : List D} (h : RT G H v (.list xs)) (s : Ex G H) : ∃ p vs, v = .ref p ∧ H p = some (.lst vs) ∧ RA G vs xs := by
  rcases h with h | ⟨p, vs, ys, rfl, e, a, b⟩
  · cases h with
    | lst a b => exact ⟨_, _, rfl, s _ _ a, b⟩
  · cases e
    exact ⟨p, vs, rfl, a, b⟩
theorem RT.tup {G H : Hp} {v : V} {xs : List D} (h : RT G H v (.tuple xs)) (s : Ex G H) : ∃ p vs, v = .ref p ∧ H p = some (.tup vs) ∧ RA G vs xs := by
  rcases h with h | ⟨p, vs, ys, rfl, e, a, b⟩
  · cases h with
    | tup a b => exact ⟨_, _, rfl, s _ _ a, b⟩
  · cases e
theorem RT.int {G H : Hp} {v : V} {i : Int} (h : RT G H v (.int i)) : v = .int i := by
  rcases h with h | ⟨p, vs, ys, rfl, e, a, b⟩
  · cases h; rfl
  · cases e
theorem RT.bl {G H : Hp} {v : V} {i : Bool} (h : RT G H v (.bool i)) : v = .bl i := by
  rcases h with h | ⟨p, vs, ys, rfl, e, a, b⟩
  · cases h; rfl
  · cases e
theorem RT.str {G H : Hp} {v : V} {i : Str} (h : RT G H v (.str i)) : v = .str i := by
  rcases h with h | ⟨p, vs, ys, rfl, e, a, b⟩
  · cases h; rfl
  · cases e
theorem RT.non {G H : Hp} {v : V} (h : RT G H v .none) : v = .non := by
  rcases h with h | ⟨p, vs, ys, rfl, e, a, b⟩
  · cases h; rfl
  · cases e
def Co (c : Cn) (ds : DS) (G : Hp) (σ : L2.St) (Φ : W → List D → Prop) (Q : VK) : Prop := ∀ z G' H' w p3, HS c G' σ H' ds p3 → Ex G G' → VW G' H' c z w → Φ w p3 → Q z H'
def OpS (c : Cn) (r : R2) (ds : DS) (x y : D) (p2 : List D) (Φ : W → List D → Prop) : Prop := ∀ G σ H v u, HS c G σ H ds p2 → RT G H v x → RT G H u y → ∀ Q : VK, Co c ds G σ Φ Q → r v u H Q
theorem we_op {r : R2} (ha : WE c ta ds pl (isD fun x p1 => WE c tb ds p1 (isS fun y p2 => OpS c r ds x y p2 Φ))) : WE c (tOp r ta tb) ds pl Φ := by
  intro G σ H hs Q q
  refine ha G σ H hs _ fun v G1 H1 w p1 h1 e1 f1 g1 => ?_
  cases w with
  | v x => exact g1.elim
  | o xs => exact g1.elim
  | d x =>
    refine g1 G1 σ H1 h1 _ fun u G2 H2 w2 p2 h2 e2 f2 g2 => ?_
    have f1' : R G2 v x := R.up (show R G1 v x from f1) e2
    cases w2 with
    | v x => exact g2.elim
    | d y => exact g2 G2 σ H2 v u h2 (.inl f1') (.inl f2) Q fun z G' H' w p3 a b e f => q z G' H' w p3 a ((e1.trans e2).trans b) e f
    | o ys =>
      obtain ⟨p, us, rfl, a2, a3, _⟩ := f2
      exact g2 G2 σ H2 v _ h2 (.inl f1') (.inr ⟨p, us, ys, rfl, rfl, a2, a3⟩) Q fun z G' H' w p3 a b e f => q z G' H' w p3 a ((e1.trans e2).trans b) e f
theorem we_opV {r : R2} {i : Nat} {xs : List D} (hi : ds[i]? = some (some (.o xs))) (hb : WE c tb ds pl (isS fun y p2 => OpS c r ds (.list xs) y p2 Φ)) : WE c (tOp r (tVar i) tb) ds pl Φ := by
  intro G σ H hs Q q
  obtain ⟨v, e1, e2⟩ := hs.slots i _ hi
  refine ⟨v, e1, ?_⟩
  refine hb G σ H hs _ fun u G2 H2 w2 p2 h2 e2' f2 g2 => ?_
  obtain ⟨v', e1', p0, us0, rfl, a20, a30, _⟩ := h2.slots i _ hi
  have ev : v = .ref p0 := by rw [e1] at e1'; exact Option.some.inj (Option.some.inj e1')
  subst ev
  cases w2 with
  | v x => exact g2.elim
  | d y => exact g2 G2 σ H2 _ u h2 (.inr ⟨p0, us0, xs, rfl, rfl, a20, a30⟩) (.inl f2) Q fun z G' H' w p3 a b e f => q z G' H' w p3 a (e2'.trans b) e f
  | o ys =>
    obtain ⟨p, us, rfl, a2, a3, _⟩ := f2
    exact g2 G2 σ H2 _ _ h2 (.inr ⟨p0, us0, xs, rfl, rfl, a20, a30⟩) (.inr ⟨p, us, ys, rfl, rfl, a2, a3⟩) Q fun z G' H' w p3 a b e f => q z G' H' w p3 a (e2'.trans b) e f

/-! ### operations -/
theorem os_I0 {g : Int → Int → V} {i j : Int} {p2 : List D} (hp : plainV (g i j) = true) (h : Φ (.d (dV (g i j))) p2) : OpS c (rI0 g) ds (.int i) (.int j) p2 Φ := fun G σ H v u hs hv hu Q q =>
  ⟨i, j, hv.int, hu.int, q _ G H (.d _) p2 hs (Ex.refl _) (r_dV hp) h⟩
theorem os_I {C : Int → Int → Prop} {g : Int → Int → V} {i j : Int} {p2 : List D} (hc : C i j) (hp : plainV (g i j) = true) (h : Φ (.d (dV (g i j))) p2) : OpS c (rI C g) ds (.int i) (.int j) p2 Φ := fun G σ H v u hs hv hu Q q =>
  ⟨i, j, hv.int, hu.int, hc, q _ G H (.d _) p2 hs (Ex.refl _) (r_dV hp) h⟩
theorem os_neD {x y : D} {p2 : List D} (h1 : SeqAt.shaped x = true) (h2 : SeqAt.shaped y = true) (h : Φ (.d (.bool (!PyData.eqv x y))) p2) : OpS c (rNeD K) ds x y p2 Φ := fun G σ H v u hs hv hu Q q =>
  ⟨x, y, R.dp _ _ (hv.h hs.sub), R.dp _ _ (hu.h hs.sub), h1, h2, q _ G H (.d _) p2 hs (Ex.refl _) (R.bl _) h⟩
def ixD (x : D) (i : Int) : Option D := match x with
  | .list xs => atI xs i
  | .tuple xs => atI xs i
  | .str z => if z.length ≤ sizeLine then (atI z.cps.toList i).map fun k => .str ⟨#[k]⟩ else none
  | _ => none
theorem atI_RA {G : Hp} {vs : List V} {xs : List D} {i : Int} {e : D} (h : RA G vs xs) (ha : atI xs i = some e) : ∃ v, atI vs i = some v ∧ R G v e := by
  unfold atI at ha ⊢
  rw [h.len]
  cases q : ixN xs.length i with
  | none => rw [q] at ha; cases ha
  | some j =>
    rw [q] at ha
    exact h.get ha
theorem os_ix {x e : D} {i : Int} {p2 : List D} (he : ixD x i = some e) (h : Φ (.d e) p2) : OpS c (rIx K) ds x (.int i) p2 Φ := fun G σ H v u hs hv hu Q q => by
  have eu := hu.int
  subst eu
  cases x with
  | list xs =>
    obtain ⟨p, vs, rfl, a, b⟩ := hv.list hs.sub
    obtain ⟨z, z1, z2⟩ := atI_RA b (show atI xs i = some e from he)
    exact .inl ⟨p, vs, i, z, rfl, rfl, SqL.of a, z1, q z G H (.d _) p2 hs (Ex.refl _) (show R G z e from z2) h⟩
  | tuple xs =>
    obtain ⟨p, vs, rfl, a, b⟩ := hv.tup hs.sub
    obtain ⟨z, z1, z2⟩ := atI_RA b (show atI xs i = some e from he)
    exact .inr (.inl ⟨p, vs, i, z, rfl, rfl, SqT.of a, z1, q z G H (.d _) p2 hs (Ex.refl _) (show R G z e from z2) h⟩)
  | str z =>
    have ev := hv.str
    subst ev
    have he' : (if z.length ≤ sizeLine then (atI z.cps.toList i).map fun k => (PyData.str ⟨#[k]⟩) else none) = some e := he
    by_cases hz : z.length ≤ sizeLine
    · rw [if_pos hz] at he'
      cases q1 : atI z.cps.toList i with
      | none => rw [q1] at he'; cases he'
      | some k =>
        rw [q1] at he'
        cases he'
        exact .inr (.inr ⟨z, i, k, rfl, rfl, hz, q1, q _ G H (.d _) p2 hs (Ex.refl _) (R.str _) h⟩)
    · rw [if_neg hz] at he'; cases he'
  | none => cases he
  | bool _ => cases he
  | int _ => cases he
  | dict _ => cases he
theorem flat_ints (ns : List Int) : (ns.map V.int).all flatV = true := by
  rw [List.all_map]
  exact List.all_eq_true.mpr fun _ _ => rfl
theorem inV_ints (i : Int) : ∀ ns : List Int, inV (.int i) (ns.map V.int) = decide (i ∈ ns)
  | [] => by simp [inV]
  | n :: ns => by
    have ih := inV_ints i ns
    unfold inV at ih ⊢
    rw [List.map_cons, List.any_cons, ih]
    have e : eqV (.int n) (.int i) = decide (i = n) := by
      show (n == i) = decide (i = n)
      by_cases z : i = n
      · subst z; simp
      · have z' : ¬ n = i := fun q => z q.symm
        simp [z, z']
    rw [e]
    simp
theorem os_in {i : Int} {ns : List Int} {p2 : List D} (h : Φ (.d (.bool (decide (i ∈ ns)))) p2) : OpS c (rIn K false) ds (.int i) (.list (ns.map PyData.int)) p2 Φ := fun G σ H v u hs hv hu Q q => by
  have ev := hv.int
  subst ev
  obtain ⟨p, vs, rfl, a, b⟩ := hu.list hs.sub
  have evs := b.ints
  subst evs
  refine ⟨p, _, rfl, .inl (SqL.of a), rfl, flat_ints ns, ?_⟩
  show Q (.bl (inV (.int i) (ns.map V.int))) H
  rw [inV_ints]
  exact q _ G H (.d _) p2 hs (Ex.refl _) (R.bl _) h
theorem os_cat {xs ys : List D} {p2 : List D} (hl : xs.length + ys.length ≤ sizeLine) (h : Φ (.d (.list (xs ++ ys))) p2) : OpS c rCat ds (.list xs) (.list ys) p2 Φ := fun G σ H v u hs hv hu Q q => by
  obtain ⟨p, vs, rfl, a, b⟩ := hv.list hs.sub
  obtain ⟨p', us, rfl, a', b'⟩ := hu.list hs.sub
  refine ⟨p, p', vs, us, rfl, rfl, a, a', by rw [b.len, b'.len]; exact hl, fun l hl => ?_⟩
  have n := hs.none_of hl
  exact q _ _ _ (.d _) p2 (hs.newD hl) (Ex.new n.1) (show R _ (.ref l) (.list (xs ++ ys)) from .lst upd_same ((b.app b').up (Ex.new n.1))) h

/-! ### unary, displays, tests -/
theorem we_neg (ha : WE c ta ds pl (isI fun i p1 => Φ (.d (.int (-i))) p1)) : WE c (tUn (rU fun i => .int (-i)) ta) ds pl Φ := fun G σ H hs Q q =>
  ha G σ H hs _ fun v G1 H1 w p1 h1 e1 f1 g1 => by
    match w, f1, g1 with
    | .d (.int i), f1, g1 =>
      cases f1
      exact ⟨i, rfl, q _ G1 H1 (.d _) p1 h1 e1 (R.int _) g1⟩
theorem wa_nil {Φ : List D → List D → Prop} (h : Φ [] pl) : WA c tNil ds pl Φ := fun G σ H hs Q q => q [] G H [] pl hs (Ex.refl _) .nil h
theorem wa_cons {Φ : List D → List D → Prop} (ha : WE c ta ds pl (isD fun x p1 => WA c tr ds p1 fun xs p2 => Φ (x :: xs) p2)) : WA c (tCons ta tr) ds pl Φ := fun G σ H hs Q q =>
  ha G σ H hs _ fun v G1 H1 w p1 h1 e1 f1 g1 => by
    match w, f1, g1 with
    | .d x, f1, g1 =>
      exact g1 G1 σ H1 h1 _ fun vs G2 H2 xs p2 h2 e2 f2 g2 => q (v :: vs) G2 H2 (x :: xs) p2 h2 (e1.trans e2) (.cons (R.up f1 e2) f2) g2
theorem we_tup (ha : WA c tr ds pl fun xs p1 => xs.length ≤ sizeLine ∧ Φ (.d (.tuple xs)) p1) : WE c (tTup tr) ds pl Φ := fun G σ H hs Q q =>
  ha G σ H hs _ fun vs G1 H1 xs p1 h1 e1 f1 g1 => ⟨by rw [f1.len]; exact g1.1, fun p hp => by
    have n := h1.none_of hp
    exact q _ _ _ (.d _) p1 (h1.newD hp) (e1.trans (Ex.new n.1)) (show R _ (.ref p) (.tuple xs) from .tup upd_same (f1.up (Ex.new n.1))) g1.2⟩
theorem we_lst (ha : WA c tr ds pl fun xs p1 => xs.length ≤ sizeLine ∧ Φ (.d (.list xs)) p1) : WE c (tLst tr) ds pl Φ := fun G σ H hs Q q =>
  ha G σ H hs _ fun vs G1 H1 xs p1 h1 e1 f1 g1 => ⟨by rw [f1.len]; exact g1.1, fun p hp => by
    have n := h1.none_of hp
    exact q _ _ _ (.d _) p1 (h1.newD hp) (e1.trans (Ex.new n.1)) (show R _ (.ref p) (.list xs) from .lst upd_same (f1.up (Ex.new n.1))) g1.2⟩
section
variable {tt tu : TT} {Ψ : Bool → List D → Prop}
theorem wt_B (h : WE c te ds pl (isB Ψ)) : WT c (tB te) ds pl Ψ := fun G σ H hs Q q => h G σ H hs _ fun v G1 H1 w p1 h1 e1 f1 g1 => by
  match w, f1, g1 with
  | .d (.bool b), f1, g1 =>
    cases f1
    exact ⟨b, rfl, q b G1 H1 p1 h1 e1 g1⟩
theorem wt_T (h : WE c te ds pl (isB Ψ)) : WT c (tTest te) ds pl Ψ := wt_B h
theorem wt_and (h : WT c tt ds pl fun b p1 => if b = true then WT c tu ds p1 Ψ else Ψ false p1) : WT c (tAnd tt tu) ds pl Ψ := fun G σ H hs Q q => h G σ H hs _ fun b G1 H1 p1 h1 e1 g1 => by
  cases b with
  | true => exact (show WT c tu ds p1 Ψ from g1) G1 σ H1 h1 Q fun b2 G2 H2 p2 h2 e2 g2 => q b2 G2 H2 p2 h2 (e1.trans e2) g2
  | false => exact q false G1 H1 p1 h1 e1 g1
theorem wt_or (h : WT c tt ds pl fun b p1 => if b = true then Ψ true p1 else WT c tu ds p1 Ψ) : WT c (tOr tt tu) ds pl Ψ := fun G σ H hs Q q => h G σ H hs _ fun b G1 H1 p1 h1 e1 g1 => by
  cases b with
  | true => exact q true G1 H1 p1 h1 e1 g1
  | false => exact (show WT c tu ds p1 Ψ from g1) G1 σ H1 h1 Q fun b2 G2 H2 p2 h2 e2 g2 => q b2 G2 H2 p2 h2 (e1.trans e2) g2
theorem wt_not (h : WT c tt ds pl fun b p1 => Ψ (!b) p1) : WT c (tNot tt) ds pl Ψ := fun G σ H hs Q q => h G σ H hs _ fun b G1 H1 p1 h1 e1 g1 => q (!b) G1 H1 p1 h1 e1 g1
theorem wt_yes (h : Ψ true pl) : WT c tYes ds pl Ψ := fun G σ H hs Q q => q true G H pl hs (Ex.refl _) h
theorem we_if (h : WT c tt ds pl fun b p1 => if b = true then WE c ta ds p1 Φ else WE c tb ds p1 Φ) : WE c (tIf tt ta tb) ds pl Φ := fun G σ H hs Q q => h G σ H hs _ fun b G1 H1 p1 h1 e1 g1 => by
  cases b with
  | true => exact (show WE c ta ds p1 Φ from g1) G1 σ H1 h1 Q fun v G2 H2 w p2 h2 e2 f2 g2 => q v G2 H2 w p2 h2 (e1.trans e2) f2 g2
  | false => exact (show WE c tb ds p1 Φ from g1) G1 σ H1 h1 Q fun v G2 H2 w p2 h2 e2 f2 g2 => q v G2 H2 w p2 h2 (e1.trans e2) f2 g2
theorem we_andV (h : WE c ta ds pl (isB fun b p1 => if b = true then WE c tb ds p1 Φ else Φ (.d (.bool false)) p1)) : WE c (tAndV ta tb) ds pl Φ := fun G σ H hs Q q => h G σ H hs _ fun v G1 H1 w p1 h1 e1 f1 g1 => by
  match w, f1, g1 with
  | .d (.bool b), f1, g1 =>
    cases f1
    refine ⟨b, rfl, ?_⟩
    cases b with
    | true => exact (show WE c tb ds p1 Φ from g1) G1 σ H1 h1 Q fun v G2 H2 w p2 h2 e2 f2 g2 => q v G2 H2 w p2 h2 (e1.trans e2) f2 g2
    | false => exact q _ G1 H1 (.d _) p1 h1 e1 (R.bl false) g1
theorem we_orV (h : WE c ta ds pl (isB fun b p1 => if b = true then Φ (.d (.bool true)) p1 else WE c tb ds p1 Φ)) : WE c (tOrV ta tb) ds pl Φ := fun G σ H hs Q q => h G σ H hs _ fun v G1 H1 w p1 h1 e1 f1 g1 => by
  match w, f1, g1 with
  | .d (.bool b), f1, g1 =>
    cases f1
    refine ⟨b, rfl, ?_⟩
    cases b with
    | true => exact q _ G1 H1 (.d _) p1 h1 e1 (R.bl true) g1
    | false => exact (show WE c tb ds p1 Φ from g1) G1 σ H1 h1 Q fun v G2 H2 w p2 h2 e2 f2 g2 => q v G2 H2 w p2 h2 (e1.trans e2) f2 g2
theorem we_notV (h : WE c ta ds pl (isB fun b p1 => Φ (.d (.bool (!b))) p1)) : WE c (tNotV ta) ds pl Φ := fun G σ H hs Q q => h G σ H hs _ fun v G1 H1 w p1 h1 e1 f1 g1 => by
  match w, f1, g1 with
  | .d (.bool b), f1, g1 =>
    cases f1
    exact ⟨b, rfl, q _ G1 H1 (.d _) p1 h1 e1 (R.bl _) g1⟩
def truD : D → Bool
  | .none => false
  | .bool b => b
  | .int i => i != 0
  | .str y => (y.length : Int) != 0
  | .list xs => !xs.isEmpty
  | .tuple xs => !xs.isEmpty
  | .dict xs => !xs.isEmpty
def truOk : D → Bool
  | .str y => decide (y.length ≤ sizeLine)
  | .dict _ => false
  | _ => true
theorem empty_RA {G : Hp} {vs : List V} {xs : List D} (h : RA G vs xs) : (!vs.isEmpty) = !xs.isEmpty := by cases h <;> rfl
theorem tru_RT {G H : Hp} {v : V} {x : D} (s : Ex G H) (h : RT G H v x) (ok : truOk x = true) : TruV K v H (truD x) := by
  cases x with
  | none => rw [h.non]; exact rfl
  | bool b => rw [h.bl]; exact rfl
  | int i => rw [h.int]; exact rfl
  | str y => rw [h.str]; exact ⟨of_decide_eq_true ok, rfl⟩
  | list xs =>
    obtain ⟨p, vs, rfl, a, b⟩ := h.list s
    exact .inl ⟨vs, SqL.of a, (empty_RA b).symm⟩
  | tuple xs =>
    obtain ⟨p, vs, rfl, a, b⟩ := h.tup s
    exact .inr (.inl ⟨vs, SqT.of a, (empty_RA b).symm⟩)
  | dict _ => cases ok
theorem wt_tru (h : WE c te ds pl (isS fun x p1 => truOk x = true ∧ Ψ (truD x) p1)) : WT c (fun σ H Q => te σ H fun x H' => ∃ k, TruV K x H' k ∧ Q k H') ds pl Ψ := fun G σ H hs Q q => h G σ H hs _ fun v G1 H1 w p1 h1 e1 f1 g1 => by
  match w, f1, g1 with
  | .d x, f1, g1 => exact ⟨_, tru_RT h1.sub (.inl f1) g1.1, q _ G1 H1 p1 h1 e1 g1.2⟩
  | .o xs, f1, g1 =>
    obtain ⟨p, us, rfl, a2, a3, _⟩ := f1
    exact ⟨_, tru_RT h1.sub (.inr ⟨p, us, xs, rfl, rfl, a2, a3⟩) g1.1, q _ G1 H1 p1 h1 e1 g1.2⟩
end
end
end PD

/-! PD2: a def's promise where no container is being shown (guards empty), its rule, its call, a law's end -/
namespace PD
open PySem PySem.Spec PyProof.Rows L2 Evl

structure FG (P : Program) (w : World) (K : PySem.W.Frag) (mg : Str → Option Value) (base : Heap) (k : Nat) (f : Addr) (fd : FuncData) (ps : List Str) (sp : Sp) : Prop where
  many : ∀ vs H Q E, sp vs H Q E → vs.length = ps.length
  goes : ∀ (B : Around) (fr : List Env) (s : Shared) (H : Hp) (ar : Args) (us : List Value) (vs : List V) (Q : VK) (E : XK), B.guards = some [] → Room k B → Env0 P w K mg base B fr s H →
    BindsTo s fd ar (ps.zip us) → Vals vs us → sp vs H Q E → codeAny (model P w) B (.call (.ref f) ar) (CR CX0 fr P w H s Q E) s
section
variable {P : Program} {w : World} {K : PySem.W.Frag} {mg : Str → Option Value} {base : Heap} {k : Nat} {f : Addr} {fd : FuncData} {ps : List Str} {sp : Sp}
theorem fg_of {x qual : Str} {st : Stmt} {N : List Str} (F : Fun K x qual st f fd) (S : FnScope N ps (defScope st)) (len : ∀ vs H Q E, sp vs H Q E → vs.length = ps.length)
    (body : ∀ (cdv : Value) (B : Around) (fr : List Env) (s : Shared) (H : Hp) (vs : List V) (Q : VK) (E : XK), B.guards = some [] → Room k (B.deeper (envOfC qual (defScope st) s.heap.objs.size f cdv)) → sp vs H Q E →
      ∃ t, PSs (cxOf CX0 P w K mg base N qual (defScope st) f cdv B fr s H E).nox (defBody st) t ∧ t { nx := fun _ H' => Q .non H', rt := Q } (start N vs) H) : FG P w K mg base (k + 1) f fd ps sp := by
  obtain ⟨oc, od, kV, doc, pm, an, cdv, ct, osl, rfl, lk, hcd⟩ := F.ex
  constructor
  · exact len
  intro B fr s H ar us vs Q E hg hr e0 hb r hsp
  have kin := e0.mod.kin.keeps fun b o e => (e0.bs b o e).1
  have nolim := e0.mod.nolimit.keeps fun b o e => (e0.bs b o e).1
  have kinds : ∀ y ∈ ps.zip us, (defScope st).names.lookup y.1 = some .local ∨ ((defScope st).names.lookup y.1 = some .cell ∧
      ((cellsFrom (s.heap.objs.size + 1) (defScope st).names []).lookup y.1).isSome = true) := by
    rintro ⟨n, v⟩ hy
    cases S.par n (List.of_mem_zip hy).1 with
    | inl q => exact Or.inl q
    | inr q => exact Or.inr ⟨q, PySem.W.cellsFrom_some _ _ _ (Or.inl q)⟩
  apply codeAny_call_function hr.depth (kin _ _ lk) rfl S.co S.gen rfl (PySem.W.codeRec_of kin hcd)
  refine hb _ _ _ _ (wpAny_newFunctionEnv_cells S.kind kinds ?_)
  intro env he s1 x
  subst he
  refine ⟨nolim.keeps x.toInCall.keep, codeAny_func ?_⟩
  obtain ⟨t, ht, hq⟩ := body cdv B fr s H vs Q E hg (hr.deeper _) hsp
  have I0 := inv_start (CX := CX0) (P := P) (E := E) S hr.hd e0 (len _ _ _ _ hsp) r x
  refine wpAny_mono (ht.nox.run [] s1 (start N vs) H _ I0 hq) ?_ (fun _ _ q => q)
  intro fl s2 hs
  match fl, hs with
  | .ret u, ⟨v, _, H2, J, rv, q⟩ => exact ⟨v, H2, J.os, J.bare, J.base, J.hok, rv, q⟩
  | .next, ⟨_, H2, J, q⟩ => exact ⟨V.non, H2, J.os, J.bare, J.base, J.hok, rfl, q⟩
  | .brk, ⟨_, _, _, q⟩ => exact q.elim
  | .cont, ⟨_, _, _, q⟩ => exact q.elim
end
section
variable {X : Cx} {k : Nat} {f : Addr} {fd : FuncData} {ps : List Str} {sp : Sp} {E : XK} {x : Str} {p pos : Pos} {e : Expr} {es : List Expr} {t : TA}
theorem fg_run {pins : List (Addr × Obj)} {σ : L2.St} {H : Hp} {s : Shared} {Q : VK} {us : List Value} {vs : List V} (hG : X.A.guards = some []) (F : FG X.prog X.w X.K X.mg X.base k f fd ps sp) (hr : Room k X.A) (hb : Binds X.K fd ps [])
    (I : Inv X pins σ H s) (r : Vals vs us) (h : sp vs H Q E) : wpAny (model X.prog X.w) X.A (call (.ref f) us) (EP X pins σ Q) X.xe s := by
  have n : (us ++ []).length = ps.length := by
    have n1 := F.many _ _ _ _ h
    rw [List.append_nil, ← r.length]
    exact n1
  have b := hb s us I.kIn n
  rw [List.append_nil] at b
  apply wpAny_call
  refine codeAny_mono (F.goes X.A X.stack s H ⟨us, []⟩ us vs Q E hG hr I.env0 b r h) ?_
  intro res s2 hq
  match res, hq with
  | .ok (.ret u), hq => exact I.after hq
  | .ok .next, hq => exact hq.elim
  | .ok .brk, hq => exact hq.elim
  | .ok .cont, hq => exact hq.elim
  | .error er, hq => exact hq.elim
theorem pe_callG (hG : X.A.guards = some []) (F : FG X.prog X.w X.K X.mg X.base k f fd ps sp) (hr : Room k X.A) (hg : Gl X x) (hm : X.mg x = some (.ref f)) (hk : PySem.W.keepIn X.K (.ref f) = true) (hb : Binds X.K fd ps []) (ha : PA X (e :: es) t)
    (hdb : (x == ("__debug__" : Str)) = false := by decide) (he : starEach (e :: es) X.env = (false, eval e X.env) :: starEach es X.env := by rfl)
    (hpl : (backTo pos (starEach es X.env)).any (·.1) = false := by rfl) : PE X (.Call (.Name x p) (e :: es) [] pos) (tCall sp [] E t) := by
  constructor
  intro pins s σ H Q I h
  apply wpAny_Call_Name_kw
  refine ld_glob I hg hm ?_ hdb
  refine PySem.W.callWith_K (h₀ := X.base) I.ok.mod.kin hk ?_ he hpl
  refine thn (ha.run pos pins s σ H _ I h) ?_
  rintro us s1 ⟨vs, H1, I1, r, q⟩
  rw [List.append_nil] at q
  exact ⟨I1.kIn, fg_run hG F hr hb I1 r q⟩
end

/-! ### a law's end -/
def scrH (a : Addr) (o : Obj) (xs : List V) : Hp := fun b => if b = a then some (.frz o (.lst xs)) else none
theorem scrH_at {a : Addr} {o : Obj} {xs : List V} : scrH a o xs a = some (.frz o (.lst xs)) := if_pos rfl
theorem scrH_some {a b : Addr} {o : Obj} {xs : List V} {u : HO} (h : scrH a o xs b = some u) : b = a ∧ u = .frz o (.lst xs) := by
  unfold scrH at h
  by_cases e : b = a
  · rw [if_pos e] at h
    exact ⟨e, (Option.some.inj h).symm⟩
  · rw [if_neg e] at h
    cases h
section
variable {P : Program} {w : World} {K : PySem.W.Frag} {mg mb : Str → Option Value} {k : Nat} {fa a : Addr} {fd : FuncData} {x : Str} {sp : Sp} {s₁ : Shared} {vs : List Value} {ns : List Int}
theorem fg_law1 (kin : K.In s₁.heap) (g1 : s₁.heap.Ns mainGlobals mg) (g2 : s₁.heap.Ns builtinsNs mb) (g3 : ∀ y : Str, y ≠ "__name__" → mb y = bootBuiltins y) (g4 : s₁.heap.NoLimit) (g5 : s₁.gens = #[])
    (at_ : s₁.heap.get? a = some { cls := .type "list", data := .seq vs.toArray }) (hr : Room k callerA)
    (F : ∀ base : Heap, K.In base → base.Ns mainGlobals mg → FG P w K mg base k fa fd [x] sp) (bind : ∀ (s : Shared) (u : Value), BindsTo s fd ⟨[u], []⟩ [(x, u)])
    (H : Hp) (only : ∀ b u, H b = some u → b = a ∧ ∃ xs, u = .frz { cls := .type "list", data := .seq vs.toArray } (.lst xs)) (ok : HOk P w H s₁.heap) (out : ∀ u, H a = some u → K.lookup a = none)
    (want : sp [.ref a] H (fun v _ => v = .bl true) E0) :
    codeAny (model P w) callerA (.call (.ref fa) ⟨[.ref a], []⟩) (fun r s' => r = .ok (.ret (.bool true)) ∧ OldK s₁.heap s'.heap ∧ s'.os = s₁.os ∧ AllBare s'.gens) s₁ := by
  have free_of : ∀ {b : Addr} {o : Obj}, s₁.heap.get? b = some o → (b ≠ a ∨ ∃ es ep, o.data = .dict es ep) → H b = none := by
    intro b o e d
    cases q : H b with
    | none => rfl
    | some u =>
      have z := (only b u q).1
      rcases d with d | ⟨es, ep, d⟩
      · exact absurd z d
      · rw [z, at_] at e
        cases e
        cases (show Data.seq vs.toArray _ = Data.dict es ep from d)
  have nsT : ∀ {b : Addr} {m : Str → Option Value}, s₁.heap.Ns b m → (hidT s₁.heap H).Ns b m := by
    rintro b m ⟨o, es, ep, e, d, r⟩
    exact ⟨o, es, ep, hidT_get e (free_of e (.inr ⟨es, ep, d⟩)), d, r⟩
  have kinT : K.In (hidT s₁.heap H) := by
    intro b o e
    refine hidT_get (kin b o e) ?_
    cases q : H b with
    | none => rfl
    | some u =>
      have z := (only b u q).1
      subst z
      rw [out u q] at e
      cases e
  obtain ⟨mc, l1, l2⟩ := g4
  have md : Mod K mg (hidT s₁.heap H) := { kin := kinT, glob := nsT g1, blt := ⟨mb, nsT g2, g3⟩, nolimit := ⟨mc, nsT l1, l2⟩ }
  have en : Env0 P w K mg (hidT s₁.heap H) callerA [] s₁ H :=
    { frames := rfl, mod := md, bs := fun b o e => of_hidT e, bsz := Nat.le_of_eq (hidT_size _ _), funs := trivial, frf := fun b hb => absurd (show b ∈ ([] : List Addr) from hb) (by simp), hok := ok, bare := .of_eq g5 }
  refine codeAny_mono ((F _ kinT (nsT g1)).goes callerA [] s₁ H ⟨[.ref a], []⟩ [.ref a] [.ref a] _ _ rfl hr en (bind s₁ (.ref a)) (.cons rfl .nil) want) ?_
  intro r s2 q
  match r, q with
  | .ok (.ret u), ⟨v, H2, c1, c2, c3, c4, c5, c6⟩ =>
    have c6' : v = .bl true := c6
    subst c6'
    have c5' : u = Value.bool true := c5
    subst c5'
    refine ⟨rfl, OldK.of_keep ?_, c1, c2⟩
    intro b o e
    cases z : H b with
    | none => exact c3.keep b o e z (fun y => absurd (show b ∈ ([] : List Addr) from y) (by simp)) (by simp)
    | some u =>
      obtain ⟨z1, xs, z2⟩ := only b u z
      subst z2
      have f1 := (ok b _ z).1
      have f2 := (c4 b _ (c3.frzs b _ _ z)).1
      rw [e] at f1
      cases f1
      exact f2
  | .ok .next, q => exact q.elim
  | .ok .brk, q => exact q.elim
  | .ok .cont, q => exact q.elim
  | .error er, q => exact q.elim
theorem fg_law (kin : K.In s₁.heap) (g1 : s₁.heap.Ns mainGlobals mg) (g2 : s₁.heap.Ns builtinsNs mb) (g3 : ∀ y : Str, y ≠ "__name__" → mb y = bootBuiltins y) (g4 : s₁.heap.NoLimit) (g5 : s₁.gens = #[])
    (at_ : s₁.heap.get? a = some { cls := .type "list", data := .seq vs.toArray }) (hi : IntsAre vs ns) (hl : ns.length ≤ sizeLine) (hr : Room k callerA)
    (F : ∀ base : Heap, K.In base → base.Ns mainGlobals mg → FG P w K mg base k fa fd [x] sp) (bind : ∀ (s : Shared) (u : Value), BindsTo s fd ⟨[u], []⟩ [(x, u)])
    (want : ∀ H : Hp, (∀ b u, H b = some u → ∃ o xs, u = .frz o (.lst xs)) → SqL K H a (ns.map V.int) → sp [.ref a] H (fun v _ => v = .bl true) E0) :
    codeAny (model P w) callerA (.call (.ref fa) ⟨[.ref a], []⟩) (fun r s' => r = .ok (.ret (.bool true)) ∧ OldK s₁.heap s'.heap ∧ s'.os = s₁.os ∧ AllBare s'.gens) s₁ := by
  have rv := vals_ints hi
  have szs : vs.toArray.size ≤ sizeLine := by
    rw [List.size_toArray, hi.length]
    exact hl
  cases hk : K.lookup a with
  | some o =>
    have e := kin a o hk
    rw [at_] at e
    cases e
    refine fg_law1 kin g1 g2 g3 g4 g5 at_ hr F bind (fun _ => none) (fun b u z => by cases z) (fun b u z => by cases (show (none : Option HO) = some u from z)) (fun u z => by cases z) ?_
    exact want _ (fun b u z => by cases z) (.inr ⟨_, vs.toArray, _, hk, rfl, rfl, rfl, szs, by simpa using rv⟩)
  | none =>
    refine fg_law1 kin g1 g2 g3 g4 g5 at_ hr F bind (scrH a { cls := .type "list", data := .seq vs.toArray } (ns.map V.int)) (fun b u z => ⟨(scrH_some z).1, _, (scrH_some z).2⟩) ?_ (fun u z => hk) ?_
    · intro b u z
      obtain ⟨z1, z2⟩ := scrH_some z
      subst z1 z2
      exact ⟨at_, by rw [List.length_map]; exact hl, vs, _, rv, at_⟩
    · exact want _ (fun b u z => ⟨_, _, (scrH_some z).2⟩) (.inl (.inr ⟨_, scrH_at⟩))
end
theorem fg_end {l : PySem.W.OpenLaw} {n k : Nat} {q : Program} {loose : List Str} {XP : (Str → Option Value) → Heap → Prop} {YP : World → Heap → Prop} {d : DefRec} {K : Params → PySem.W.Frag} {sp : World → Sp} {x : Str} (many : l.most = some n)
    (small : n ≤ sizeLine) (nodef : d.params.defaults = []) (hr : Room k callerA) (lay : ∀ (w : World) (h : Heap), YP w h → (K w.params).In h)
    (F : ∀ (w : World) (mg : Str → Option Value) (fa : Addr) (h : Heap), (K w.params).In h → h.Ns mainGlobals mg → mg d.name = some (.ref fa) → ∃ fd : FuncData,
      (∀ (s : Shared) (u : Value), BindsTo s fd ⟨[u], []⟩ [(x, u)]) ∧ ∀ base : Heap, (K w.params).In base → base.Ns mainGlobals mg → FG l.prog w (K w.params) mg base k fa fd [x] (sp w))
    (want : ∀ (w : World) (H : Hp) (a : Addr) (ns : List Int), ns.length ≤ n → (∀ b u, H b = some u → ∃ o xs, u = .frz o (.lst xs)) → SqL (K w.params) H a (ns.map V.int) → sp w [.ref a] H (fun v _ => v = .bl true) E0) :
    PySem.W.WalkO q loose XP YP l.row.toRowW d [] (fun f vs => PySem.call f vs) := by
  refine Att.attach_call many nodef ?_
  intro w s₀ s₁ mg mb fa o pm cd doc a vs ns G Y ho hd hcd hmg hobj hints hlen hg
  obtain ⟨fd, hb, hF⟩ := F w mg fa _ (lay w _ Y) G.T.g hmg
  exact fg_law (lay w _ Y) G.T.g G.T.b G.T.builtins G.T.nolimit hg hobj hints (Nat.le_trans hlen small) hr hF hb fun H hO hS => want w H a ns hlen hO hS
end PD

/-! PD3: promises over data, calls, statements, loops, comprehensions -/
namespace PD
open PySem PySem.Spec PyProof.Rows L2 Evl

/-! ### promises -/
def spP (F : List D → (D → Prop) → Prop) : Sp := fun vs H Q _ => ∃ G ds, Ex G H ∧ RA G vs ds ∧ F ds fun d => ∀ v G' H', Ex H H' → Ex G' H' → Ex G G' → (∀ a o, H a = some o → G a = none → G' a = none) → R G' v d → Q v H'
def spN (F : List D → (List D → Prop) → Prop) : Sp := fun vs H Q _ => ∃ G ds, Ex G H ∧ RA G vs ds ∧ F ds fun xs => ∀ p us G' H', Ex H H' → Ex G' H' → Ex G G' → (∀ a o, H a = some o → G a = none → G' a = none) → H p = none → G' p = none →
  H' p = some (.lst us) → RA G' us xs → Q (.ref p) H'
def spO (F : List D → List D → (D → List D → Prop) → Prop) : Sp := fun vs H Q _ => ∃ G p vs' us pl ds, vs = .ref p :: vs' ∧ Ex G H ∧ G p = none ∧ H p = some (.lst us) ∧ RA G us pl ∧ RA G vs' ds ∧ F pl ds fun d pl' =>
  ∀ v G' H' us', (∀ a o, a ≠ p → H a = some o → H' a = some o) → Ex G' H' → Ex G G' → (∀ a o, H a = some o → G a = none → G' a = none) → H' p = some (.lst us') → RA G' us' pl' → R G' v d → Q v H'

section
variable {c : Cn} {K : PySem.W.Frag} {ds : DS} {pl : List D} {Φ : W → List D → Prop} {ta tb te : TE} {tr : TA} {G H : Hp} {σ : L2.St}
theorem HS.ext (h : HS c G σ H ds pl) {G' H' : Hp} (e : Ex H H') (s : Ex G' H') (g : Ex G G') (n : ∀ a o, H a = some o → G a = none → G' a = none) : HS c G' σ H' ds pl := by
  refine ⟨s, fun a q => ?_, fun a q => ?_, fun a o q => n a o (h.pin a o q) (h.gn a o q), fun a o q1 q2 => e _ _ (h.keep a o q1 q2), fun p z => ?_, fun a o q => e _ _ (h.pin a o q), fun a q => ?_, h.len, fun i w q => ?_, h.own⟩
  · obtain ⟨o, z⟩ := h.hid a q
    exact n a o z (h.gh a q)
  · obtain ⟨_, _, vs, z, _⟩ := h.pl a q
    exact n a _ z (h.gq a q)
  · obtain ⟨b1, b2, vs, b3, b4⟩ := h.pl p z
    exact ⟨b1, b2, vs, e _ _ b3, b4.up g⟩
  · obtain ⟨o, z⟩ := h.hid a q
    exact ⟨o, e _ _ z⟩
  · obtain ⟨v, e1, e2⟩ := h.slots i w q
    exact ⟨v, e1, e2.up g fun q vs a1 a2 a3 a4 a5 a6 => ⟨e _ _ a6, n _ _ a6 a1⟩⟩
theorem we_call {F : List D → (D → Prop) → Prop} {E : XK} (ha : WA c tr ds pl fun xs p1 => F xs fun d => Φ (.d d) p1) (mono : ∀ xs k k', F xs k → (∀ d, k d → k' d) → F xs k') : WE c (tCall (spP F) [] E tr) ds pl Φ := fun G σ H hs Q q =>
  ha G σ H hs _ fun vs G1 H1 xs p1 h1 e1 f1 g1 => by
    rw [List.append_nil]
    exact ⟨G1, xs, h1.sub, f1, mono xs _ _ g1 fun d hd v G' H' a1 a2 a3 a4 a5 => q v G' H' (.d d) p1 (h1.ext a1 a2 a3 a4) (e1.trans a3) a5 hd⟩
theorem we_ixP {i : Nat} {p : Addr} (hi : ds[i]? = some (some (.v (.ref p)))) (hp : c.pool = some p) (hb : WE c tb ds pl (isI fun k p1 => ∃ e, atI p1 k = some e ∧ Φ (.d e) p1)) : WE c (tOp (rIx K) (tVar i) tb) ds pl Φ := fun G σ H hs Q q => by
  obtain ⟨v, e1, e2⟩ := hs.slots i _ hi
  have e2' : v = .ref p := e2
  subst e2'
  refine ⟨_, e1, hb G σ H hs _ fun u G1 H1 w p1 h1 e1 f1 g1 => ?_⟩
  match w, f1, g1 with
  | .d (.int k), f1, ⟨e, g1, g2⟩ =>
    cases f1
    obtain ⟨b1, b2, us, b3, b4⟩ := h1.pl p hp
    obtain ⟨z, z1, z2⟩ := atI_RA b4 g1
    exact .inl ⟨p, us, k, z, rfl, rfl, SqL.of b3, z1, q z G1 H1 (.d e) p1 h1 e1 z2 g2⟩

/-! ### statements -/
structure EE where
  nx : DS → List D → Prop
  rt : W → List D → Prop
  bk : DS → List D → Prop
  ct : DS → List D → Prop
structure Fits (c : Cn) (G : Hp) (D' : Ends) (E : EE) : Prop where
  nx : ∀ G' σ' H' ds' pl', HS c G' σ' H' ds' pl' → Ex G G' → E.nx ds' pl' → D'.nx σ' H'
  rt : ∀ v G' σ' H' ds' w pl', HS c G' σ' H' ds' pl' → Ex G G' → VW G' H' c v w → E.rt w pl' → D'.rt v H'
  bk : ∀ G' σ' H' ds' pl', HS c G' σ' H' ds' pl' → Ex G G' → E.bk ds' pl' → D'.bk σ' H'
  ct : ∀ G' σ' H' ds' pl', HS c G' σ' H' ds' pl' → Ex G G' → E.ct ds' pl' → D'.ct σ' H'
theorem Fits.up {D' : Ends} {E : EE} {G' : Hp} (f : Fits c G D' E) (e : Ex G G') : Fits c G' D' E :=
  ⟨fun a b d x y h e' => f.nx a b d x y h (e.trans e'), fun v a b d x w y h e' => f.rt v a b d x w y h (e.trans e'), fun a b d x y h e' => f.bk a b d x y h (e.trans e'), fun a b d x y h e' => f.ct a b d x y h (e.trans e')⟩
def WS (c : Cn) (ts : TS) (ds : DS) (pl : List D) (E : EE) : Prop := ∀ G σ H, HS c G σ H ds pl → ∀ D' : Ends, Fits c G D' E → ts D' σ H
variable {t u : TS} {E : EE}
theorem ws_next (h : E.nx ds pl) : WS c tNext ds pl E := fun G σ H hs D' f => f.nx G σ H ds pl hs (Ex.refl _) h
theorem ws_seq (h : WS c t ds pl { E with nx := fun ds' pl' => WS c u ds' pl' E }) : WS c (tSeq t u) ds pl E := fun G σ H hs D' f =>
  h G σ H hs { D' with nx := u D' } ⟨fun G' σ' H' ds' pl' h' e w => w G' σ' H' h' D' (f.up e), f.rt, f.bk, f.ct⟩
theorem ws_mono {E' : EE} (h : WS c t ds pl E') (h1 : ∀ ds' pl', E'.nx ds' pl' → E.nx ds' pl') (h2 : ∀ w pl', E'.rt w pl' → E.rt w pl') (h3 : ∀ ds' pl', E'.bk ds' pl' → E.bk ds' pl') (h4 : ∀ ds' pl', E'.ct ds' pl' → E.ct ds' pl') : WS c t ds pl E := fun G σ H hs D' f =>
  h G σ H hs D' ⟨fun a b d x y h e w => f.nx a b d x y h e (h1 _ _ w), fun v a b d x w y h e q z => f.rt v a b d x w y h e q (h2 _ _ z), fun a b d x y h e w => f.bk a b d x y h e (h3 _ _ w), fun a b d x y h e w => f.ct a b d x y h e (h4 _ _ w)⟩
theorem ws_ret (h : WE c te ds pl E.rt) : WS c (tRet te) ds pl E := fun G σ H hs D' f => h G σ H hs D'.rt fun v G' H' w pl' h' e q z => f.rt v G' σ H' ds w pl' h' e q z
theorem ws_drop (h : WE c te ds pl fun _ p1 => E.nx ds p1) : WS c (tDrop te) ds pl E := fun G σ H hs D' f => h G σ H hs _ fun v G' H' w pl' h' e q z => f.nx G' σ H' ds pl' h' e z
theorem ws_if {tt : TT} (h : WT c tt ds pl fun b p1 => if b = true then WS c t ds p1 E else WS c u ds p1 E) : WS c (tIfS tt t u) ds pl E := fun G σ H hs D' f => h G σ H hs _ fun b G1 H1 p1 h1 e1 g1 => by
  cases b with
  | true => exact (show WS c t ds p1 E from g1) G1 σ H1 h1 D' (f.up e1)
  | false => exact (show WS c u ds p1 E from g1) G1 σ H1 h1 D' (f.up e1)
theorem HS.set (h : HS c G σ H ds pl) {i : Nat} {v : V} {w : W} (hv : VW G H c v w) (hn : ∀ xs, w = .o xs → ∀ (j : Nat) (ys : List D), ds[j]? = some (some (W.o ys)) → σ[j]? ≠ some (some v)) : HS c G (σ.set i (some v)) H (ds.set i (some w)) pl := by
  refine ⟨h.sub, h.gh, h.gq, h.gn, h.keep, h.pl, h.pin, h.hid, by rw [List.length_set, List.length_set, h.len], fun j w' q => ?_, fun j k p xs ys q1 q2 q3 q4 => ?_⟩
  · by_cases e : i = j
    · subst e
      have hj : i < ds.length := by
        have := (List.getElem?_eq_some_iff.mp q).1
        rw [List.length_set] at this
        exact this
      rw [List.getElem?_set_self hj] at q
      cases q
      exact ⟨v, List.getElem?_set_self (by rw [h.len]; exact hj), hv⟩
    · rw [List.getElem?_set_ne e] at q
      obtain ⟨v', e1, e2⟩ := h.slots j w' q
      exact ⟨v', by rw [List.getElem?_set_ne e]; exact e1, e2⟩
  · have lt : ∀ {m : Nat} {z : Option W}, (ds.set i (some w))[m]? = some z → m < ds.length := fun q => by
      have := (List.getElem?_eq_some_iff.mp q).1
      rw [List.length_set] at this
      exact this
    by_cases e1 : i = j
    · by_cases e2 : i = k
      · exact e1.symm.trans e2
      · subst e1
        rw [List.getElem?_set_self (lt q1)] at q1
        rw [List.getElem?_set_self (by rw [h.len]; exact lt q2 |> fun _ => (by
          have := (List.getElem?_eq_some_iff.mp q3).1
          rw [List.length_set, h.len] at this
          exact this))] at q3
        rw [List.getElem?_set_ne e2] at q2 q4
        cases q1
        cases q3
        exact absurd q4 (hn xs rfl k ys q2)
    · by_cases e2 : i = k
      · subst e2
        rw [List.getElem?_set_self (lt q2)] at q2
        rw [List.getElem?_set_self (by
          have := (List.getElem?_eq_some_iff.mp q4).1
          rw [List.length_set] at this
          exact this)] at q4
        rw [List.getElem?_set_ne e1] at q1 q3
        cases q2
        cases q4
        exact absurd q3 (hn ys rfl j xs q1)
      · rw [List.getElem?_set_ne e1] at q1 q3
        rw [List.getElem?_set_ne e2] at q2 q4
        exact h.own j k p xs ys q1 q2 q3 q4
abbrev notO (k : W → List D → Prop) : W → List D → Prop := fun w pl => match w with
  | .o _ => False
  | w => k w pl
theorem ws_set {i : Nat} (h : WE c te ds pl (isD fun x p1 => E.nx (ds.set i (some (.d x))) p1)) : WS c (tAsg te (gName i)) ds pl E := fun G σ H hs D' f => h G σ H hs _ fun v G' H' w pl' h' e q z => by
  match w, q, z with
  | .d x, q, z => exact f.nx G' _ H' _ pl' (h'.set q fun xs z => by cases z) e z
theorem ws_setO {i : Nat} (h : WA c tr ds pl fun xs p1 => xs.length ≤ sizeLine ∧ E.nx (ds.set i (some (.o xs))) p1) : WS c (tAsg (tLst tr) (gName i)) ds pl E := fun G σ H hs D' f => h G σ H hs _ fun vs G1 H1 xs p1 h1 e1 f1 g1 => ⟨by rw [f1.len]; exact g1.1, fun p hp => by
    obtain ⟨n1, n2, n3, n4, n5⟩ := h1.none_of hp
    refine f.nx G1 _ _ _ p1 ((h1.newH hp).set (w := .o xs) ⟨p, vs, rfl, upd_same, f1, n1, n5, n3, n4, n2⟩ fun xs _ j ys q1 q2 => ?_) e1 g1.2
    obtain ⟨v, e2, p', us, rfl, b1, _⟩ := h1.slots j _ q1
    rw [e2] at q2
    have e3 : p' = p := V.ref.inj (Option.some.inj (Option.some.inj q2))
    rw [e3, hp] at b1
    cases b1⟩
theorem HS.chg (h : HS c G σ H ds pl) {i : Nat} {xs xs' : List D} {p : Addr} {us : List V} (hi : ds[i]? = some (some (.o xs))) (hs : σ[i]? = some (some (.ref p))) (hr : RA G us xs') : HS c G σ (upd H p (.lst us)) (ds.set i (some (.o xs'))) pl := by
  obtain ⟨v, e1, p', vs, rfl, b1, b2, b3, b4, b5, b6, b7⟩ := h.slots i _ hi
  have ep : p' = p := by rw [hs] at e1; exact (V.ref.inj (Option.some.inj (Option.some.inj e1))).symm
  subst ep
  have ne : ∀ a, a ≠ p' → (upd H p' (.lst us)) a = H a := fun a q => upd_ne q
  have hlt : i < ds.length := (List.getElem?_eq_some_iff.mp hi).1
  refine ⟨fun a o q => ?_, h.gh, h.gq, h.gn, fun a o q1 q2 => ?_, fun q z => ?_, fun a o q => ?_, fun a q => ?_, by rw [List.length_set]; exact h.len, fun j w q => ?_, fun j k p xs ys q1 q2 q3 q4 => ?_⟩
  · rw [ne a (fun e => by rw [e, b3] at q; cases q)]; exact h.sub a o q
  · rw [ne a (fun e => by rw [e, b4] at q2; cases q2)]; exact h.keep a o q1 q2
  · obtain ⟨c1, c2, vs', c3, c4⟩ := h.pl q z
    exact ⟨c1, c2, vs', by rw [ne q (fun e => b6 (e ▸ z))]; exact c3, c4⟩
  · rw [ne a (fun e => by rw [e, b5] at q; cases q)]; exact h.pin a o q
  · rw [ne a (fun e => b7 (e ▸ q))]; exact h.hid a q
  · by_cases e : i = j
    · subst e
      rw [List.getElem?_set_self hlt] at q
      cases q
      exact ⟨_, hs, p', us, rfl, upd_same, hr, b3, b4, b5, b6, b7⟩
    · rw [List.getElem?_set_ne e] at q
      obtain ⟨v, e1, e2⟩ := h.slots j w q
      refine ⟨v, e1, ?_⟩
      cases w with
      | d x => exact e2
      | v x => exact e2
      | o ys =>
        obtain ⟨q', us', rfl, d1, d2, d3⟩ := e2
        refine ⟨q', us', rfl, ?_, d2, d3⟩
        rw [ne q' (fun z => e (h.own i j p' xs ys hi q hs (by rw [z] at e1; exact e1)))]
        exact d1
  · have key : ∀ {m : Nat} {zs : List D}, (ds.set i (some (.o xs')))[m]? = some (some (.o zs)) → ∃ zs', ds[m]? = some (some (.o zs')) := fun {m zs} q => by
      by_cases e : i = m
      · subst e; exact ⟨_, hi⟩
      · rw [List.getElem?_set_ne e] at q; exact ⟨zs, q⟩
    obtain ⟨y1, r1⟩ := key q1
    obtain ⟨y2, r2⟩ := key q2
    exact h.own j k p y1 y2 r1 r2 q3 q4
theorem ws_app {i : Nat} {xs : List D} (hi : ds[i]? = some (some (.o xs))) (h : WE c te ds pl (isD fun x p1 => xs.length < sizeLine ∧ E.nx (ds.set i (some (.o (xs ++ [x])))) p1)) :
    WS c (tDrop (tBM K "list" rAppend (tVar i) (tCons te tNil))) ds pl E := fun G σ H hs D' f => by
  obtain ⟨v, e1, p, vs, rfl, b1, b2⟩ := hs.slots i _ hi
  refine ⟨_, e1, Or.inl ⟨rfl, _, SqL.of b1⟩, ?_⟩
  refine h G σ H hs _ fun v G1 H1 w p1 h1 e2 f1 g1 => ?_
  match w, f1, g1 with
  | .d x, f1, ⟨g1, g2⟩ =>
    obtain ⟨v', e1', p', vs', rfl, c1, c2, _⟩ := h1.slots i _ hi
    have ep : p' = p := by rw [e1] at e1'; exact (V.ref.inj (Option.some.inj (Option.some.inj e1'))).symm
    subst ep
    refine ⟨p', vs', v, rfl, rfl, c1, by rw [c2.len]; exact g1, ?_⟩
    exact f.nx G1 σ _ _ p1 (h1.chg hi e1 (c2.app (.cons f1 .nil))) e2 g2
theorem ws_setP {i : Nat} {p : Addr} {ti : TE} (hi : ds[i]? = some (some (.v (.ref p)))) (hp : c.pool = some p) (h : WE c te ds pl (isD fun x p1 => WE c ti ds p1 (isI fun k p2 => ∃ j, ixN p2.length k = some j ∧ E.nx ds (p2.set j x)))) :
    WS c (tAsg te (gSub (tVar i) ti rSetL)) ds pl E := fun G σ H hs D' f => by
  refine h G σ H hs _ fun v G1 H1 w p1 h1 e1 f1 g1 => ?_
  match w, f1, g1 with
  | .d x, f1, g1 =>
    obtain ⟨v0, q1, q2⟩ := h1.slots i _ hi
    have q2' : v0 = .ref p := q2
    subst q2'
    refine ⟨_, q1, ?_⟩
    refine g1 G1 σ H1 h1 _ fun u G2 H2 w2 p2 h2 e2 f2 g2 => ?_
    match w2, f2, g2 with
    | .d (.int k), f2, ⟨j, g2, g3⟩ =>
      cases f2
      obtain ⟨_, _, vs', c1, c2⟩ := h2.pl p hp
      refine ⟨p, vs', k, j, rfl, rfl, c1, by rw [c2.len]; exact g2, ?_⟩
      exact f.nx G2 σ _ _ _ (h2.setPool hp (c2.set (R.up f1 e2) j)) (e1.trans e2) g3
theorem ws_frz {i : Nat} {xs : List D} (hi : ds[i]? = some (some (.o xs))) (h : WS c t (ds.set i (some (.d (.list xs)))) pl E) : WS c t ds pl E := fun G σ H hs D' f => by
  obtain ⟨v, e1, p, vs, rfl, b1, b2, b3, b4, b5, b6, b7⟩ := hs.slots i _ hi
  have s2 : Ex G (upd G p (.lst vs)) := Ex.new b3
  have hlt : i < ds.length := (List.getElem?_eq_some_iff.mp hi).1
  refine h (upd G p (.lst vs)) σ H ⟨fun a o q => ?_, fun a q => ?_, fun a q => ?_, fun a o q => ?_, hs.keep, fun q z => ?_, hs.pin, hs.hid, by rw [List.length_set]; exact hs.len, fun j w q => ?_, fun j k p' xs' ys q1 q2 q3 q4 => ?_⟩ D' (f.up s2)
  · by_cases z : a = p
    · subst z; rw [upd_same] at q; cases q; exact b1
    · rw [upd_ne z] at q; exact hs.sub a o q
  · rw [upd_ne (fun z : a = p => b7 (z ▸ q))]; exact hs.gh a q
  · rw [upd_ne (fun z : a = p => b6 (z ▸ q))]; exact hs.gq a q
  · rw [upd_ne (fun z : a = p => by rw [z, b5] at q; cases q)]; exact hs.gn a o q
  · obtain ⟨c1, c2, vs', c3, c4⟩ := hs.pl q z
    exact ⟨c1, c2, vs', c3, c4.up s2⟩
  · by_cases e : i = j
    · subst e
      rw [List.getElem?_set_self hlt] at q
      cases q
      exact ⟨_, e1, R.lst upd_same (b2.up s2)⟩
    · rw [List.getElem?_set_ne e] at q
      obtain ⟨v, d1, d2⟩ := hs.slots j w q
      refine ⟨v, d1, ?_⟩
      cases w with
      | d x => exact R.up d2 s2
      | v x => exact d2
      | o ys =>
        obtain ⟨q', us', rfl, k1, k2, k3, k4⟩ := d2
        refine ⟨q', us', rfl, k1, k2.up s2, ?_, k4⟩
        rw [upd_ne (fun z : q' = p => e (hs.own i j p xs ys hi q e1 (by rw [z] at d1; exact d1)))]
        exact k3
  · have key : ∀ {m : Nat} {zs : List D}, (ds.set i (some (.d (.list xs))))[m]? = some (some (.o zs)) → ds[m]? = some (some (.o zs)) := fun {m zs} q => by
      by_cases e : i = m
      · subst e; rw [List.getElem?_set_self hlt] at q; cases q
      · rw [List.getElem?_set_ne e] at q; exact q
    exact hs.own j k p' xs' ys (key q1) (key q2) q3 q4
theorem ws_retO {i : Nat} {xs : List D} (hi : ds[i]? = some (some (.o xs))) (h : E.rt (.d (.list xs)) pl) : WS c (tRet (tVar i)) ds pl E :=
  ws_frz hi (ws_ret (we_var (w := .d (.list xs)) (List.getElem?_set_self (List.getElem?_eq_some_iff.mp hi).1) h))
theorem ws_unp {i j : Nat} (h : WE c te ds pl (isD fun d p1 => ∃ x y, d = .tuple [x, y] ∧ E.nx ((ds.set i (some (.d x))).set j (some (.d y))) p1)) : WS c (tAsg te (gTup K 2 (gCons (gName i) (gCons (gName j) gNil)))) ds pl E := fun G σ H hs D' f =>
  h G σ H hs _ fun v G1 H1 w p1 h1 e1 f1 g1 => by
    match w, f1, g1 with
    | .d d, f1, ⟨x, y, ed, g1⟩ =>
      subst ed
      cases f1 with
      | tup a b =>
        cases b with
        | cons r1 b =>
          cases b with
          | cons r2 b =>
            cases b
            refine ⟨_, _, rfl, SqT.of (h1.sub _ _ a), rfl, _, _, rfl, _, _, rfl, rfl, ?_⟩
            exact f.nx G1 _ H1 _ p1 ((h1.set (w := .d x) r1 fun xs z => by cases z).set (w := .d y) r2 fun xs z => by cases z) e1 g1
/-! ### loops -/
theorem ws_while {tt : TT} (I : Nat → DS → List D → Prop) (m0 : Nat) (h0 : I m0 ds pl)
    (hs : ∀ m ds' pl', I m ds' pl' → WT c tt ds' pl' fun b p1 => if b = true then WS c t ds' p1 { nx := fun d p => ∃ m', m' < m ∧ I m' d p, ct := fun d p => ∃ m', m' < m ∧ I m' d p, bk := E.nx, rt := E.rt } else E.nx ds' p1) : WS c (tWhile tt t) ds pl E :=
  fun G σ H hs0 D' f => ⟨fun m σ' H' => ∃ G' ds' pl', HS c G' σ' H' ds' pl' ∧ Ex G G' ∧ I m ds' pl', ⟨m0, G, ds, pl, hs0, Ex.refl _, h0⟩, by
    rintro m σ' H' ⟨G', ds', pl', h1, e1, g1⟩
    refine hs m ds' pl' g1 G' σ' H' h1 _ fun b G2 H2 p2 h2 e2 g2 => ?_
    cases b with
    | true =>
      refine ⟨fun σ3 H3 => ∃ m', m' < m ∧ ∃ G3 ds3 pl3, HS c G3 σ3 H3 ds3 pl3 ∧ Ex G G3 ∧ I m' ds3 pl3, fun σ3 H3 ⟨m', l, q⟩ => ⟨m', l, q⟩, ?_⟩
      refine (show WS c t ds' p2 _ from g2) G2 σ' H2 h2 _ ⟨?_, ?_, ?_, ?_⟩
      · exact fun G3 σ3 H3 ds3 pl3 h3 e3 ⟨m', l, g3⟩ => ⟨m', l, G3, ds3, pl3, h3, (e1.trans e2).trans e3, g3⟩
      · exact fun v G3 σ3 H3 ds3 w3 pl3 h3 e3 q3 g3 => f.rt v G3 σ3 H3 ds3 w3 pl3 h3 ((e1.trans e2).trans e3) q3 g3
      · exact fun G3 σ3 H3 ds3 pl3 h3 e3 g3 => f.nx G3 σ3 H3 ds3 pl3 h3 ((e1.trans e2).trans e3) g3
      · exact fun G3 σ3 H3 ds3 pl3 h3 e3 ⟨m', l, g3⟩ => ⟨m', l, G3, ds3, pl3, h3, (e1.trans e2).trans e3, g3⟩
    | false => exact f.nx G2 σ' H2 ds' p2 h2 (e1.trans e2) g2⟩
end
end PD

/-! PD4: sizes of data, repr, built-ins, comprehensions, defs whole -/
namespace PD
open PySem PySem.Spec PyProof.Rows L2 Evl

/-! ### data that is small enough to be shown and compared -/
def okD : Nat → D → Prop
  | _, .none => True
  | _, .bool _ => True
  | _, .int i => i.natAbs < 10 ^ 150
  | _, .str x => PyData.strOk x = true ∧ x.length ≤ 15
  | n + 1, .list xs => ∀ x ∈ xs, okD n x
  | n + 1, .tuple xs => ∀ x ∈ xs, okD n x
  | 0, .list _ => False
  | 0, .tuple _ => False
  | _, .dict _ => False
mutual
def cnt : D → Nat
  | .list xs => cntA xs + 1
  | .tuple xs => cntA xs + 1
  | _ => 1
def cntA : List D → Nat
  | [] => 0
  | x :: xs => cnt x + cntA xs
end
theorem int_shown {i : Int} (h : i.natAbs < 10 ^ 150) : (PyData.shown (.int i)).length ≤ 151 ∧ i.natAbs.log2 < 1920 := by
  constructor
  · have e := int_text_length_le10 (k := 150) (by decide) h
    show (Str.ofString (toString i)).length ≤ 151
    rw [PySem.ofString_length]
    exact e
  · have h2 : i.natAbs < 2 ^ 600 := Nat.lt_trans h (by decide +kernel)
    exact Nat.lt_of_lt_of_le (PySem.Flt.log2_lt_of (by decide) h2) (by decide)
structure Fine (n : Nat) (d : D) : Prop where
  show_ : d.showable = true
  nodict : d.hasDict = false
  depth : d.depth ≤ n + 1
  lay : d.canLay0 = true
  len : d.shown.length + 2 ≤ 220 * cnt d
structure FineA (n : Nat) (ds : List D) : Prop where
  show_ : PyData.showableAll ds = true
  nodict : PyData.hasDictAll ds = false
  depth : PyData.depthAll ds ≤ n + 1
  lay : PyData.canLayAll0 ds = true
  len : ((PyData.shownAll ds).map (·.length)).sum + 2 * ds.length ≤ 220 * cntA ds
  same : (PyData.shownAll ds).length = ds.length
theorem fineA_of {n : Nat} : ∀ {ds : List D}, (∀ x ∈ ds, Fine n x) → FineA n ds
  | [], _ => ⟨rfl, rfl, Nat.zero_le _, rfl, Nat.zero_le _, rfl⟩
  | d :: ds, h => by
    have a := h d List.mem_cons_self
    have b := fineA_of (ds := ds) fun x hx => h x (List.mem_cons_of_mem _ hx)
    refine ⟨?_, ?_, ?_, ?_, ?_, ?_⟩
    · simp only [PyData.showableAll, a.show_, b.show_, Bool.and_self]
    · simp only [PyData.hasDictAll, a.nodict, b.nodict, Bool.or_self]
    · simp only [PyData.depthAll]
      exact Nat.max_le.mpr ⟨a.depth, b.depth⟩
    · simp only [PyData.canLayAll0, a.lay, b.lay, Bool.and_self]
    · have e : cntA (d :: ds) = cnt d + cntA ds := rfl
      have h1 := a.len
      have h2 := b.len
      rw [e, Nat.mul_add]
      simp only [PyData.shownAll, List.map_cons, List.sum_cons, List.length_cons]
      omega
    · simp only [PyData.shownAll, List.length_cons, b.same]
theorem fine_of : ∀ {n : Nat} {d : D}, okD n d → Fine n d := by
  intro n
  induction n with
  | zero =>
    intro d h
    cases d with
    | none => exact ⟨rfl, rfl, Nat.zero_le _, rfl, by decide⟩
    | bool b => exact ⟨rfl, rfl, Nat.zero_le _, rfl, by cases b <;> decide⟩
    | int i =>
      obtain ⟨a, b⟩ := int_shown (show i.natAbs < 10 ^ 150 from h)
      refine ⟨by simp only [PyData.showable, decide_eq_true_eq]; exact b, rfl, Nat.zero_le _, rfl, ?_⟩
      show (PyData.shown (.int i)).length + 2 ≤ 220 * 1
      omega
    | str x =>
      obtain ⟨a, b⟩ := (show PyData.strOk x = true ∧ x.length ≤ 15 from h)
      refine ⟨rfl, rfl, Nat.zero_le _, a, ?_⟩
      have h0 : ∀ c ∈ x.cps.toList, c < 16 ^ 8 := by
        intro c hc
        have a' : x.cps.all (· < 0x110000) = true := a
        have := (Array.all_eq_true_iff_forall_mem.mp a') c (Array.mem_toList_iff.mp hc)
        have e : (16 : Nat) ^ 8 = 4294967296 := by decide
        have q : c < 0x110000 := by simpa using this
        omega
      have := StrLaws.reprText_len x h0
      show (reprText x).length + 2 ≤ 220 * 1
      omega
    | list xs => exact (show False from h).elim
    | tuple xs => exact (show False from h).elim
    | dict _ => exact (show False from h).elim
  | succ n ih =>
    intro d h
    cases d with
    | none => exact ⟨rfl, rfl, Nat.zero_le _, rfl, by decide⟩
    | bool b => exact ⟨rfl, rfl, Nat.zero_le _, rfl, by cases b <;> decide⟩
    | int i =>
      obtain ⟨a, b⟩ := int_shown (show i.natAbs < 10 ^ 150 from h)
      refine ⟨by simp only [PyData.showable, decide_eq_true_eq]; exact b, rfl, Nat.zero_le _, rfl, ?_⟩
      show (PyData.shown (.int i)).length + 2 ≤ 220 * 1
      omega
    | str x =>
      have q := ih (d := .str x) (by cases n <;> exact h)
      exact ⟨q.show_, q.nodict, by have := q.depth; omega, q.lay, q.len⟩
    | list xs =>
      have a := fineA_of fun x hx => ih ((show ∀ x ∈ xs, okD n x from h) x hx)
      refine ⟨by simp only [PyData.showable, a.show_], by simp only [PyData.hasDict, a.nodict], by simp only [PyData.depth]; have := a.depth; omega, by simp only [PyData.canLay0, a.lay], ?_⟩
      have e : cnt (.list xs) = cntA xs + 1 := rfl
      have h1 := listText_len_le (PyData.shownAll xs)
      have h2 := a.len
      have h3 := a.same
      rw [e]
      simp only [PyData.shown]
      omega
    | tuple xs =>
      have a := fineA_of fun x hx => ih ((show ∀ x ∈ xs, okD n x from h) x hx)
      refine ⟨by simp only [PyData.showable, a.show_], by simp only [PyData.hasDict, a.nodict], by simp only [PyData.depth]; have := a.depth; omega, by simp only [PyData.canLay0, a.lay], ?_⟩
      have e : cnt (.tuple xs) = cntA xs + 1 := rfl
      have h1 := tupleText_len_le (PyData.shownAll xs)
      have h2 := a.len
      have h3 := a.same
      rw [e]
      simp only [PyData.shown]
      omega
    | dict _ => exact (show False from h).elim
theorem shaped_of {d : D} (h : okD 20 d) : SeqAt.shaped d = true := by
  have f := fine_of h
  unfold SeqAt.shaped
  rw [f.lay]
  exact decide_eq_true (by have := f.depth; omega)

/-! ### repr -/
def rRepr (K : PySem.W.Frag) : List V → Hp → VK → Prop := fun xs H Q => ∃ v d, xs = [v] ∧ Dp K H v d ∧ okD 20 d ∧ cnt d ≤ 60000 ∧ Q (.str d.shown) H
section
variable {X : Cx}
def CPowW (i j : Int) : Prop := 0 ≤ j ∧ j ≤ 1000 ∧ i.natAbs < 2 ^ 2000
theorem op_powW : OpR X (binaryOp .Pow) (rI CPowW fun i j => .int (i ^ j.toNat)) := opI fun i j _ _ _ _ _ hc q => by
  refine pow_int hc.1 ?_ q
  have b : Builtin.Int.intBits i ≤ 2001 := by
    have h1 := PySem.Flt.log2_lt_of (by decide) hc.2.2
    unfold Builtin.Int.intBits
    split <;> omega
  have h2 : (Builtin.Int.intBits i : Int) * j ≤ 2001 * 1000 := Int.mul_le_mul (by omega) hc.2.1 hc.1 (by omega)
  omega
end

section
variable {c : Cn} {K : PySem.W.Frag} {ds : DS} {pl : List D} {Φ : W → List D → Prop} {ta tb te : TE} {tr : TA}
/-! ### calls of built-ins -/
def CbS (c : Cn) (r : List V → Hp → VK → Prop) (ds : DS) (xs : List D) (p1 : List D) (Φ : W → List D → Prop) : Prop := ∀ G σ H vs, HS c G σ H ds p1 → RA G vs xs → ∀ Q : VK, Co c ds G σ Φ Q → r vs H Q
theorem we_cb {r : List V → Hp → VK → Prop} (ha : WA c tr ds pl fun xs p1 => CbS c r ds xs p1 Φ) : WE c (tCB r tr) ds pl Φ := fun G σ H hs Q q =>
  ha G σ H hs _ fun vs G1 H1 xs p1 h1 e1 f1 g1 => g1 G1 σ H1 vs h1 f1 Q fun z G2 H2 w p3 h2 e2 f2 g2 => q z G2 H2 w p3 h2 (e1.trans e2) f2 g2
theorem ra1 {G : Hp} {vs : List V} {d : D} (h : RA G vs [d]) : ∃ v, vs = [v] ∧ R G v d := by
  cases h with
  | cons a b => cases b; exact ⟨_, rfl, a⟩
theorem ra2 {G : Hp} {vs : List V} {d e : D} (h : RA G vs [d, e]) : ∃ v u, vs = [v, u] ∧ R G v d ∧ R G u e := by
  cases h with
  | cons a b =>
    cases b with
    | cons a' b => cases b; exact ⟨_, _, rfl, a, a'⟩
theorem cb_abs {i : Int} (h : Φ (.d (.int i.natAbs)) pl) : CbS c (fun xs H Q => ∃ i, xs = [.int i] ∧ Q (.int (if i < 0 then -i else i)) H) ds [.int i] pl Φ := fun G σ H vs hs f Q q => by
  obtain ⟨v, rfl, a⟩ := ra1 f
  cases a
  refine ⟨i, rfl, ?_⟩
  have e : (if i < 0 then -i else i) = ((i.natAbs : Nat) : Int) := by split <;> omega
  rw [e]
  exact q _ G H (.d _) pl hs (Ex.refl _) (R.int _) h
theorem cb_max2 {i j : Int} (h : Φ (.d (.int (max i j))) pl) : CbS c (fun xs H Q => ∃ i j, xs = [.int i, .int j] ∧ Q (.int (if j > i then j else i)) H) ds [.int i, .int j] pl Φ := fun G σ H vs hs f Q q => by
  obtain ⟨v, u, rfl, a, b⟩ := ra2 f
  cases a
  cases b
  refine ⟨i, j, rfl, ?_⟩
  have e : (if j > i then j else i) = max i j := by split <;> omega
  rw [e]
  exact q _ G H (.d _) pl hs (Ex.refl _) (R.int _) h
theorem cb_min2 {i j : Int} (h : Φ (.d (.int (min i j))) pl) : CbS c (fun xs H Q => ∃ i j, xs = [.int i, .int j] ∧ Q (.int (if j < i then j else i)) H) ds [.int i, .int j] pl Φ := fun G σ H vs hs f Q q => by
  obtain ⟨v, u, rfl, a, b⟩ := ra2 f
  cases a
  cases b
  refine ⟨i, j, rfl, ?_⟩
  have e : (if j < i then j else i) = min i j := by split <;> omega
  rw [e]
  exact q _ G H (.d _) pl hs (Ex.refl _) (R.int _) h
abbrev rInt1 : List V → Hp → VK → Prop := fun xs H Q => (∃ i, xs = [.int i] ∧ Q (.int i) H) ∨ ∃ k, xs = [.bl k] ∧ Q (.int (if k then 1 else 0)) H
theorem cb_int {i : Int} (h : Φ (.d (.int i)) pl) : CbS c rInt1 ds [.int i] pl Φ := fun G σ H vs hs f Q q => by
  obtain ⟨v, rfl, a⟩ := ra1 f
  cases a
  exact .inl ⟨i, rfl, q _ G H (.d _) pl hs (Ex.refl _) (R.int _) h⟩
theorem cb_intB {b : Bool} (h : Φ (.d (.int (if b then 1 else 0))) pl) : CbS c rInt1 ds [.bool b] pl Φ := fun G σ H vs hs f Q q => by
  obtain ⟨v, rfl, a⟩ := ra1 f
  cases a
  exact .inr ⟨b, rfl, q _ G H (.d _) pl hs (Ex.refl _) (R.int _) h⟩
abbrev rLenQ (K : PySem.W.Frag) : List V → Hp → VK → Prop := fun xs H Q => ∃ p ys, xs = [.ref p] ∧ (SqL K H p ys ∨ SqT K H p ys) ∧ Q (.int ys.length) H
theorem cb_lenL {xs : List D} (h : Φ (.d (.int xs.length)) pl) : CbS c (rLenQ K) ds [.list xs] pl Φ := fun G σ H vs hs f Q q => by
  obtain ⟨v, rfl, a⟩ := ra1 f
  cases a with
  | lst a b =>
    refine ⟨_, _, rfl, .inl (SqL.of (hs.sub _ _ a)), ?_⟩
    rw [b.len]
    exact q _ G H (.d _) pl hs (Ex.refl _) (R.int _) h
theorem cb_lenT {xs : List D} (h : Φ (.d (.int xs.length)) pl) : CbS c (rLenQ K) ds [.tuple xs] pl Φ := fun G σ H vs hs f Q q => by
  obtain ⟨v, rfl, a⟩ := ra1 f
  cases a with
  | tup a b =>
    refine ⟨_, _, rfl, .inr (SqT.of (hs.sub _ _ a)), ?_⟩
    rw [b.len]
    exact q _ G H (.d _) pl hs (Ex.refl _) (R.int _) h
abbrev rListQ (K : PySem.W.Frag) : List V → Hp → VK → Prop := fun xs H Q => ∃ p ys, xs = [.ref p] ∧ (SqL K H p ys ∨ SqT K H p ys) ∧ ∀ l, H l = none → Q (.ref l) (upd H l (.lst ys))
/-! ### slices -/
theorem cutV_RA {G : Hp} {vs : List V} {xs : List D} (h : RA G vs xs) (lo hi : Option Int) : RA G (cutV vs lo hi) ((xs.drop (HT.sIx xs.length 0 lo)).take (HT.sIx xs.length xs.length hi - HT.sIx xs.length 0 lo)) := by
  unfold cutV
  rw [h.len]
  exact (h.drop _).take _
def WO (c : Cn) (to : TO) (ds : DS) (pl : List D) (Φ : Option Int → List D → Prop) : Prop := ∀ G σ H, HS c G σ H ds pl → ∀ Q : Option Int → Hp → Prop,
  (∀ o G' H' pl', HS c G' σ H' ds pl' → Ex G G' → Φ o pl' → Q o H') → to σ H Q
theorem wo_none {Φ : Option Int → List D → Prop} (h : Φ none pl) : WO c tNoPart ds pl Φ := fun G σ H hs Q q => q none G H pl hs (Ex.refl _) h
theorem wo_some {Φ : Option Int → List D → Prop} (h : WE c te ds pl (isI fun i p1 => Φ (some i) p1)) : WO c (tPart te) ds pl Φ := fun G σ H hs Q q => h G σ H hs _ fun v G1 H1 w p1 h1 e1 f1 g1 => by
  match w, f1, g1 with
  | .d (.int k), f1, g1 =>
    cases f1
    exact ⟨k, rfl, q _ G1 H1 p1 h1 e1 g1⟩
def cutD (xs : List D) (lo hi : Option Int) : List D := (xs.drop (HT.sIx xs.length 0 lo)).take (HT.sIx xs.length xs.length hi - HT.sIx xs.length 0 lo)
theorem we_slice {tl th : TO} (ha : WE c ta ds pl (isD fun x p1 => ∃ xs, x = .list xs ∧ WO c tl ds p1 fun lo p2 => WO c th ds p2 fun hi p3 => Φ (.d (.list (cutD xs lo hi))) p3)) : WE c (tSl (rSlL K) ta tl th) ds pl Φ := fun G σ H hs Q q =>
  ha G σ H hs _ fun v G1 H1 w p1 h1 e1 f1 g1 => by
    match w, f1, g1 with
    | .d x, f1, ⟨xs, ex, g1⟩ =>
      subst ex
      refine g1 G1 σ H1 h1 _ fun lo G2 H2 p2 h2 e2 g2 => g2 G2 σ H2 h2 _ fun hi G3 H3 p3 h3 e3 g3 => ?_
      cases f1 with
      | lst a b =>
        refine ⟨_, _, rfl, SqL.of (h3.sub _ _ (e3 _ _ (e2 _ _ a))), fun l hl => ?_⟩
        have n := h3.none_of hl
        exact q _ _ _ (.d _) p3 (h3.newD hl) ((e1.trans (e2.trans e3)).trans (Ex.new n.1)) (R.lst upd_same ((cutV_RA b lo hi).up ((e2.trans e3).trans (Ex.new n.1)))) g3

/-! ### comprehensions -/
def wipeD (ds : DS) : List Nat → DS
  | [] => ds
  | v :: vs => (wipeD ds vs).set v none
theorem HS.wipe1 (h : HS c G σ H ds pl) (i : Nat) : HS c G (σ.set i none) H (ds.set i none) pl := by
  refine ⟨h.sub, h.gh, h.gq, h.gn, h.keep, h.pl, h.pin, h.hid, by rw [List.length_set, List.length_set, h.len], fun j w' q => ?_, fun j k p xs ys q1 q2 q3 q4 => ?_⟩
  · by_cases e : i = j
    · subst e
      have hj : i < ds.length := by
        have := (List.getElem?_eq_some_iff.mp q).1
        rw [List.length_set] at this
        exact this
      rw [List.getElem?_set_self hj] at q
      cases q
    · rw [List.getElem?_set_ne e] at q
      obtain ⟨v', e1, e2⟩ := h.slots j w' q
      exact ⟨v', by rw [List.getElem?_set_ne e]; exact e1, e2⟩
  · have go : ∀ {m : Nat} {z : V}, (σ.set i none)[m]? = some (some z) → σ[m]? = some (some z) ∧ i ≠ m := fun {m z} q => by
      by_cases e : i = m
      · subst e
        have hj : i < σ.length := by
          have := (List.getElem?_eq_some_iff.mp q).1
          rw [List.length_set] at this
          exact this
        rw [List.getElem?_set_self hj] at q
        cases q
      · rw [List.getElem?_set_ne e] at q
        exact ⟨q, e⟩
    obtain ⟨a1, b1⟩ := go q3
    obtain ⟨a2, b2⟩ := go q4
    rw [List.getElem?_set_ne b1] at q1
    rw [List.getElem?_set_ne b2] at q2
    exact h.own j k p xs ys q1 q2 a1 a2
theorem HS.wipe (h : HS c G σ H ds pl) : ∀ vs : List Nat, HS c G (L2.wipe σ vs) H (wipeD ds vs) pl
  | [] => h
  | v :: vs => (HS.wipe h vs).wipe1 v
def Cn.with (c : Cn) (Dl : Addr) (o : HO) : Cn := { c with pin := fun a => if a = Dl then some o else c.pin a }
structure DF (c : Cn) (σ : L2.St) (ds : DS) (Dl : Addr) : Prop where
  h0 : c.H0 Dl = none
  pin : c.pin Dl = none
  pool : c.pool ≠ some Dl
  hd : ¬ c.hd Dl
  ne : ∀ (i : Nat) (xs : List D) (p : Addr), ds[i]? = some (some (W.o xs)) → σ[i]? = some (some (.ref p)) → p ≠ Dl
theorem with_at {Dl : Addr} {o : HO} : (c.with Dl o).pin Dl = some o := if_pos rfl
theorem with_ne {Dl a : Addr} {o : HO} (h : a ≠ Dl) : (c.with Dl o).pin a = c.pin a := if_neg h
theorem HS.to_with (h : HS c G σ H ds pl) {Dl : Addr} {o : HO} (f : DF c σ ds Dl) (hD : H Dl = some o) (gD : G Dl = none) : HS (c.with Dl o) G σ H ds pl := by
  refine ⟨h.sub, h.gh, h.gq, fun a u q => ?_, h.keep, fun p z => ?_, fun a u q => ?_, h.hid, h.len, fun i w q => ?_, h.own⟩
  · by_cases e : a = Dl
    · subst e; exact gD
    · rw [with_ne e] at q; exact h.gn a u q
  · obtain ⟨b1, b2, b3⟩ := h.pl p z
    exact ⟨b1, by rw [with_ne (fun e : p = Dl => f.pool (e ▸ z))]; exact b2, b3⟩
  · by_cases e : a = Dl
    · subst e; rw [with_at] at q; cases q; exact hD
    · rw [with_ne e] at q; exact h.pin a u q
  · obtain ⟨v, e1, e2⟩ := h.slots i w q
    refine ⟨v, e1, ?_⟩
    cases w with
    | d x => exact e2
    | v x => exact e2
    | o xs =>
      obtain ⟨p, vs, rfl, a1, a2, a3, a4, a5, a6, a7⟩ := e2
      exact ⟨p, vs, rfl, a1, a2, a3, a4, by rw [with_ne (f.ne i xs p q e1)]; exact a5, a6, a7⟩
theorem HS.push (h : HS c G σ H ds pl) {Dl : Addr} {o : HO} (f : DF c σ ds Dl) (gD : G Dl = none) : HS c G σ (upd H Dl o) ds pl := by
  have ne : ∀ a, a ≠ Dl → (upd H Dl o) a = H a := fun a q => upd_ne q
  refine ⟨fun a u q => ?_, h.gh, h.gq, h.gn, fun a u q1 q2 => ?_, fun p z => ?_, fun a u q => ?_, fun a q => ?_, h.len, fun i w q => ?_, h.own⟩
  · rw [ne a (fun e => by rw [e, gD] at q; cases q)]; exact h.sub a u q
  · rw [ne a (fun e => by rw [e, f.h0] at q2; cases q2)]; exact h.keep a u q1 q2
  · obtain ⟨b1, b2, vs, b3, b4⟩ := h.pl p z
    exact ⟨b1, b2, vs, by rw [ne p (fun e => f.pool (e ▸ z))]; exact b3, b4⟩
  · rw [ne a (fun e => by rw [e, f.pin] at q; cases q)]; exact h.pin a u q
  · rw [ne a (fun e => f.hd (e ▸ q))]; exact h.hid a q
  · obtain ⟨v, e1, e2⟩ := h.slots i w q
    refine ⟨v, e1, ?_⟩
    cases w with
    | d x => exact e2
    | v x => exact e2
    | o xs =>
      obtain ⟨p, vs, rfl, a1, a2⟩ := e2
      exact ⟨p, vs, rfl, by rw [ne p (f.ne i xs p q e1)]; exact a1, a2⟩
theorem HS.back (h : HS c G σ H ds pl) {Dl : Addr} {o : HO} {G3 H3 : Hp} {σ2 : L2.St} {ds2 : DS} {p3 : List D} (f : DF c σ ds Dl) (h3 : HS (c.with Dl o) G3 σ2 H3 ds2 p3) (e : Ex G G3)
    (ho : ∀ (i : Nat) (xs : List D), ds[i]? = some (some (W.o xs)) → ds2[i]? = some (some (W.o xs)) ∧ σ2[i]? = σ[i]?) : HS c G3 σ H3 ds p3 := by
  refine ⟨h3.sub, h3.gh, h3.gq, fun a u q => ?_, h3.keep, fun p z => ?_, fun a u q => ?_, h3.hid, h.len, fun i w q => ?_, h.own⟩
  · refine h3.gn a u ?_
    rw [with_ne (fun e => by rw [e, f.pin] at q; cases q)]; exact q
  · obtain ⟨b1, b2, b3⟩ := h3.pl p z
    rw [with_ne (fun e : p = Dl => f.pool (e ▸ z))] at b2
    exact ⟨b1, b2, b3⟩
  · refine h3.pin a u ?_
    rw [with_ne (fun e => by rw [e, f.pin] at q; cases q)]; exact q
  · obtain ⟨v, e1, e2⟩ := h.slots i w q
    refine ⟨v, e1, ?_⟩
    cases w with
    | d x => exact R.up e2 e
    | v x => exact e2
    | o xs =>
      obtain ⟨k1, k2⟩ := ho i xs q
      obtain ⟨v', d1, p, us, d2, d3, d4, d5, d6, d7, d8, d9⟩ := h3.slots i _ k1
      have ev : v' = v := by rw [k2, e1] at d1; exact (Option.some.inj (Option.some.inj d1)).symm
      subst ev
      subst d2
      rw [with_ne (f.ne i xs p q e1)] at d7
      exact ⟨p, us, rfl, d3, d4, d5, d6, d7, d8, d9⟩
def PvC (c : Cn) (σ : L2.St) (ds : DS) (G1 : Hp) (Dl : Addr) (J : Nat → List D → List D → Prop) (i : Nat) (H' : Hp) : Prop :=
  ∃ G' pl' acc us, HS c G' σ H' ds pl' ∧ Ex G1 G' ∧ H' Dl = some (.lst us) ∧ RA G' us acc ∧ G' Dl = none ∧ J i acc pl'
theorem wipe_other {α : Type} {l : List (Option α)} {i : Nat} : ∀ {vs : List Nat}, i ∉ vs → ∀ {f : List Nat → List (Option α)}, (f [] = l) → (∀ v r, f (v :: r) = (f r).set v none) → (f vs)[i]? = l[i]?
  | [], _, f, h0, _ => by rw [h0]
  | v :: vs, hn, f, h0, h1 => by
    rw [h1, List.getElem?_set_ne (fun e : v = i => hn (e ▸ List.mem_cons_self))]
    exact wipe_other (fun q => hn (List.mem_cons_of_mem _ q)) h0 h1
theorem wipe_ne {σ : L2.St} {i : Nat} {vs : List Nat} (h : i ∉ vs) : (L2.wipe σ vs)[i]? = σ[i]? := wipe_other h (f := fun vs => L2.wipe σ vs) rfl fun _ _ => rfl
theorem wipeD_ne {ds : DS} {i : Nat} {vs : List Nat} (h : i ∉ vs) : (wipeD ds vs)[i]? = ds[i]? := wipe_other h (f := fun vs => wipeD ds vs) rfl fun _ _ => rfl
section
variable {tt : TT} {j : Nat}
theorem lc_turnD (J : Nat → List D → List D → Prop) {G1 : Hp} {Dl : Addr} {i : Nat} {v : V} {x : D} {H' : Hp} (f : DF c σ ds Dl) (hj : ∀ (xs : List D), ds[j]? ≠ some (some (W.o xs))) (p : PvC c σ ds G1 Dl J i H') (hx : ∀ G', Ex G1 G' → R G' v x)
    (user : ∀ acc pl', J i acc pl' → ∀ pin, WT { c with pin := pin } tt ((wipeD ds [j]).set j (some (.d x))) pl' fun b p2 => if b = true then WE { c with pin := pin } te ((wipeD ds [j]).set j (some (.d x))) p2
      (isD fun y p3 => acc.length < sizeLine ∧ J (i + 1) (acc ++ [y]) p3) else J (i + 1) acc p2) :
    tt ((L2.wipe σ [j]).set j (some v)) H' fun b H3 => if b = true then te ((L2.wipe σ [j]).set j (some v)) H3 fun y H4 => ∃ acc, H4 Dl = some (.lst acc) ∧ acc.length < sizeLine ∧ PvC c σ ds G1 Dl J (i + 1) (upd H4 Dl (.lst (acc ++ [y]))) else PvC c σ ds G1 Dl J (i + 1) H3 := by
  obtain ⟨G', pl', acc, us, h, e1, hD, ra, gD, hJ⟩ := p
  have hw : HS c G' ((L2.wipe σ [j]).set j (some v)) H' ((wipeD ds [j]).set j (some (.d x))) pl' := (h.wipe [j]).set (w := .d x) (hx G' e1) fun xs z => by cases z
  have same : ∀ (i : Nat) (xs : List D), ds[i]? = some (some (W.o xs)) → ((wipeD ds [j]).set j (some (.d x)))[i]? = some (some (W.o xs)) ∧ ((L2.wipe σ [j]).set j (some v))[i]? = σ[i]? := fun i xs q => by
    have ne : j ≠ i := fun e => hj xs (e ▸ q)
    have nm : i ∉ [j] := fun z => ne (List.mem_singleton.mp z).symm
    rw [List.getElem?_set_ne ne, List.getElem?_set_ne ne, wipeD_ne nm, wipe_ne nm]
    exact ⟨q, rfl⟩
  have f2 : DF c ((L2.wipe σ [j]).set j (some v)) ((wipeD ds [j]).set j (some (.d x))) Dl := ⟨f.h0, f.pin, f.pool, f.hd, fun i xs p q1 q2 => by
    by_cases e : j = i
    · subst e
      have hlt : j < ((wipeD ds [j])).length := by
        have := (List.getElem?_eq_some_iff.mp q1).1
        rw [List.length_set] at this
        exact this
      rw [List.getElem?_set_self hlt] at q1
      cases q1
    · have nm : i ∉ [j] := fun z => e (List.mem_singleton.mp z).symm
      rw [List.getElem?_set_ne e, wipeD_ne nm] at q1
      rw [List.getElem?_set_ne e, wipe_ne nm] at q2
      exact f.ne i xs p q1 q2⟩
  refine user acc pl' hJ _ G' _ H' (hw.to_with f2 hD gD) _ fun b G2 H2 p2 h2 e2 g2 => ?_
  cases b with
  | true =>
    refine (show WE _ te _ p2 _ from g2) G2 _ H2 h2 _ fun y G3 H3 w p3 h3 e3 f3 g3 => ?_
    match w, f3, g3 with
    | .d z, f3, ⟨g3, g4⟩ =>
      have b3 := h.back f h3 (e2.trans e3) same
      have dD : G3 Dl = none := h3.gn Dl _ with_at
      exact ⟨us, h3.pin Dl _ with_at, by rw [ra.len]; exact g3, G3, p3, acc ++ [z], us ++ [y], b3.push f dD, e1.trans (e2.trans e3), upd_same, (ra.up (e2.trans e3)).app (.cons f3 .nil), dD, g4⟩
  | false =>
    exact ⟨G2, p2, acc, us, h.back f h2 e2 same, e1.trans e2, h2.pin Dl _ with_at, ra.up e2, h2.gn Dl _ with_at, g2⟩
theorem df_new {H1 : Hp} (h : HS c G σ H1 ds pl) {Dl : Addr} (hD : H1 Dl = none) : DF c σ ds Dl := by
  obtain ⟨n1, n2, n3, n4, n5⟩ := h.none_of hD
  refine ⟨n5, n3, n4, n2, fun i xs p q1 q2 e => ?_⟩
  obtain ⟨v, e1, p', us, rfl, b1, _⟩ := h.slots i _ q1
  rw [q2] at e1
  have ep : p = p' := V.ref.inj (Option.some.inj (Option.some.inj e1))
  rw [← ep, e, hD] at b1
  cases b1
theorem wipe_set (σ : L2.St) (j : Nat) (v : V) : L2.wipe ((L2.wipe σ [j]).set j (some v)) [j] = L2.wipe σ [j] := by
  show ((σ.set j none).set j (some v)).set j none = σ.set j none
  rw [List.set_set, List.set_set]
theorem pv_start (J : Nat → List D → List D → Prop) {G1 H1 : Hp} {p1 : List D} {Dl : Addr} (h : HS c G1 σ H1 ds p1) (hD : H1 Dl = none) (g : J 0 [] p1) : PvC c σ ds G1 Dl J 0 (upd H1 Dl (.lst [])) :=
  ⟨G1, p1, [], [], h.newH hD, Ex.refl _, upd_same, .nil, (h.none_of hD).1, g⟩
theorem pv_end {J : Nat → List D → List D → Prop} {G1 : Hp} {Dl : Addr} {n : Nat} {H' : Hp} {Q : VK} (f : DF c σ ds Dl) (p : PvC c σ ds G1 Dl J n H') (hq : ∀ acc pl', J n acc pl' → Φ (.d (.list acc)) pl')
    (q : ∀ v G' H' w pl', HS c G' σ H' ds pl' → Ex G1 G' → VW G' H' c v w → Φ w pl' → Q v H') : Q (.ref Dl) H' := by
  obtain ⟨G', pl', acc, us, h, e1, hD, ra, gD, hJ⟩ := p
  have s2 : Ex G' (upd G' Dl (.lst us)) := Ex.new gD
  refine q (.ref Dl) (upd G' Dl (.lst us)) H' (.d (.list acc)) pl' ⟨fun a o z => ?_, fun a z => ?_, fun a z => ?_, fun a o z => ?_, h.keep, fun p z => ?_, h.pin, h.hid, h.len, fun i w z => ?_, h.own⟩ (e1.trans s2) (R.lst upd_same (ra.up s2)) (hq acc pl' hJ)
  · by_cases y : a = Dl
    · subst y; rw [upd_same] at z; cases z; exact hD
    · rw [upd_ne y] at z; exact h.sub a o z
  · rw [upd_ne (fun y : a = Dl => f.hd (y ▸ z))]; exact h.gh a z
  · rw [upd_ne (fun y : a = Dl => f.pool (y ▸ z))]; exact h.gq a z
  · rw [upd_ne (fun y : a = Dl => by rw [y, f.pin] at z; cases z)]; exact h.gn a o z
  · obtain ⟨c1, c2, vs', c3, c4⟩ := h.pl p z
    exact ⟨c1, c2, vs', c3, c4.up s2⟩
  · obtain ⟨v, d1, d2⟩ := h.slots i w z
    refine ⟨v, d1, ?_⟩
    cases w with
    | d x => exact R.up d2 s2
    | v x => exact d2
    | o ys =>
      obtain ⟨q', us', rfl, k1, k2, k3, k4⟩ := d2
      exact ⟨q', us', rfl, k1, k2.up s2, by rw [upd_ne (f.ne i ys q' z d1)]; exact k3, k4⟩
theorem we_lcL {tl : TE} (J : Nat → List D → List D → Prop) (xs : List D) (hj : ∀ (xs : List D), ds[j]? ≠ some (some (W.o xs))) (h : WE c tl ds pl (isD fun d p1 => d = .list xs ∧ J 0 [] p1))
    (user : ∀ (i : Nat) x acc pl', xs[i]? = some x → J i acc pl' → ∀ pin, WT { c with pin := pin } tt ((wipeD ds [j]).set j (some (.d x))) pl' fun b p2 => if b = true then WE { c with pin := pin } te ((wipeD ds [j]).set j (some (.d x))) p2
      (isD fun y p3 => acc.length < sizeLine ∧ J (i + 1) (acc ++ [y]) p3) else J (i + 1) acc p2)
    (hq : ∀ acc pl', J xs.length acc pl' → Φ (.d (.list acc)) pl') : WE c (tLc (iList K tl) (gName j) tt te [j]) ds pl Φ := fun G σ H h0 Q q => h G σ H h0 _ fun v G1 H1 w p1 h1 e1 f1 g1 => by
  match w, f1, g1 with
  | .d d, f1, ⟨ed, g1⟩ =>
    subst ed
    cases f1 with
    | @lst a vs _ a1 b1 =>
    refine ⟨a, rfl, ⟨vs, SqL.of (h1.sub _ _ a1)⟩, fun Dl hD => ?_⟩
    have f := df_new h1 hD
    refine lc_list (K := K) (a := a) (xs := vs) (PvC c σ ds G1 Dl J) (pv_start J h1 hD g1) ?_ ?_ ?_
    · rintro i H' _ ⟨G', pl', acc, us, h2, e2, _⟩
      exact SqL.of (h2.sub _ _ (e2 _ _ a1))
    · intro i x H' hx p
      obtain ⟨d, hd1, hd2⟩ := b1.get' hx
      exact ⟨wipe_set σ j x, lc_turnD J f hj p (fun G' e => R.up hd2 e) fun acc pl' hJ pin => user i d acc pl' hd1 hJ pin⟩
    · intro H' p
      rw [b1.len] at p
      exact pv_end f p hq fun v G' H' w pl' h2 e2 f2 g2 => q v G' H' w pl' h2 (e1.trans e2) f2 g2
end
end

/-! ### defs whole -/
section
variable {P : Program} {w : World} {K : PySem.W.Frag} {mg : Str → Option Value} {base : Heap} {k : Nat} {f : Addr} {fd : FuncData} {ps : List Str}
def slotsD (N : List Str) (ds : List D) : DS := ds.map (fun x => some (W.d x)) ++ List.replicate (N.length - ds.length) none
theorem hs_start {G H : Hp} {vs : List V} {ds : List D} {N : List Str} (s : Ex G H) (r : RA G vs ds) : HS ⟨H, fun a => G a = none ∧ ∃ o, H a = some o, none, fun _ => none⟩ G (L2.start N vs) H (slotsD N ds) [] := by
  refine ⟨s, fun a q => q.1, fun a q => (by cases q), fun a o q => (by cases q), fun a o _ q => q, fun p q => (by cases q), fun a o q => (by cases q), fun a q => q.2, ?_, fun i w q => ?_, fun i j p xs ys q1 => ?_⟩
  · unfold L2.start slotsD
    simp only [List.length_append, List.length_map, List.length_replicate, r.len]
  · unfold slotsD at q
    by_cases hi : i < ds.length
    · rw [List.getElem?_append_left (by rw [List.length_map]; exact hi), List.getElem?_map] at q
      obtain ⟨v, e1, e2⟩ := r.get (i := i) (d := ds[i]) (List.getElem?_eq_getElem hi)
      rw [List.getElem?_eq_getElem hi] at q
      cases q
      refine ⟨v, ?_, e2⟩
      unfold L2.start
      rw [List.getElem?_append_left (by rw [List.length_map, r.len]; exact hi), List.getElem?_map, e1]
      rfl
    · rw [List.getElem?_append_right (by rw [List.length_map]; omega), List.getElem?_replicate] at q
      split at q <;> cases q
  · unfold slotsD at q1
    by_cases hi : i < ds.length
    · rw [List.getElem?_append_left (by rw [List.length_map]; exact hi), List.getElem?_map, List.getElem?_eq_getElem hi] at q1
      cases q1
    · rw [List.getElem?_append_right (by rw [List.length_map]; omega), List.getElem?_replicate] at q1
      split at q1 <;> cases q1
abbrev rtD (k : D → Prop) : W → List D → Prop := fun w _ => match w with
  | .d x => k x
  | _ => False
theorem fgP {F : List D → (D → Prop) → Prop} {x qual : Str} {st : Stmt} {N : List Str} (Fn : Fun K x qual st f fd) (S : FnScope N ps (defScope st)) (len : ∀ ds k, F ds k → ds.length = ps.length)
    (go : ∀ (cdv : Value) (B : Around) (fr : List Env) (s : Shared) (H : Hp) (E : XK), B.guards = some [] → Room k (B.deeper (envOfC qual (defScope st) s.heap.objs.size f cdv)) → ∃ t, PSs (cxOf CX0 P w K mg base N qual (defScope st) f cdv B fr s H E).nox (defBody st) t ∧ ∀ c ds (k : D → Prop), c.pool = none → F ds k → WS c t (slotsD N ds) [] ⟨fun _ _ => k .none, rtD k, fun _ _ => False, fun _ _ => False⟩) : FG P w K mg base (k + 1) f fd ps (spP F) := by
  refine fg_of Fn S (fun vs H Q E h => ?_) fun cdv B fr s H vs Q E hg hr h => ?_
  · obtain ⟨G, ds, _, r, h⟩ := h
    rw [r.len]
    exact len _ _ h
  · obtain ⟨t, der, body⟩ := go cdv B fr s H E hg hr
    refine ⟨t, der, ?_⟩
    obtain ⟨G, ds, s0, r, h⟩ := h
    refine body ⟨H, fun a => G a = none ∧ ∃ o, H a = some o, none, fun _ => none⟩ ds _ rfl h G _ H (hs_start s0 r) _ ⟨?_, ?_, ?_, ?_⟩
    · exact fun G' σ' H' ds' pl' h' e q => q _ G' H' (fun a o z => h'.keep a o (fun y => by cases y) z) h'.sub e (fun a o z1 z2 => h'.gh a ⟨z2, o, z1⟩) R.non
    · intro v G' σ' H' ds' w' pl' h' e q g
      match w', q, g with
      | .d y, q, g => exact g v G' H' (fun a o z => h'.keep a o (fun y => by cases y) z) h'.sub e (fun a o z1 z2 => h'.gh a ⟨z2, o, z1⟩) q
    · exact fun G' σ' H' ds' pl' h' e q => q.elim
    · exact fun G' σ' H' ds' pl' h' e q => q.elim
abbrev rtN (k : List D → Prop) : W → List D → Prop := fun w _ => match w with
  | .o x => k x
  | _ => False
def slotsO (N : List Str) (p : Addr) (ds : List D) : DS := some (.v (.ref p)) :: (ds.map (fun x => some (W.d x)) ++ List.replicate (N.length - (ds.length + 1)) none)
abbrev rtO (k : D → List D → Prop) : W → List D → Prop := fun w pl => match w with
  | .d x => k x pl
  | _ => False
end
end PD

/-! PD5: enumerate over a tuple; calls with keywords; more operations -/
namespace PD
open PySem PySem.Spec PyProof.Rows L2 Evl
open AutoSeq1 (wpAny_loadPart')

theorem meets_enum_tup (l : Addr) (o : Obj) (items : Array Value) :
    Meets (Builtin.«enumerate.__new__» ⟨[.type "enumerate", .ref l], []⟩) (fun _ Rr s => (s.heap.get? l = some o ∧ o.cls = .type "tuple" ∧ s.heap.IsTuple l items) ∧
      Rr (.ok (.ret (.ref (s.heap.push { cls := .type "tuple_iterator", data := .fields #[.ref l, .int 0 0] }).objs.size)))
        { s with heap := (s.heap.push { cls := .type "tuple_iterator", data := .fields #[.ref l, .int 0 0] }).push { cls := .type "enumerate", data := .fields #[.none, .bool false, .ref s.heap.objs.size, rawInt 0, .none, .none] } }) := by
  refine .of_wp ?_
  intro prog w A Rr s h
  obtain ⟨hp, g, d, tk, os⟩ := s
  obtain ⟨⟨hl, hc, hL⟩, h⟩ := h
  have hsub := PySem.sub_enumerate
  have hL2 : Heap.IsTuple (Shared.heap ⟨hp, g, d, tk, os⟩) l items := hL
  wp_walk using wpAny_loadPart' hl
  refine wpAny_stack_any fun st => wpAny_pure ?_
  split
  next c _ _ _ _ _ =>
    cases (c == Value.type "enumerate") <;> (wp_walk using wpAny_loadPart' hl, wpAny_pyIter_tuple hL2; exact ⟨_, rfl, h⟩)
  next => wp_walk using wpAny_loadPart' hl, wpAny_pyIter_tuple hL2; exact ⟨_, rfl, h⟩
section
variable {prog : Program} {w : World} {A : Around} {E : Value → Shared → Prop} {s : Shared}
theorem call_enum_tup {l : Addr} {items : Array Value} {Q : Value → Shared → Prop} (hL : s.heap.IsTuple l items)
    (h : ∀ h', IsEnum h' (s.heap.objs.size + 1) s.heap.objs.size 0 .none → h'.IsTupleIter s.heap.objs.size l 0 → (∀ b o, s.heap.get? b = some o → h'.get? b = some o) → Q (.ref (s.heap.objs.size + 1)) { s with heap := h' }) :
    wpAny (model prog w) A (call (.type "enumerate") [.ref l]) Q E s := by
  obtain ⟨o, hl, hc, hd⟩ := id hL
  refine callType_new F.called_enumerate (by decide) (F.typeCall_enumerate_1 _) (F.newCall_enumerate_1 _) (fun obj => F.args_object_init_2 obj _) F.entry_enumerate_new (meets_enum_tup l o items) ?_
  refine ⟨⟨hl, hc, hL⟩, ?_⟩
  have hz := Heap.size_push s.heap { cls := .type "tuple_iterator", data := .fields #[.ref l, .int 0 0] }
  have new := Heap.get?_push_size (s.heap.push { cls := .type "tuple_iterator", data := .fields #[.ref l, .int 0 0] }) (o := { cls := .type "enumerate", data := .fields #[.none, .bool false, .ref s.heap.objs.size, rawInt 0, .none, .none] }) rfl
  rw [hz] at new ⊢
  refine ⟨⟨_, new, rfl⟩, h _ new ⟨_, Heap.get?_push_of_some _ (Heap.get?_push_size _ rfl), rfl, rfl⟩ ?_⟩
  intro b ob x
  exact Heap.get?_push_of_some _ (Heap.get?_push_of_some _ x)
end
def IteT (K : PySem.W.Frag) (a : Addr) : It where
  go := fun i H => ∃ (xs : List V) (x : V), SqT K H a xs ∧ xs[i]? = some x
  yld := fun i H v H' => ∃ T x, v = .ref T ∧ H T = none ∧ H' = upd H T (.tup [.int (i : Nat), x]) ∧ ∀ xs, SqT K H a xs → xs[i]? = some x
  stop := fun i H => ∃ xs : List V, SqT K H a xs ∧ xs.length = i
theorem turn_enumT {P : Program} {w : World} {K : PySem.W.Frag} {elts : List Expr} {kk : Nat} {tpos : Pos} (a e it : Addr) (hai : a ≠ it) (hea : e ≠ a) :
    Turn P w K (.Tuple elts kk tpos) (IteT K a) [e, it] e (fun i h => (∃ old, IsEnum h e it ((i : Nat) : Int) old) ∧ h.IsTupleIter it a i ∧ e ≠ it) := by
  have two : ∀ b, b ∈ [e, it] → b = e ∨ b = it := fun b hb => by simpa using hb
  constructor
  case mem => simp
  case obj =>
    rintro i h ⟨⟨old, he⟩, ⟨o, ho, hc, hd⟩, _⟩ b hb
    rcases two b hb with z | z <;> subst z
    · exact ⟨_, he, fun v q => nomatch q⟩
    · exact ⟨o, ho, fun v q => by rw [hd] at q; cases q⟩
  case keep =>
    rintro i h h' ⟨⟨old, he⟩, hi, hne⟩ k
    exact ⟨⟨old, k e (by simp) _ he⟩, hi.at fun o q => k it (by simp) o q, hne⟩
  case item =>
    intro X hP hw hK hc i pins s σ H E I hf st hg
    subst hP hw hK
    obtain ⟨⟨old, he⟩, hit, hne⟩ := st
    obtain ⟨xs, x, hq, hx⟩ := hg
    obtain ⟨its, rv, p, hz⟩ := I.tuple hq
    obtain ⟨u, hu, ru⟩ := rv.get hx
    have hel : e < s.heap.objs.size := Heap.lt_size he
    have hil : it < s.heap.objs.size := by
      obtain ⟨_, q, _⟩ := hit
      exact Heap.lt_size q
    have Dr := Draws.tuple (prog := X.prog) (w := X.w) (A := X.A.in1) (I.ok.hd hc) it a hai its.toArray
    have lt : i < its.toArray.size := by
      have := (List.getElem?_eq_some_iff.mp hu).1
      simpa using this
    refine wpAny_pyNext_enum_itemD Dr he ⟨hit, p⟩ lt hne (by simp [hne, hea]) ?_
    intro y h' tk hy ho hst hT hsz hk
    have ey : y = u := by
      have hy' : its.toArray[i]? = some y := hy
      have hu' : its.toArray[i]? = some u := by simpa using hu
      rw [hu'] at hy'
      exact (Option.some.inj hy').symm
    subst ey
    refine ⟨_, rfl, wpAny_letOwnedTupleGo_enum (s := { s with heap := h', toks := tk + 1 }) ho fun h'' he' sb => ?_⟩
    have hT2 := (sb.2 _ (Nat.ne_of_gt hel)).trans hT
    have new : ObjOk X.prog X.w (upd H s.heap.objs.size (.tup [.int (i : Nat), x])) h'' s.heap.objs.size (.tup [.int (i : Nat), x]) :=
      ⟨by show 2 ≤ sizeLine; decide, [.int i tk, y], .cons ⟨_, rfl⟩ (.cons ru .nil), ⟨_, hT2, rfl, _, rfl⟩⟩
    have I1 : Inv X pins σ (upd H s.heap.objs.size (.tup [.int (i : Nat), x])) { s with heap := h'', toks := tk + 1 } := by
      refine I.turnedNew (ch := [e, it]) (fun b ob hb q => ?_) hf (Nat.le_refl _) new
      exact (sb.2 b (fun z => hb (by simp [z]))).trans (hk b ob (fun z => hb (by simp [z])) (fun z => hb (by simp [z])) q)
    refine ⟨.ref s.heap.objs.size, _, I1, rfl, ⟨_, x, rfl, I.hok.fresh (Nat.le_refl _), rfl, ?_⟩, ⟨⟨y, ?_⟩, hst.1.at fun o q => (sb.2 it (Ne.symm hne)).trans q, hne⟩, ?_⟩
    · intro ys hy2
      rw [I.tuple_inj hy2 hq]
      exact hx
    · rw [show ((i + 1 : Nat) : Int) = (i : Int) + 1 by omega]
      exact he'
    · intro b hb
      have hb' : b < s.heap.objs.size := by
        rcases two b hb with z | z <;> (rw [z]; assumption)
      rw [upd_ne (Nat.ne_of_lt hb')]
      exact (hf b hb).1
  case done =>
    intro X hP hw hK hc i pins s σ H E I hf st hg
    subst hP hw hK
    obtain ⟨⟨old, he⟩, hit, hne⟩ := st
    obtain ⟨xs, hq, hx⟩ := hg
    obtain ⟨its, rv, p, hz⟩ := I.tuple hq
    obtain ⟨f0, f1, f2, f3, f4, f5⟩ := hf it (by simp)
    have fin : ∀ h', Heap.ExtBut it s.heap h' → Inv X pins σ H { s with heap := h' } := fun h' eb => I.turned (t' := s.toks) (fun b o hb q => eb b o hb q) f0 f1 f3 f4 f5
    have Dr := Draws.tuple (prog := X.prog) (w := X.w) (A := X.A.in1) (I.ok.hd hc) it a hai its.toArray
    have ei : i = its.toArray.size := by
      have := rv.length
      simp
      omega
    rw [ei] at hit
    exact wpAny_pyNext_enum_endD Dr he ⟨hit, p⟩ fun h' eb => ⟨rfl, fin h' eb⟩
  case self => exact fun A i s Q E st h => let ⟨⟨_, he⟩, _⟩ := st; wpAny_pyIter_enum he h
def iEnumT (K : PySem.W.Frag) (ta : TA) : TI := fun σ H Rr => ta σ H fun vs H1 => ∃ a xs, vs = [.ref a] ∧ SqT K H1 a xs ∧ Rr (IteT K a) H1
theorem pi_enumT {X : Cx} {e : Expr} {ta : TA} {p pos tpos : Pos} {elts : List Expr} {kk : Nat} (hg : Gl X "enumerate") (hm : X.mg "enumerate" = none) (ha : PA X [e] ta) (hs : starEach [e] X.env = [(false, eval e X.env)] := by rfl) :
    PI X (.Tuple elts kk tpos) (.Call (.Name "enumerate" p) [e] [] pos) (iEnumT X.K ta) := by
  constructor
  intro pins s σ H Rr I h
  refine Call_ (ld_blt I hg hm boot_enumerate (PyProof.Rows.callWith_type1 (thn (ha.run pos pins s σ H _ I h) ?_) hs rfl))
  rintro us s1 ⟨vs, H1, I1, r1, a, xs, ex, hq, q⟩
  subst ex
  obtain ⟨u, eu, ru⟩ := vals1 r1
  subst eu
  have eu2 : u = .ref a := ru
  subst eu2
  obtain ⟨its, rv, pt, hz⟩ := I1.tuple hq
  have hlt : a < s1.heap.objs.size := by
    obtain ⟨o, ho, _⟩ := pt
    exact Heap.lt_size ho
  refine call_enum_tup pt fun h' he hit hk => wpAny_pyIter_enum he ?_
  have I2 : Inv X pins σ H1 { s1 with heap := h' } := I1.kept (t' := s1.toks) hk
  refine ⟨s1.heap.objs.size + 1, [s1.heap.objs.size + 1, s1.heap.objs.size], _, _, H1, rfl, I2, turn_enumT a (s1.heap.objs.size + 1) s1.heap.objs.size (Nat.ne_of_lt hlt) (Nat.ne_of_gt (Nat.lt_succ_of_lt hlt)), ⟨⟨.none, he⟩, hit, Nat.succ_ne_self _⟩, ?_, q⟩
  intro b hb
  have hle : s1.heap.objs.size ≤ b := by
    rcases (show b = s1.heap.objs.size + 1 ∨ b = s1.heap.objs.size by simpa using hb) with z | z
    · rw [z]; exact Nat.le_succ _
    · rw [z]; exact Nat.le_refl _
  exact I1.fpOk hle (I1.hok.fresh hle)
section
variable {c : Cn} {K : PySem.W.Frag} {ds : DS} {pl : List D} {tr : TA} {t : TS} {E : EE}
theorem ws_forET {j1 j2 : Nat} (I : Nat → DS → List D → Prop) (xs : List D) (h : WA c tr ds pl fun ys p1 => ys = [.tuple xs] ∧ I 0 ds p1)
    (hs : ∀ (i : Nat) x ds' pl', xs[i]? = some x → I i ds' pl' → WS c t ((ds'.set j1 (some (.d (.int i)))).set j2 (some (.d x))) pl' { nx := I (i + 1), ct := I (i + 1), bk := E.nx, rt := E.rt }) (hd : ∀ ds' pl', I xs.length ds' pl' → E.nx ds' pl') :
    WS c (tFor (iEnumT K tr) (gTup K 2 (gCons (gName j1) (gCons (gName j2) gNil))) t) ds pl E := fun G σ H h0 D' f => h G σ H h0 _ fun vs G1 H1 ys p1 h1 e1 f1 ⟨ey, g1⟩ => by
  subst ey
  obtain ⟨v, rfl, r⟩ := ra1 f1
  cases r with
  | @tup a us _ a1 b1 =>
  refine ⟨a, us, rfl, SqT.of (h1.sub _ _ a1), fun i m σ' H' => m = us.length - i ∧ i ≤ us.length ∧ ∃ G' ds' pl', HS c G' σ' H' ds' pl' ∧ Ex G1 G' ∧ I i ds' pl', ⟨us.length, by simp, Nat.zero_le _, G1, ds, p1, h1, Ex.refl _, g1⟩, ?_⟩
  rintro i m σ' H' ⟨rfl, hi, G', ds', pl', h2, e2, g2⟩
  have sq : SqT K H' a us := SqT.of (h2.sub _ _ (e2 _ _ a1))
  by_cases hlt : i < us.length
  · refine .inr ⟨⟨us, us[i], sq, by simp [hlt]⟩, fun σ3 H3 => ∃ G3 ds3 pl3, HS c G3 σ3 H3 ds3 pl3 ∧ Ex G1 G3 ∧ I (i + 1) ds3 pl3, fun σ3 H3 q => ⟨us.length - (i + 1), by omega, rfl, hlt, q⟩, ?_⟩
    rintro x H3 ⟨T, y, rfl, hT, rfl, hy⟩
    have hy2 := hy us sq
    obtain ⟨d, hd1, hd2⟩ := b1.get' hy2
    refine ⟨T, _, rfl, SqT.of upd_same, rfl, _, _, rfl, _, _, rfl, rfl, ?_⟩
    have n := h2.none_of hT
    have e3 : Ex G' (upd G' T (.tup [.int (i : Nat), y])) := Ex.new n.1
    have hN := ((h2.newD (o := .tup [.int (i : Nat), y]) hT).set (i := j1) (w := .d (.int i)) (R.int _) fun xs z => by cases z).set (i := j2) (w := .d d) (R.up hd2 (e2.trans e3)) fun xs z => by cases z
    refine hs i d ds' pl' hd1 g2 _ _ _ hN _ ⟨?_, ?_, ?_, ?_⟩
    · exact fun G4 σ4 H4 ds4 pl4 h4 e4 g4 => ⟨G4, ds4, pl4, h4, (e2.trans e3).trans e4, g4⟩
    · exact fun v G4 σ4 H4 ds4 w4 pl4 h4 e4 q4 g4 => f.rt v G4 σ4 H4 ds4 w4 pl4 h4 (e1.trans ((e2.trans e3).trans e4)) q4 g4
    · exact fun G4 σ4 H4 ds4 pl4 h4 e4 g4 => f.nx G4 σ4 H4 ds4 pl4 h4 (e1.trans ((e2.trans e3).trans e4)) g4
    · exact fun G4 σ4 H4 ds4 pl4 h4 e4 g4 => ⟨G4, ds4, pl4, h4, (e2.trans e3).trans e4, g4⟩
  · have ei : i = us.length := by omega
    subst ei
    rw [b1.len] at g2
    exact .inl ⟨⟨us, sq, rfl⟩, f.nx G' σ' H' ds' pl' h2 (e1.trans e2) (hd _ _ g2)⟩
theorem ws_forEL {j1 j2 : Nat} (I : Nat → DS → List D → Prop) (xs : List D) (h : WA c tr ds pl fun ys p1 => ys = [.list xs] ∧ I 0 ds p1)
    (hs : ∀ (i : Nat) x ds' pl', xs[i]? = some x → I i ds' pl' → WS c t ((ds'.set j1 (some (.d (.int i)))).set j2 (some (.d x))) pl' { nx := I (i + 1), ct := I (i + 1), bk := E.nx, rt := E.rt }) (hd : ∀ ds' pl', I xs.length ds' pl' → E.nx ds' pl') :
    WS c (tFor (iEnum K tr) (gTup K 2 (gCons (gName j1) (gCons (gName j2) gNil))) t) ds pl E := fun G σ H h0 D' f => h G σ H h0 _ fun vs G1 H1 ys p1 h1 e1 f1 ⟨ey, g1⟩ => by
  subst ey
  obtain ⟨v, rfl, r⟩ := ra1 f1
  cases r with
  | @lst a us _ a1 b1 =>
  refine ⟨a, us, rfl, SqL.of (h1.sub _ _ a1), fun i m σ' H' => m = us.length - i ∧ i ≤ us.length ∧ ∃ G' ds' pl', HS c G' σ' H' ds' pl' ∧ Ex G1 G' ∧ I i ds' pl', ⟨us.length, by simp, Nat.zero_le _, G1, ds, p1, h1, Ex.refl _, g1⟩, ?_⟩
  rintro i m σ' H' ⟨rfl, hi, G', ds', pl', h2, e2, g2⟩
  have sq : SqL K H' a us := SqL.of (h2.sub _ _ (e2 _ _ a1))
  by_cases hlt : i < us.length
  · refine .inr ⟨⟨us, us[i], sq, by simp [hlt]⟩, fun σ3 H3 => ∃ G3 ds3 pl3, HS c G3 σ3 H3 ds3 pl3 ∧ Ex G1 G3 ∧ I (i + 1) ds3 pl3, fun σ3 H3 q => ⟨us.length - (i + 1), by omega, rfl, hlt, q⟩, ?_⟩
    rintro x H3 ⟨T, y, rfl, hT, rfl, hy⟩
    have hy2 := hy us sq
    obtain ⟨d, hd1, hd2⟩ := b1.get' hy2
    refine ⟨T, _, rfl, SqT.of upd_same, rfl, _, _, rfl, _, _, rfl, rfl, ?_⟩
    have n := h2.none_of hT
    have e3 : Ex G' (upd G' T (.tup [.int (i : Nat), y])) := Ex.new n.1
    have hN := ((h2.newD (o := .tup [.int (i : Nat), y]) hT).set (i := j1) (w := .d (.int i)) (R.int _) fun xs z => by cases z).set (i := j2) (w := .d d) (R.up hd2 (e2.trans e3)) fun xs z => by cases z
    refine hs i d ds' pl' hd1 g2 _ _ _ hN _ ⟨?_, ?_, ?_, ?_⟩
    · exact fun G4 σ4 H4 ds4 pl4 h4 e4 g4 => ⟨G4, ds4, pl4, h4, (e2.trans e3).trans e4, g4⟩
    · exact fun v G4 σ4 H4 ds4 w4 pl4 h4 e4 q4 g4 => f.rt v G4 σ4 H4 ds4 w4 pl4 h4 (e1.trans ((e2.trans e3).trans e4)) q4 g4
    · exact fun G4 σ4 H4 ds4 pl4 h4 e4 g4 => f.nx G4 σ4 H4 ds4 pl4 h4 (e1.trans ((e2.trans e3).trans e4)) g4
    · exact fun G4 σ4 H4 ds4 pl4 h4 e4 g4 => ⟨G4, ds4, pl4, h4, (e2.trans e3).trans e4, g4⟩
  · have ei : i = us.length := by omega
    subst ei
    rw [b1.len] at g2
    exact .inl ⟨⟨us, sq, Nat.le_refl _⟩, f.nx G' σ' H' ds' pl' h2 (e1.trans e2) (hd _ _ g2)⟩
end
end PD

/-! PD6: defs by name; operators of several kinds -/
namespace PD
open PySem PySem.Spec PyProof.Rows L2 Evl

def Here (K : PySem.W.Frag) (mg : Str → Option Value) (name : Str) (st : Stmt) (ps : List Str) (f : Addr) (fd : FuncData) : Prop := Fun K name name st f fd ∧ mg name = some (.ref f) ∧ Binds K fd ps []
def At0 (K : PySem.W.Frag) (f : Addr) (fd : FuncData) : Prop := ∃ (oc : Value) (od : Option Addr) (osl : Array (Option Value)), K.lookup f = some ⟨oc, od, .func fd, osl⟩
def Df (P : Program) (w : World) (K : PySem.W.Frag) (mg : Str → Option Value) (base : Heap) (k : Nat) (name : Str) (ps : List Str) (sp : Sp) : Prop :=
  ∃ f fd, FG P w K mg base k f fd ps sp ∧ mg name = some (.ref f) ∧ PySem.W.keepIn K (.ref f) = true ∧ Binds K fd ps [] ∧ At0 K f fd
section
variable {P : Program} {w : World} {K : PySem.W.Frag} {mg : Str → Option Value} {base : Heap} {k : Nat} {name : Str} {ps : List Str} {sp : Sp} {f : Addr} {fd : FuncData} {st : Stmt}
theorem Here.df (h : Here K mg name st ps f fd) (g : FG P w K mg base k f fd ps sp) : Df P w K mg base k name ps sp := ⟨f, fd, g, h.2.1, h.1.kp, h.2.2, by
  obtain ⟨oc, od, kV, doc, pm, an, cdv, ct, osl, rfl, lk, _⟩ := h.1.ex
  exact ⟨oc, od, osl, lk⟩⟩
end
section
variable {X : Cx} {k : Nat} {ps : List Str} {sp : Sp} {E : XK} {x : Str} {p pos : Pos} {e : Expr} {es : List Expr} {t : TA}
theorem pe_callD (F : Df X.prog X.w X.K X.mg X.base k x ps sp) (hG : X.A.guards = some []) (hr : Room k X.A) (hg : Gl X x) (ha : PA X (e :: es) t)
    (hdb : (x == ("__debug__" : Str)) = false := by decide) (he : starEach (e :: es) X.env = (false, eval e X.env) :: starEach es X.env := by rfl)
    (hpl : (backTo pos (starEach es X.env)).any (·.1) = false := by rfl) : PE X (.Call (.Name x p) (e :: es) [] pos) (tCall sp [] E0 t) := by
  obtain ⟨f, fd, G, m, kp, b, _⟩ := F
  exact pe_callG hG G hr hg m kp b ha hdb he hpl
end

/-! ### + of ints, of lists; * of ints, of a list and an int -/
def rAddU : R2 := fun x y H Q => rI0 (fun i j => .int (i + j)) x y H Q ∨ rCat x y H Q
def rMulU : R2 := fun x y H Q => rI CMulW (fun i j => .int (i * j)) x y H Q ∨ rRep x y H Q
def rEqU (K : PySem.W.Frag) : R2 := fun x y H Q => rEqD K x y H Q ∨ rEq x y H Q
def rNeU (K : PySem.W.Frag) : R2 := fun x y H Q => rNeD K x y H Q ∨ rNe x y H Q
section
variable {X : Cx}
theorem op_eqU (hu : X.A.units + 64 < cLine) : OpR X (compareOp .Eq) (rEqU X.K) := (op_eqD hu).or op_eq
theorem op_neU (hu : X.A.units + 64 < cLine) : OpR X (compareOp .NotEq) (rNeU X.K) := (op_neD hu).or op_ne
theorem op_addU : OpR X (binaryOp .Add) rAddU := op_add.or op_cat
theorem op_mulU : OpR X (binaryOp .Mult) rMulU := op_mulW.or op_rep
end
section
variable {c : Cn} {K : PySem.W.Frag} {ds : DS} {pl : List D} {Φ : W → List D → Prop} {ta tb te : TE} {tr : TA}
theorem os_addI {i j : Int} {p2 : List D} (h : Φ (.d (.int (i + j))) p2) : OpS c rAddU ds (.int i) (.int j) p2 Φ := fun G σ H v u hs hv hu Q q => .inl (os_I0 (g := fun i j => .int (i + j)) rfl h G σ H v u hs hv hu Q q)
theorem os_addL {xs ys : List D} {p2 : List D} (hl : xs.length + ys.length ≤ sizeLine) (h : Φ (.d (.list (xs ++ ys))) p2) : OpS c rAddU ds (.list xs) (.list ys) p2 Φ := fun G σ H v u hs hv hu Q q => .inr (os_cat hl h G σ H v u hs hv hu Q q)
def repD (xs : List D) (k : Nat) : List D := (List.replicate k xs).flatten
theorem RA.rep {G : Hp} {vs : List V} {xs : List D} (h : RA G vs xs) : ∀ k : Nat, RA G (List.replicate k vs).flatten (repD xs k)
  | 0 => .nil
  | k + 1 => by
    unfold repD
    rw [List.replicate_succ, List.replicate_succ, List.flatten_cons, List.flatten_cons]
    exact h.app (RA.rep h k)
theorem os_sub {i j : Int} {p2 : List D} (h : Φ (.d (.int (i - j))) p2) : OpS c (rI0 fun i j => .int (i - j)) ds (.int i) (.int j) p2 Φ := os_I0 (g := fun i j => .int (i - j)) rfl h
theorem os_mod {i j : Int} {p2 : List D} (hc : 0 < j) (h : Φ (.d (.int (i % j))) p2) : OpS c (rI (fun _ j => 0 < j) fun i j => .int (i % j)) ds (.int i) (.int j) p2 Φ := os_I (C := fun _ j => 0 < j) (g := fun i j => .int (i % j)) hc rfl h
theorem os_pow {i j : Int} {p2 : List D} (hc : CPowW i j) (h : Φ (.d (.int (i ^ j.toNat))) p2) : OpS c (rI CPowW fun i j => .int (i ^ j.toNat)) ds (.int i) (.int j) p2 Φ := os_I (g := fun i j => .int (i ^ j.toNat)) hc rfl h
theorem os_lt {i j : Int} {p2 : List D} (h : Φ (.d (.bool (decide (i < j)))) p2) : OpS c (rI0 fun i j => .bl (decide (i < j))) ds (.int i) (.int j) p2 Φ := os_I0 (g := fun i j => .bl (decide (i < j))) rfl h
theorem os_le {i j : Int} {p2 : List D} (h : Φ (.d (.bool (decide (i ≤ j)))) p2) : OpS c (rI0 fun i j => .bl (decide (i ≤ j))) ds (.int i) (.int j) p2 Φ := os_I0 (g := fun i j => .bl (decide (i ≤ j))) rfl h
theorem os_gt {i j : Int} {p2 : List D} (h : Φ (.d (.bool (decide (j < i)))) p2) : OpS c (rI0 fun i j => .bl (decide (j < i))) ds (.int i) (.int j) p2 Φ := os_I0 (g := fun i j => .bl (decide (j < i))) rfl h
theorem os_ge {i j : Int} {p2 : List D} (h : Φ (.d (.bool (decide (j ≤ i)))) p2) : OpS c (rI0 fun i j => .bl (decide (j ≤ i))) ds (.int i) (.int j) p2 Φ := os_I0 (g := fun i j => .bl (decide (j ≤ i))) rfl h
theorem os_neUD {x y : D} {p2 : List D} (h1 : SeqAt.shaped x = true) (h2 : SeqAt.shaped y = true) (h : Φ (.d (.bool (!PyData.eqv x y))) p2) : OpS c (rNeU K) ds x y p2 Φ := fun G σ H v u hs hv hu Q q => .inl (os_neD h1 h2 h G σ H v u hs hv hu Q q)
theorem os_eqI {i j : Int} {p2 : List D} (h : Φ (.d (.bool (decide (i = j)))) p2) : OpS c (rEqU K) ds (.int i) (.int j) p2 Φ := fun G σ H v u hs hv hu Q q => .inr (by
  rw [hv.int, hu.int]
  refine ⟨rfl, ?_⟩
  have e : decide (V.int i = V.int j) = decide (i = j) := by rw [decide_eq_decide]; exact ⟨fun z => V.int.inj z, fun z => by rw [z]⟩
  rw [e]
  exact q _ G H (.d _) p2 hs (Ex.refl _) (R.bl _) h)
theorem os_neI {i j : Int} {p2 : List D} (h : Φ (.d (.bool (!decide (i = j)))) p2) : OpS c (rNeU K) ds (.int i) (.int j) p2 Φ := fun G σ H v u hs hv hu Q q => .inr (by
  rw [hv.int, hu.int]
  refine ⟨rfl, ?_⟩
  have e : decide (V.int i = V.int j) = decide (i = j) := by rw [decide_eq_decide]; exact ⟨fun z => V.int.inj z, fun z => by rw [z]⟩
  rw [e]
  exact q _ G H (.d _) p2 hs (Ex.refl _) (R.bl _) h)
theorem os_eqT {i j : Str} {p2 : List D} (h : Φ (.d (.bool (decide (i = j)))) p2) : OpS c (rEqU K) ds (.str i) (.str j) p2 Φ := fun G σ H v u hs hv hu Q q => .inr (by
  rw [hv.str, hu.str]
  refine ⟨rfl, ?_⟩
  have e : decide (V.str i = V.str j) = decide (i = j) := by rw [decide_eq_decide]; exact ⟨fun z => V.str.inj z, fun z => by rw [z]⟩
  rw [e]
  exact q _ G H (.d _) p2 hs (Ex.refl _) (R.bl _) h)
theorem os_neT {i j : Str} {p2 : List D} (h : Φ (.d (.bool (!decide (i = j)))) p2) : OpS c (rNeU K) ds (.str i) (.str j) p2 Φ := fun G σ H v u hs hv hu Q q => .inr (by
  rw [hv.str, hu.str]
  refine ⟨rfl, ?_⟩
  have e : decide (V.str i = V.str j) = decide (i = j) := by rw [decide_eq_decide]; exact ⟨fun z => V.str.inj z, fun z => by rw [z]⟩
  rw [e]
  exact q _ G H (.d _) p2 hs (Ex.refl _) (R.bl _) h)
theorem we_lenO {i : Nat} {xs : List D} (hi : ds[i]? = some (some (.o xs))) (h : Φ (.d (.int xs.length)) pl) : WE c (tCB (rLenQ K) (tCons (tVar i) tNil)) ds pl Φ := fun G σ H hs Q q => by
  obtain ⟨v, e1, p, vs, rfl, b1, b2, _⟩ := hs.slots i _ hi
  refine ⟨_, e1, p, vs, rfl, .inl (SqL.of b1), ?_⟩
  rw [b2.len]
  exact q _ G H (.d _) pl hs (Ex.refl _) (R.int _) h
mutual
theorem eqv_refl : ∀ d : D, d.canLay0 = true → PyData.eqv d d = true
  | .none, _ => rfl
  | .bool b, _ => by show (b == b) = true; simp
  | .int i, _ => by show (i == i) = true; simp
  | .str x, _ => by show (x == x) = true; simp
  | .list xs, h => eqvA_refl xs (by simpa only [PyData.canLay0] using h)
  | .tuple xs, h => eqvA_refl xs (by simpa only [PyData.canLay0] using h)
  | .dict _, h => by simp [PyData.canLay0] at h
theorem eqvA_refl : ∀ ds : List D, PyData.canLayAll0 ds = true → PyData.eqvAll ds ds = true
  | [], _ => rfl
  | d :: ds, h => by
    have h' : d.canLay0 = true ∧ PyData.canLayAll0 ds = true := by simpa only [PyData.canLayAll0, Bool.and_eq_true] using h
    show (PyData.eqv d d && PyData.eqvAll ds ds) = true
    rw [eqv_refl d h'.1, eqvA_refl ds h'.2]
    rfl
end
theorem os_neS {x : D} {p2 : List D} (h1 : okD 20 x) (h : Φ (.d (.bool false)) p2) : OpS c (rNeU K) ds x x p2 Φ := os_neUD (shaped_of h1) (shaped_of h1) (by rw [eqv_refl x (fine_of h1).lay]; exact h)
end
end PD

/-! PD7: comprehensions over zip, enumerate; all, any; is of bools; calls with keywords; extend, pop -/
namespace PD
open PySem PySem.Spec PyProof.Rows L2 Evl
section
variable {c : Cn} {K : PySem.W.Frag} {ds : DS} {pl : List D} {Φ : W → List D → Prop} {ta tb te : TE} {tr : TA} {tt : TT} {G H : Hp} {σ : L2.St}
theorem lc_turnG (J : Nat → List D → List D → Prop) {σI : L2.St} {dsI : DS} {G1 G' G2 H' H2 : Hp} {Dl : Addr} {i : Nat} {pl' acc : List D} {us : List V} (f : DF c σ ds Dl) (f2 : DF c σI dsI Dl)
    (same : ∀ (i : Nat) (xs : List D), ds[i]? = some (some (W.o xs)) → dsI[i]? = some (some (W.o xs)) ∧ σI[i]? = σ[i]?)
    (h : HS c G' σ H' ds pl') (hw : HS c G2 σI H2 dsI pl') (e1 : Ex G1 G') (e2 : Ex G' G2) (hD : H2 Dl = some (.lst us)) (gD : G2 Dl = none) (ra : RA G' us acc)
    (user : ∀ pin, WT { c with pin := pin } tt dsI pl' fun b p2 => if b = true then WE { c with pin := pin } te dsI p2 (isD fun y p3 => acc.length < sizeLine ∧ J (i + 1) (acc ++ [y]) p3) else J (i + 1) acc p2) :
    J i acc pl' → tt σI H2 fun b H3 => if b = true then te σI H3 fun y H4 => ∃ acc, H4 Dl = some (.lst acc) ∧ acc.length < sizeLine ∧ PvC c σ ds G1 Dl J (i + 1) (upd H4 Dl (.lst (acc ++ [y]))) else PvC c σ ds G1 Dl J (i + 1) H3 := by
  intro hJ
  refine user _ G2 _ H2 (hw.to_with f2 hD gD) _ fun b G3 H3 p2 h3 e3 g2 => ?_
  cases b with
  | true =>
    refine (show WE _ te _ p2 _ from g2) G3 _ H3 h3 _ fun y G4 H4 w p3 h4 e4 f4 g3 => ?_
    match w, f4, g3 with
    | .d z, f4, ⟨g3, g4⟩ =>
      have up := e2.trans (e3.trans e4)
      have b3 := h.back f h4 up same
      have dD : G4 Dl = none := h4.gn Dl _ with_at
      exact ⟨us, h4.pin Dl _ with_at, by rw [ra.len]; exact g3, G4, p3, acc ++ [z], us ++ [y], b3.push f dD, e1.trans up, upd_same, (ra.up up).app (.cons f4 .nil), dD, g4⟩
  | false =>
    have up := e2.trans e3
    exact ⟨G3, p2, acc, us, h.back f h3 up same, e1.trans up, h3.pin Dl _ with_at, ra.up up, h3.gn Dl _ with_at, g2⟩
theorem two_slots {j1 j2 : Nat} {Dl : Addr} {v1 v2 : V} {d1 d2 : D} (f : DF c σ ds Dl) (hj : ∀ (xs : List D), ds[j1]? ≠ some (some (W.o xs)) ∧ ds[j2]? ≠ some (some (W.o xs))) :
    DF c (((L2.wipe σ [j1, j2]).set j1 (some v1)).set j2 (some v2)) (((wipeD ds [j1, j2]).set j1 (some (.d d1))).set j2 (some (.d d2))) Dl ∧
    ∀ (i : Nat) (xs : List D), ds[i]? = some (some (W.o xs)) → (((wipeD ds [j1, j2]).set j1 (some (.d d1))).set j2 (some (.d d2)))[i]? = some (some (W.o xs)) ∧ (((L2.wipe σ [j1, j2]).set j1 (some v1)).set j2 (some v2))[i]? = σ[i]? := by
  have out : ∀ {i : Nat}, j1 ≠ i → j2 ≠ i → i ∉ [j1, j2] := fun a b z => by
    rcases List.mem_cons.mp z with z | z
    · exact a z.symm
    · exact b (List.mem_singleton.mp z).symm
  have vals : ∀ {i : Nat} {xs : List D}, (((wipeD ds [j1, j2]).set j1 (some (.d d1))).set j2 (some (.d d2)))[i]? = some (some (W.o xs)) → j1 ≠ i ∧ j2 ≠ i := fun {i xs} q => by
    have hlt := (List.getElem?_eq_some_iff.mp q).1
    rw [List.length_set, List.length_set] at hlt
    refine ⟨fun e => ?_, fun e => ?_⟩
    · subst e
      by_cases e2 : j2 = j1
      · subst e2
        rw [List.getElem?_set_self (by rw [List.length_set]; exact hlt)] at q
        cases q
      · rw [List.getElem?_set_ne e2, List.getElem?_set_self hlt] at q
        cases q
    · subst e
      rw [List.getElem?_set_self (by rw [List.length_set]; exact hlt)] at q
      cases q
  refine ⟨⟨f.h0, f.pin, f.pool, f.hd, fun i xs p q1 q2 => ?_⟩, fun i xs q => ?_⟩
  · obtain ⟨n1, n2⟩ := vals q1
    rw [List.getElem?_set_ne n2, List.getElem?_set_ne n1, wipeD_ne (out n1 n2)] at q1
    rw [List.getElem?_set_ne n2, List.getElem?_set_ne n1, wipe_ne (out n1 n2)] at q2
    exact f.ne i xs p q1 q2
  · have n1 : j1 ≠ i := fun e => (hj xs).1 (e ▸ q)
    have n2 : j2 ≠ i := fun e => (hj xs).2 (e ▸ q)
    rw [List.getElem?_set_ne n2, List.getElem?_set_ne n1, wipeD_ne (out n1 n2), List.getElem?_set_ne n2, List.getElem?_set_ne n1, wipe_ne (out n1 n2)]
    exact ⟨q, rfl⟩
theorem wipe_set2 (σ : L2.St) (j1 j2 : Nat) (v1 v2 : V) : L2.wipe (((L2.wipe σ [j1, j2]).set j1 (some v1)).set j2 (some v2)) [j1, j2] = L2.wipe σ [j1, j2] := by
  show ((((σ.set j2 none).set j1 none).set j1 (some v1)).set j2 (some v2) |>.set j2 none |>.set j1 none) = (σ.set j2 none).set j1 none
  rw [List.set_set, List.set_set]
  by_cases e : j1 = j2
  · subst e; simp only [List.set_set]
  · rw [List.set_comm _ _ e, List.set_set, List.set_set]

theorem we_lcZ {j1 j2 : Nat} (J : Nat → List D → List D → Prop) (xs ys : List D) (hl : ys.length ≤ xs.length) (hj : ∀ (xs : List D), ds[j1]? ≠ some (some (W.o xs)) ∧ ds[j2]? ≠ some (some (W.o xs)))
    (h : WA c tr ds pl fun zs p1 => zs = [.list xs, .list ys] ∧ J 0 [] p1)
    (user : ∀ (i : Nat) x y acc pl', xs[i]? = some x → ys[i]? = some y → J i acc pl' → ∀ pin, WT { c with pin := pin } tt (((wipeD ds [j1, j2]).set j1 (some (.d x))).set j2 (some (.d y))) pl' fun b p2 =>
      if b = true then WE { c with pin := pin } te (((wipeD ds [j1, j2]).set j1 (some (.d x))).set j2 (some (.d y))) p2 (isD fun y p3 => acc.length < sizeLine ∧ J (i + 1) (acc ++ [y]) p3) else J (i + 1) acc p2)
    (hq : ∀ acc pl', J ys.length acc pl' → Φ (.d (.list acc)) pl') : WE c (tLc (iZip K tr) (gTup K 2 (gCons (gName j1) (gCons (gName j2) gNil))) tt te [j1, j2]) ds pl Φ := fun G σ H h0 Q q => h G σ H h0 _ fun vs G1 H1 zs p1 h1 e1 f1 ⟨ez, g1⟩ => by
  subst ez
  obtain ⟨v, u, rfl, r1, r2⟩ := ra2 f1
  cases r1 with
  | @lst a us1 _ a1 b1 =>
  cases r2 with
  | @lst b us2 _ a2 b2 =>
  refine ⟨a, b, us1, us2, rfl, SqL.of (h1.sub _ _ a1), SqL.of (h1.sub _ _ a2), fun Dl hD => ?_⟩
  have f := df_new h1 hD
  refine ⟨fun i m H' => m = us2.length - i ∧ i ≤ us2.length ∧ PvC c σ ds G1 Dl J i H', ⟨us2.length, by simp, Nat.zero_le _, pv_start J h1 hD g1⟩, ?_⟩
  rintro i m H' ⟨rfl, hi, p⟩
  obtain ⟨G', pl', acc, us, h2, e2, hD2, ra, gD, hJ⟩ := id p
  have sq1 : SqL K H' a us1 := SqL.of (h2.sub _ _ (e2 _ _ a1))
  have sq2 : SqL K H' b us2 := SqL.of (h2.sub _ _ (e2 _ _ a2))
  by_cases hlt : i < us2.length
  · have hlt1 : i < us1.length := by rw [b1.len]; rw [b2.len] at hlt; omega
    refine .inr ⟨⟨us1, us2, us1[i], us2[i], sq1, sq2, by simp [hlt1], by simp [hlt]⟩, PvC c σ ds G1 Dl J (i + 1), fun H3 q => ⟨us2.length - (i + 1), by omega, rfl, hlt, q⟩, ?_⟩
    rintro x H3 ⟨T, x1, x2, rfl, hT, rfl, y1, y2⟩
    obtain ⟨d1, hd1, hr1⟩ := b1.get' (y1 us1 sq1)
    obtain ⟨d2, hd2, hr2⟩ := b2.get' (y2 us2 sq2)
    have n := h2.none_of hT
    have e3 : Ex G' (upd G' T (.tup [x1, x2])) := Ex.new n.1
    refine ⟨T, _, rfl, SqT.of upd_same, rfl, _, _, rfl, _, _, rfl, rfl, wipe_set2 σ j1 j2 x1 x2, ?_⟩
    have hw := (((h2.newD (o := .tup [x1, x2]) hT).wipe [j1, j2]).set (i := j1) (w := .d d1) (R.up hr1 (e2.trans e3)) fun xs z => by cases z).set (i := j2) (w := .d d2) (R.up hr2 (e2.trans e3)) fun xs z => by cases z
    obtain ⟨f2, same⟩ := two_slots (v1 := x1) (v2 := x2) (d1 := d1) (d2 := d2) f hj
    refine lc_turnG J f f2 same h2 hw e2 e3 (by rw [upd_ne (ne_of_none hD2 hT)]; exact hD2) ?_ ra (fun pin => user i d1 d2 acc pl' hd1 hd2 hJ pin) hJ
    rw [upd_ne (ne_of_none hD2 hT)]
    exact gD
  · have ei : i = us2.length := by omega
    subst ei
    rw [b2.len] at p
    exact .inl ⟨⟨us1, us2, sq1, sq2, .inr (Nat.le_refl _)⟩, pv_end f p hq fun v G' H' w pl' h2 e2 f2 g2 => q v G' H' w pl' h2 (e1.trans e2) f2 g2⟩
theorem RA.bls {G : Hp} : ∀ {vs : List V} {bs : List Bool}, RA G vs (bs.map PyData.bool) → vs = bs.map V.bl
  | _, [], h => by cases h; rfl
  | _, n :: ns, h => by
    cases h with
    | cons a b =>
      cases a
      rw [List.map_cons, RA.bls b]
theorem cb_all {bs : List Bool} (h : Φ (.d (.bool (bs.all id))) pl) : CbS c (rAll K) ds [.list (bs.map PyData.bool)] pl Φ := fun G σ H vs hs f Q q => by
  obtain ⟨v, rfl, a⟩ := ra1 f
  cases a with
  | lst a b =>
    have e := b.bls
    subst e
    exact ⟨_, bs, rfl, SqL.of (hs.sub _ _ a), q _ G H (.d _) pl hs (Ex.refl _) (R.bl _) h⟩
/-! ### isinstance -/
def tyD : D → String
  | .none => "NoneType"
  | .bool _ => "bool"
  | .int _ => "int"
  | .str _ => "str"
  | .list _ => "list"
  | .tuple _ => "tuple"
  | .dict _ => "dict"
def isaN (T n : String) : Bool := T == n || (n == "bool" && T == "int")
def isaD (T : String) (d : D) : Bool := isaN T (tyD d)
def tyNames : List String := ["NoneType", "bool", "int", "str", "list", "tuple", "dict"]
theorem kitB_all : ∀ T ∈ (["int", "bool", "tuple", "list", "str"] : List String), ∀ n ∈ tyNames, kitB n T = some (isaN T n) := by decide +kernel
theorem tyD_mem (d : D) : tyD d ∈ tyNames := by cases d <;> simp [tyD, tyNames]
theorem kit_tyD {T : String} (hT : T ∈ (["int", "bool", "tuple", "list", "str"] : List String)) (d : D) : PySem.W.kitOne K (.type (tyD d)) (.type T) = some (isaD T d) := kit_ty (kitB_all T hT _ (tyD_mem d))
theorem tyX_of {v : V} {d : D} (h : RT G H v d) (s : Ex G H) : TyX K H v (.type (tyD d)) := by
  cases d with
  | none => rw [h.non]; exact .base .non
  | bool b => rw [h.bl]; exact .base (.bl b)
  | int i => rw [h.int]; exact .base (.int i)
  | str x => rw [h.str]; exact .base (.str x)
  | list xs =>
    obtain ⟨p, vs, rfl, a, b⟩ := h.list s
    exact .base (.lst a)
  | tuple xs =>
    obtain ⟨p, vs, rfl, a, b⟩ := h.tup s
    exact .base (.tup a)
  | dict kvs =>
    rcases h with h | ⟨_, _, _, _, e, _⟩
    · cases h
    · cases e
theorem we_isi {T : String} (hT : T ∈ (["int", "bool", "tuple", "list", "str"] : List String)) (ha : WE c ta ds pl (isS fun d p1 => Φ (.d (.bool (isaD T d))) p1)) : WE c (tCB (rIsi K) (tCons ta (tCons (tC (.ty T)) tNil))) ds pl Φ := fun G σ H hs Q q =>
  ha G σ H hs _ fun v G1 H1 w p1 h1 e1 f1 g1 => by
    match w, f1, g1 with
    | .d d, f1, g1 => exact ⟨v, .ty T, _, _, _, rfl, .ty T, tyX_of (.inl f1) h1.sub, kit_tyD hT d, q _ G1 H1 (.d _) p1 h1 e1 (R.bl _) g1⟩
    | .o xs, f1, g1 =>
      obtain ⟨p, us, ev, a2, a3, _⟩ := f1
      subst ev
      exact ⟨_, .ty T, _, _, _, rfl, .ty T, tyX_of (.inr ⟨p, us, xs, rfl, rfl, a2, a3⟩) h1.sub, kit_tyD hT (.list xs), q _ G1 H1 (.d _) p1 h1 e1 (R.bl _) g1⟩
end
end PD

/-! PD8: promises by a type of arguments -/
namespace PD
open PySem PySem.Spec PyProof.Rows L2 Evl
def rel {A : Type} (enc : A → List D) (pre : A → Prop) (post : A → D → Prop) : List D → (D → Prop) → Prop := fun ds k => ∃ a, ds = enc a ∧ pre a ∧ ∀ d, post a d → k d
def det {A : Type} (enc : A → List D) (pre : A → Prop) (res : A → D) : List D → (D → Prop) → Prop := fun ds k => ∃ a, ds = enc a ∧ pre a ∧ k (res a)
def newL {A : Type} (enc : A → List D) (pre : A → Prop) (res : A → List D) : List D → (List D → Prop) → Prop := fun ds k => ∃ a, ds = enc a ∧ pre a ∧ k (res a)
theorem rel_mono {A : Type} {enc : A → List D} {pre : A → Prop} {post : A → D → Prop} : ∀ xs k k', rel enc pre post xs k → (∀ d, k d → k' d) → rel enc pre post xs k' := fun _ _ _ ⟨a, e, p, h⟩ g => ⟨a, e, p, fun d q => g d (h d q)⟩
theorem det_mono {A : Type} {enc : A → List D} {pre : A → Prop} {res : A → D} : ∀ xs k k', det enc pre res xs k → (∀ d, k d → k' d) → det enc pre res xs k' := fun _ _ _ ⟨a, e, p, h⟩ g => ⟨a, e, p, g _ h⟩
section
variable {c : Cn} {K : PySem.W.Frag} {ds : DS} {pl : List D} {Φ : W → List D → Prop} {tr : TA} {E : XK} {A : Type} {enc : A → List D} {pre : A → Prop}
theorem we_det {res : A → D} (a : A) (ha : WA c tr ds pl fun xs p1 => xs = enc a ∧ pre a ∧ Φ (.d (res a)) p1) : WE c (tCall (spP (det enc pre res)) [] E tr) ds pl Φ := we_call (ha.mono fun xs p1 ⟨e, p, h⟩ => ⟨a, e, p, h⟩) det_mono
theorem we_rel {post : A → D → Prop} (a : A) (ha : WA c tr ds pl fun xs p1 => xs = enc a ∧ pre a ∧ ∀ d, post a d → Φ (.d d) p1) : WE c (tCall (spP (rel enc pre post)) [] E tr) ds pl Φ := we_call (ha.mono fun xs p1 ⟨e, p, h⟩ => ⟨a, e, p, h⟩) rel_mono
section
variable {p2 r : List D} {x y z : D}
theorem os_t0 (h : Φ (.d x) p2) : OpS c (rIx K) ds (.tuple (x :: r)) (.int 0) p2 Φ := os_ix (by
  have : (((x :: r).length : Nat) : Int) = r.length + 1 := by simp
  show atI (x :: r) (((0 : Nat) : Int)) = some x
  exact atI_nat rfl) h
theorem os_t1 (h : Φ (.d y) p2) : OpS c (rIx K) ds (.tuple (x :: y :: r)) (.int 1) p2 Φ := os_ix (by
  show atI (x :: y :: r) (((1 : Nat) : Int)) = some y
  exact atI_nat rfl) h
theorem os_l0 (h : Φ (.d x) p2) : OpS c (rIx K) ds (.list (x :: r)) (.int 0) p2 Φ := os_ix (by
  show atI (x :: r) (((0 : Nat) : Int)) = some x
  exact atI_nat rfl) h
theorem os_l1 (h : Φ (.d y) p2) : OpS c (rIx K) ds (.list (x :: y :: r)) (.int 1) p2 Φ := os_ix (by
  show atI (x :: y :: r) (((1 : Nat) : Int)) = some y
  exact atI_nat rfl) h
theorem os_ln {xs : List D} {n : Nat} (hx : xs[n]? = some x) (h : Φ (.d x) p2) : OpS c (rIx K) ds (.list xs) (.int (n : Int)) p2 Φ := os_ix (atI_nat hx) h
end
end
theorem nox_K {CX : CXT} {P : Program} {w : World} {K : PySem.W.Frag} {mg : Str → Option Value} {base : Heap} {N : List Str} {qual : Str} {scope : Scope} {f : Addr} {cd : Value} {A : Around} {outer : List Env} {s : Shared} {H : Hp} {E : XK} :
  (cxOf CX P w K mg base N qual scope f cd A outer s H E).nox.K = K := rfl
theorem blk_K {X : Cx} {s : Shared} {H : Hp} {scope : Scope} {cenv : Env} {fp : List Addr} : (X.blk s H scope cenv fp).K = X.K := rfl
theorem iteV {b : Bool} {A B : Prop} (h : b = true) (k : A) : if b = true then A else B := by rw [if_pos h]; exact k
theorem iteN {b : Bool} {A B : Prop} (h : b = false) (k : B) : if b = true then A else B := by rw [h]; exact iteF k
theorem ws_unpN {c : Cn} {K : PySem.W.Frag} {ds : DS} {pl : List D} {te : TE} {E : EE} {i j n : Nat} (hn : n = 2) (h : WE c te ds pl (isD fun d p1 => ∃ x y, d = .tuple [x, y] ∧ E.nx ((ds.set i (some (.d x))).set j (some (.d y))) p1)) :
    WS c (tAsg te (gTup K n (gCons (gName i) (gCons (gName j) gNil)))) ds pl E := by subst hn; exact ws_unp h
theorem we_chain {c : Cn} {ds : DS} {pl : List D} {Φ : W → List D → Prop} {ta tb tc : TE} {a b c' : Int} (h1 : WE c ta ds pl fun w p => w = .d (.int a) ∧ p = pl) (h2 : WE c tb ds pl fun w p => w = .d (.int b) ∧ p = pl) (h3 : WE c tc ds pl fun w p => w = .d (.int c') ∧ p = pl)
    (h : Φ (.d (.bool (decide (a ≤ b) && decide (b ≤ c')))) pl) : WE c (tChain (rI0 fun i j => .bl (decide (i ≤ j))) (rI0 fun i j => .bl (decide (i ≤ j))) ta tb tc) ds pl Φ := fun G σ H hs Q q => by
  refine h1 G σ H hs _ ?_
  rintro v1 G1 H1 w1 p1 hs1 e1 f1 ⟨rfl, rfl⟩
  cases f1
  refine h2 G1 σ H1 hs1 _ ?_
  rintro v2 G2 H2 w2 p2 hs2 e2 f2 ⟨rfl, rfl⟩
  cases f2
  refine ⟨a, b, rfl, rfl, _, rfl, ?_⟩
  by_cases z : a ≤ b
  · have z' : decide (a ≤ b) = true := decide_eq_true z
    rw [z'] at h
    simp only [z', if_true]
    refine h3 G2 σ H2 hs2 _ ?_
    rintro v3 G3 H3 w3 p3 hs3 e3 f3 ⟨rfl, rfl⟩
    cases f3
    exact ⟨b, c', rfl, rfl, q _ G3 H3 (.d _) _ hs3 (e1.trans (e2.trans e3)) (R.bl _) h⟩
  · have z' : decide (a ≤ b) = false := decide_eq_false z
    rw [z'] at h
    simp only [z']
    exact q _ G2 H2 (.d (.bool false)) _ hs2 (e1.trans e2) (R.bl _) h
end PD

/-! PD9: the mathematics of combs and moves -/
namespace PD
open PySem PySem.Spec PyProof.Rows L2 Evl

def isWhole : D → Bool
  | .int _ => true
  | _ => false
def isPair : D → Bool
  | .tuple [_, _] => true
  | _ => false
def isWholePair : D → Bool
  | .tuple [.int _, .int _] => true
  | _ => false
def isPitch : D → Bool
  | .int p => decide (1 ≤ p ∧ p ≤ 24)
  | _ => false
structure Comb where
  p : Int
  ts : List Int
abbrev Comb.d (c : Comb) : D := .tuple [.int c.p, .list (c.ts.map PyData.int)]
structure Comb.Ok (c : Comb) : Prop where
  p1 : 1 ≤ c.p
  p24 : c.p ≤ 24
  ne : c.ts ≠ []
  low : ∀ t ∈ c.ts, 0 ≤ t
  high : ∀ t ∈ c.ts, t < c.p
  up : c.ts.Pairwise (· < ·)
abbrev Dv := Comb × Comb
abbrev Dv.d (v : Dv) : D := .tuple [v.1.d, v.2.d]
def Dv.Ok (v : Dv) : Prop := v.1.Ok ∧ v.2.Ok
abbrev Sv := Int × Int
abbrev Sv.d (s : Sv) : D := .tuple [.int s.1, .int s.2]
def caught (c : Comb) (n : Int) : Bool := decide (n % c.p ∈ c.ts)
def held (v : Dv) (s : Sv) : Bool := caught v.1 s.1 || caught v.2 (s.1 - s.2)
def IsBelow (c : Comb) (n b : Int) : Prop := b ≤ n ∧ caught c b = true ∧ ∀ m, b < m → m ≤ n → caught c m = false
theorem IsBelow.uniq {c : Comb} {n a b : Int} (ha : IsBelow c n a) (hb : IsBelow c n b) : a = b := by
  obtain ⟨a1, a2, a3⟩ := ha
  obtain ⟨b1, b2, b3⟩ := hb
  rcases Int.lt_trichotomy a b with h | h | h
  · have := a3 b h b1
    rw [b2] at this
    cases this
  · exact h
  · have := b3 a h a1
    rw [a2] at this
    cases this
def lowT (c : Comb) (r : Int) : List Int := c.ts.filter fun t => decide (t ≤ r)
def flo (c : Comb) (n : Int) : Int := if lowT c (n % c.p) = [] then n - n % c.p - c.p + c.ts.getLastD 0 else n - n % c.p + (lowT c (n % c.p)).getLastD 0
theorem last_mem : ∀ {l : List Int}, l ≠ [] → l.getLastD 0 ∈ l
  | [], h => absurd rfl h
  | [a], _ => by simp
  | a :: b :: r, _ => by
    have ih := last_mem (l := b :: r) (by simp)
    have e : (a :: b :: r).getLastD 0 = (b :: r).getLastD 0 := by simp [List.getLastD_cons]
    rw [e]
    exact List.mem_cons_of_mem _ ih
theorem last_max : ∀ {l : List Int} {x : Int}, l.Pairwise (· < ·) → x ∈ l → x ≤ l.getLastD 0
  | [], _, _, h => by cases h
  | [a], x, _, h => by
    have := List.mem_singleton.mp h
    subst this
    simp
  | a :: b :: r, x, hp, h => by
    have e : (a :: b :: r).getLastD 0 = (b :: r).getLastD 0 := by simp [List.getLastD_cons]
    rw [e]
    obtain ⟨h1, h2⟩ := List.pairwise_cons.mp hp
    rcases List.mem_cons.mp h with z | z
    · subst z
      exact Int.le_of_lt (h1 _ (last_mem (by simp)))
    · exact last_max h2 z
theorem mod_of {p b t : Int} (h0 : 0 ≤ t) (h1 : t < p) (k : Int) (hb : b = p * k + t) : b % p = t := by
  rw [hb, Int.add_comm, Int.add_mul_emod_self_left]
  exact Int.emod_eq_of_lt h0 h1
theorem flo_spec {c : Comb} (ok : c.Ok) (n : Int) : IsBelow c n (flo c n) := by
  have hp : 0 < c.p := by have := ok.p1; omega
  have r0 := Int.emod_nonneg n (show c.p ≠ 0 by omega)
  have r1 := Int.emod_lt_of_pos n hp
  have hb : n = c.p * (n / c.p) + n % c.p := (Int.mul_ediv_add_emod n c.p).symm
  have res : ∀ m s : Int, ∀ k : Int, m = c.p * k + s → 0 ≤ s → s < c.p → caught c m = decide (s ∈ c.ts) := fun m s k e a b => by
    unfold caught
    rw [mod_of a b k e]
  generalize n % c.p = r at r0 r1 hb
  generalize n / c.p = q at hb
  unfold flo
  have er : n % c.p = r := by rw [hb]; rw [Int.add_comm, Int.add_mul_emod_self_left]; exact Int.emod_eq_of_lt r0 r1
  rw [er]
  by_cases hl : lowT c r = []
  · rw [if_pos hl]
    have none_low : ∀ t ∈ c.ts, r < t := fun t ht => by
      by_cases z : t ≤ r
      · have : t ∈ lowT c r := List.mem_filter.mpr ⟨ht, decide_eq_true z⟩
        rw [hl] at this
        cases this
      · omega
    have lm := last_mem ok.ne
    have l0 := ok.low _ lm
    have l1 := ok.high _ lm
    have mul1 : c.p * (q - 1) = c.p * q - c.p := by rw [Int.mul_sub, Int.mul_one]
    refine ⟨by omega, ?_, fun m m1 m2 => ?_⟩
    · rw [res _ (c.ts.getLastD 0) (q - 1) (by omega) l0 l1]
      exact decide_eq_true lm
    · by_cases hm : c.p * q ≤ m
      · rw [res m (m - c.p * q) q (by omega) (by omega) (by omega)]
        exact decide_eq_false fun z => by have := none_low _ z; omega
      · rw [res m (m - c.p * q + c.p) (q - 1) (by omega) (by omega) (by omega)]
        exact decide_eq_false fun z => by have := last_max ok.up z; omega
  · rw [if_neg hl]
    have lm := last_mem hl
    have lm2 := List.mem_filter.mp lm
    have lr := of_decide_eq_true lm2.2
    have l0 := ok.low _ lm2.1
    have l1 := ok.high _ lm2.1
    have up : (lowT c r).Pairwise (· < ·) := ok.up.sublist (List.filter_sublist ..)
    refine ⟨by omega, ?_, fun m m1 m2 => ?_⟩
    · rw [res _ ((lowT c r).getLastD 0) q (by omega) l0 l1]
      exact decide_eq_true lm2.1
    · rw [res m (m - c.p * q) q (by omega) (by omega) (by omega)]
      exact decide_eq_false fun z => by
        have : m - c.p * q ∈ lowT c r := List.mem_filter.mpr ⟨z, decide_eq_true (by omega)⟩
        have := last_max up this
        omega
def mv (v : Dv) (s : Sv) (m : Int) : Sv := if m > 0 then (s.2 + m + max (s.1 - s.2 - m) (flo v.2 (s.1 - s.2)), s.2 + m) else (max (s.1 + m) (flo v.1 s.1), s.2 + m)
def mvs (v : Dv) (s : Sv) (ms : List Int) : Sv := ms.foldl (mv v) s
def trail (v : Dv) : Sv → List Int → List Sv
  | _, [] => []
  | s, m :: r => mv v s m :: trail v (mv v s m) r
/-! ### lists of ints as data -/
theorem ints_at {ns : List Int} {i : Nat} {x : D} (h : (ns.map PyData.int)[i]? = some x) : ∃ t, ns[i]? = some t ∧ x = .int t := by
  rw [List.getElem?_map] at h
  cases e : ns[i]? with
  | none => rw [e] at h; cases h
  | some t =>
    rw [e] at h
    exact ⟨t, rfl, (Option.some.inj h).symm⟩
theorem sorted_len : ∀ {l : List Int} {a b : Int}, l.Pairwise (· < ·) → (∀ t ∈ l, a ≤ t) → (∀ t ∈ l, t < b) → (l.length : Int) ≤ max 0 (b - a)
  | [], a, b, _, _, _ => by show (0 : Int) ≤ _; omega
  | x :: r, a, b, hp, h1, h2 => by
    obtain ⟨p1, p2⟩ := List.pairwise_cons.mp hp
    have ih := sorted_len (a := x + 1) (b := b) p2 (fun t ht => by have := p1 t ht; omega) fun t ht => h2 t (List.mem_cons_of_mem _ ht)
    have a1 := h1 x List.mem_cons_self
    have a2 := h2 x List.mem_cons_self
    rw [List.length_cons]
    omega
theorem Comb.Ok.len {c : Comb} (ok : c.Ok) : c.ts.length ≤ 24 := by
  have := sorted_len ok.up ok.low ok.high
  have := ok.p24
  omega
theorem ix_last {l : List Int} (h : l ≠ []) : ixD (.list (l.map PyData.int)) (-1) = some (.int (l.getLastD 0)) := by
  have e : l = l.dropLast ++ [l.getLastD 0] := by
    rw [show l.getLastD 0 = l.getLast h by simp [List.getLastD_eq_getLast?, List.getLast?_eq_getLast h]]
    exact (List.dropLast_concat_getLast h).symm
  show atI (l.map PyData.int) (-1) = _
  rw [e, List.map_append]
  have e2 : (l.dropLast ++ [l.getLastD 0]).getLastD 0 = l.getLastD 0 := by rw [← e]
  rw [e2]
  exact atI_last _ _
theorem StCut.cut1 (xs : List D) : cutD xs (some 1) none = xs.drop 1 := by
  unfold cutD
  rw [show HT.sIx xs.length 0 (some 1) = min 1 xs.length from HT.sIx_nat xs.length 0 1, HT.sIx_none]
  cases xs with
  | nil => rfl
  | cons x r =>
    have e : min 1 (x :: r).length = 1 := by rw [List.length_cons]; omega
    rw [e, List.drop_succ_cons, List.drop_zero, List.length_cons, Nat.add_sub_cancel, List.take_length]
theorem cut_tail (xs : List Int) : cutD (xs.map PyData.int) (some 1) none = xs.tail.map PyData.int := by
  have h := StCut.cut1 (xs.map PyData.int)
  rw [h, List.drop_one, List.map_tail]
theorem asc_next : ∀ {l : List Int} {i : Nat} {a b : Int}, l.Pairwise (· < ·) → l[i]? = some a → l[i + 1]? = some b → a < b
  | [], _, _, _, _, h, _ => by simp at h
  | x :: r, 0, a, b, hp, h1, h2 => by
    have := Option.some.inj h1
    subst this
    exact (List.pairwise_cons.mp hp).1 b (List.mem_of_getElem? (i := 0) (by simpa using h2))
  | x :: r, i + 1, a, b, hp, h1, h2 => asc_next (List.pairwise_cons.mp hp).2 (by simpa using h1) (by simpa using h2)
end PD

/-! PD10: a law's pool, its script -/
namespace PD
open PySem PySem.Spec PyProof.Rows L2 Evl

def Pk (n : Nat) (pl : List D) : Prop := ∃ a b c : Int, pl = [.int a, .int b, .int c] ∧ 0 ≤ a ∧ 0 ≤ b ∧ b < 2 ^ 100 ∧ 0 ≤ c ∧ c ≤ n
def poolF {A : Type} (L : Nat) (enc : A → List D) (pre : A → Prop) (B : A → Nat) (post : A → D → Prop) : List D → List D → (D → List D → Prop) → Prop := fun pl ds k => ∃ (a : A) (n : Nat), ds = enc a ∧ pre a ∧ Pk n pl ∧ n < L ∧ ∀ d pl', post a d → Pk (n + B a) pl' → k d pl'
section
variable {c : Cn} {K : PySem.W.Frag} {ds : DS} {pl : List D} {Φ : W → List D → Prop} {tr : TA} {te : TE} {E : XK} {A : Type} {enc : A → List D} {pre : A → Prop} {B : A → Nat} {post : A → D → Prop} {L : Nat}
/-! ### the script -/
def Scr (K : PySem.W.Frag) (c : Cn) (a : Addr) (ns : List Int) : Prop := SqL K c.H0 a (ns.map V.int) ∧ c.pool ≠ some a
theorem Scr.at {a : Addr} {ns : List Int} (h : Scr K c a ns) {G H : Hp} {σ : L2.St} (hs : HS c G σ H ds pl) : SqL K H a (ns.map V.int) := by
  obtain ⟨h, hp⟩ := h
  rcases h with (h | ⟨o, h⟩) | h
  · exact .inl (.inl (hs.keep _ _ hp h))
  · exact .inl (.inr ⟨o, hs.keep _ _ hp h⟩)
  · exact .inr h
theorem we_lenS {a : Addr} {ns : List Int} {i : Nat} (hS : Scr K c a ns) (hi : ds[i]? = some (some (.v (.ref a)))) (h : Φ (.d (.int ns.length)) pl) : WE c (tCB (rLenQ K) (tCons (tVar i) tNil)) ds pl Φ := fun G σ H hs Q q => by
  obtain ⟨v, e1, e2⟩ := hs.slots i _ hi
  have e2' : v = .ref a := e2
  subst e2'
  refine ⟨_, e1, a, ns.map V.int, rfl, .inl (hS.at hs), ?_⟩
  rw [List.length_map]
  exact q _ G H (.d _) pl hs (Ex.refl _) (R.int _) h
theorem we_ixS {a : Addr} {ns : List Int} {i : Nat} (hS : Scr K c a ns) (hi : ds[i]? = some (some (.v (.ref a)))) (hb : WE c te ds pl (isI fun k p1 => ∃ e, atI ns k = some e ∧ Φ (.d (.int e)) p1)) : WE c (tOp (rIx K) (tVar i) te) ds pl Φ := fun G σ H hs Q q => by
  obtain ⟨v, e1, e2⟩ := hs.slots i _ hi
  have e2' : v = .ref a := e2
  subst e2'
  refine ⟨_, e1, hb G σ H hs _ fun u G1 H1 w p1 h1 e1 f1 g1 => ?_⟩
  match w, f1, g1 with
  | .d (.int k), f1, ⟨e, g1, g2⟩ =>
    cases f1
    have g1' : atI (ns.map V.int) k = some (.int e) := by
      unfold atI at g1 ⊢
      rw [List.length_map]
      cases q : ixN ns.length k with
      | none => rw [q] at g1; cases g1
      | some j =>
        rw [q] at g1
        show (ns.map V.int)[j]? = _
        rw [List.getElem?_map]
        have g1'' : ns[j]? = some e := g1
        rw [g1'']
        rfl
    exact .inl ⟨a, _, k, _, rfl, rfl, hS.at h1, g1', q _ G1 H1 (.d _) p1 h1 e1 (R.int _) g2⟩
/-! ### a new list becomes the pool -/
def spMk (K : PySem.W.Frag) (F : List Int → Int → (List D → Prop) → Prop) : Sp := fun vs H Q _ => ∃ G a ns i, vs = [.ref a, .int i] ∧ Ex G H ∧ SqL K H a (ns.map V.int) ∧ F ns i fun xs => ∀ p us G' H', Ex H H' → Ex G' H' → Ex G G' → (∀ a o, H a = some o → G a = none → G' a = none) → H p = none → G' p = none →
  H' p = some (.lst us) → RA G' us xs → Q (.ref p) H'
end
section
variable {P : Program} {w : World} {K : PySem.W.Frag} {mg : Str → Option Value} {base : Heap} {k : Nat} {f : Addr} {fd : FuncData} {ps : List Str}
theorem hs_startW {G H : Hp} {vs : List V} {ws : List W} {N : List Str} (s : Ex G H) (hl : vs.length = ws.length) (r : ∀ (i : Nat) (w : W), ws[i]? = some w → ∃ v, vs[i]? = some v ∧ ((∃ d, w = .d d ∧ R G v d) ∨ w = .v v)) :
    HS ⟨H, fun a => G a = none ∧ ∃ o, H a = some o, none, fun _ => none⟩ G (L2.start N vs) H (ws.map some ++ List.replicate (N.length - ws.length) none) [] := by
  have key : ∀ (i : Nat) (w : W), (ws.map some ++ List.replicate (N.length - ws.length) none)[i]? = some (some w) → ws[i]? = some w := fun i w q => by
    by_cases hi : i < ws.length
    · rw [List.getElem?_append_left (by rw [List.length_map]; exact hi), List.getElem?_map, List.getElem?_eq_getElem hi] at q
      rw [List.getElem?_eq_getElem hi]
      exact Option.some.inj q
    · rw [List.getElem?_append_right (by rw [List.length_map]; omega), List.getElem?_replicate] at q
      split at q <;> cases q
  refine ⟨s, fun a q => q.1, fun a q => (by cases q), fun a o q => (by cases q), fun a o _ q => q, fun p q => (by cases q), fun a o q => (by cases q), fun a q => q.2, ?_, fun i w q => ?_, fun i j p xs ys q1 => ?_⟩
  · unfold L2.start
    simp only [List.length_append, List.length_map, List.length_replicate, hl]
  · have q' := key i w q
    have hi : i < ws.length := (List.getElem?_eq_some_iff.mp q').1
    obtain ⟨v, e1, e2⟩ := r i w q'
    refine ⟨v, ?_, ?_⟩
    · unfold L2.start
      rw [List.getElem?_append_left (by rw [List.length_map, hl]; exact hi), List.getElem?_map, e1]
      rfl
    · rcases e2 with ⟨d, rfl, e2⟩ | rfl
      · exact e2
      · rfl
  · have q' := key i _ q1
    obtain ⟨v, e1, e2⟩ := r i _ q'
    rcases e2 with ⟨d, e2, _⟩ | e2 <;> cases e2
def spLaw (K : PySem.W.Frag) : Sp := fun vs H Q _ => ∃ (a : Addr) (ns : List Int), vs = [.ref a] ∧ SqL K H a (ns.map V.int) ∧ ns.length ≤ 63 ∧ ∀ H', Q (.bl true) H'
theorem fgLaw {x qual : Str} {st : Stmt} {N : List Str} (Fn : Fun K x qual st f fd) (S : FnScope N ps (defScope st)) (len : ps.length = 1)
    (go : ∀ (cdv : Value) (B : Around) (fr : List Env) (s : Shared) (H : Hp) (E : XK), B.guards = some [] → Room k (B.deeper (envOfC qual (defScope st) s.heap.objs.size f cdv)) → ∃ t, PSs (cxOf CX0 P w K mg base N qual (defScope st) f cdv B fr s H E).nox (defBody st) t ∧
      ∀ c a (ns : List Int), c.pool = none → Scr K c a ns → ns.length ≤ 63 → WS c t ([W.v (.ref a)].map some ++ List.replicate (N.length - 1) none) [] ⟨fun _ _ => False, rtD fun d => d = .bool true, fun _ _ => False, fun _ _ => False⟩) : FG P w K mg base (k + 1) f fd ps (spLaw K) := by
  refine fg_of Fn S (fun vs H Q E h => ?_) fun cdv B fr s H vs Q E hg hr h => ?_
  · obtain ⟨a, ns, rfl, _⟩ := h
    rw [len]
    rfl
  · obtain ⟨t, der, body⟩ := go cdv B fr s H E hg hr
    refine ⟨t, der, ?_⟩
    obtain ⟨a, ns, rfl, hS, hl, h⟩ := h
    have st0 := hs_startW (G := fun _ => none) (H := H) (N := N) (vs := [.ref a]) (ws := [W.v (.ref a)]) (fun a o q => by cases q) rfl (fun j w q => by
      match j, q with
      | 0, q => cases q; exact ⟨_, rfl, .inr rfl⟩
      | j + 1, q => simp at q)
    refine body ⟨H, fun a => (none : Option HO) = none ∧ ∃ o, H a = some o, none, fun _ => none⟩ a ns rfl ⟨hS, by simp⟩ hl (fun _ => none) _ H st0 _ ⟨?_, ?_, ?_, ?_⟩
    · exact fun G' σ' H' ds' pl' h' e q => q.elim
    · intro v G' σ' H' ds' w' pl' h' e q g
      match w', q, g with
      | .d y, q, g =>
        have g' : y = .bool true := g
        subst g'
        cases q
        exact h H'
    · exact fun G' σ' H' ds' pl' h' e q => q.elim
    · exact fun G' σ' H' ds' pl' h' e q => q.elim
end
end PD

/-! PD11: bounds -/
namespace PD
open PySem PySem.Spec PyProof.Rows L2 Evl
theorem nat_lt_pow {i : Int} {n : Nat} (h0 : -(2 : Int) ^ n < i) (h1 : i < (2 : Int) ^ n) : i.natAbs < 2 ^ n := by
  have e : ((2 : Int) ^ n) = ((2 ^ n : Nat) : Int) := by simp
  rw [e] at h0 h1
  omega
theorem poww {i : Int} {j : Int} (h0 : 0 ≤ j) (h1 : j ≤ 1000) (h2 : -(2 : Int) ^ 2000 < i) (h3 : i < (2 : Int) ^ 2000) : CPowW i j := ⟨h0, h1, nat_lt_pow h2 h3⟩
section
variable {c : Cn} {K : PySem.W.Frag} {ds : DS} {pl : List D} {Φ : W → List D → Prop} {tr : TA} {te : TE} {E : XK}
abbrev drawF := poolF 9000000 (fun t : Int => [.int t]) (fun t => 0 < t ∧ t < (2 : Int) ^ 200) (fun _ => 1) (fun t d => ∃ v, d = .int v ∧ 0 ≤ v ∧ v < t)
end
end PD

/-! PD12: sizes of combs, devices, states; lists that are empty or not -/
namespace PD
open PySem PySem.Spec PyProof.Rows L2 Evl
theorem okD_ints {n : Nat} {ns : List Int} (h : ∀ t ∈ ns, t.natAbs < 10 ^ 150) : okD (n + 1) (.list (ns.map PyData.int)) := fun x hx => by
  obtain ⟨t, ht, rfl⟩ := List.mem_map.mp hx
  have := h t ht
  cases n <;> exact this
theorem small24 {t : Int} (h0 : -(100 : Int) ≤ t) (h1 : t ≤ 100) : t.natAbs < 10 ^ 150 := Nat.lt_of_le_of_lt (show t.natAbs ≤ 100 by omega) (by decide +kernel)
theorem Comb.Ok.okD {c : Comb} (ok : c.Ok) (n : Nat) : okD (n + 2) c.d := fun x hx => by
  have p1 := ok.p1
  have p2 := ok.p24
  rcases List.mem_cons.mp hx with rfl | hx
  · exact small24 (by omega) (by omega)
  · rw [List.mem_singleton.mp hx]
    exact okD_ints fun t ht => by
      have := ok.low t ht
      have := ok.high t ht
      exact small24 (by omega) (by omega)
theorem Dv.Ok.okD {v : Dv} (ok : v.Ok) (n : Nat) : okD (n + 3) v.d := fun x hx => by
  rcases List.mem_cons.mp hx with rfl | hx
  · exact ok.1.okD n
  · rw [List.mem_singleton.mp hx]
    exact ok.2.okD n
section
variable {c : Cn} {K : PySem.W.Frag} {ds : DS} {pl : List D} {Φ : W → List D → Prop}
end
end PD

/-! PD13: calls with an owned list, new lists by list() and +, a mutated list within a tuple -/
namespace PD
open PySem PySem.Spec PyProof.Rows L2 Evl
section
variable {c : Cn} {K : PySem.W.Frag} {ds : DS} {pl : List D} {Φ : W → List D → Prop} {tr ta' : TA} {te ta tb : TE} {E : XK} {A : Type} {enc : A → List D} {pre : A → Prop} {B : A → Nat} {post : A → D → Prop} {L : Nat} {En : EE}
end
end PD

/-! PD14: more mathematics: slices, trails, bounds -/
namespace PD
open PySem PySem.Spec PyProof.Rows L2 Evl
theorem ixN_last (m : Nat) : ixN (m + 1) (-1) = some m := by
  unfold ixN
  rw [if_neg (by decide), if_pos (by omega)]
  congr 1
  omega
section
variable {c : Cn} {K : PySem.W.Frag} {ds : DS} {pl : List D} {σ : L2.St} {E : EE} {t : TS}
end
end PD

/-! PD15: own defs called by name -/
namespace PD
open PySem PySem.Spec PyProof.Rows L2 Evl
def KB (K : PySem.W.Frag) (fd : FuncData) (ps : List Str) : Prop := ∀ (s : Shared) (ws : List Value), K.In s.heap → ws.length = ps.length → BindsTo s fd ⟨[], ps.zip ws⟩ (ps.zip ws)
def KB2 (K : PySem.W.Frag) (fd : FuncData) (ps ks : List Str) : Prop := ∀ (s : Shared) (us ws : List Value), K.In s.heap → (us ++ ws).length = ps.length → ks.length = ws.length → BindsTo s fd ⟨us, ks.zip ws⟩ (ps.zip (us ++ ws))
section
variable {X : Cx} {k : Nat} {f : Addr} {fd : FuncData} {ps ks : List Str} {sp : Sp} {E : XK} {x : Str} {p pos : Pos} {e : Expr} {es : List Expr} {t tk : TA} {kws : List Keyword}
end
def tMapA (gV : List V → List V → List V) (t tk : TA) : TA := fun σ H Q => t σ H fun vs H1 => tk σ H1 fun zs H2 => Q (gV vs zs) H2
section
variable {X : Cx} {k : Nat} {f : Addr} {fd : FuncData} {ps ks : List Str} {sp : Sp} {E : XK} {x : Str} {p pos : Pos} {e : Expr} {es : List Expr} {t tk : TA} {kws : List Keyword} {g : List Value → List Value → List Value} {gV : List V → List V → List V}
end
section
variable {c : Cn} {ds : DS} {pl : List D} {t tk : TA} {gV : List V → List V → List V} {Φ : List D → List D → Prop}
end
def pick {α : Type} (is : List Nat) (ws : List α) : List α := is.filterMap fun i => ws[i]?
theorem vals_pick {zs : List V} {ws : List Value} (r : Vals zs ws) : ∀ is : List Nat, Vals (pick is zs) (pick is ws)
  | [] => .nil
  | i :: is => by
    have ih := vals_pick r is
    unfold pick at ih ⊢
    rw [List.filterMap_cons, List.filterMap_cons]
    cases e : zs[i]? with
    | none => rw [r.none_of e]; exact ih
    | some x =>
      obtain ⟨u, e2, r2⟩ := r.get e
      rw [e2]
      exact .cons r2 ih
theorem RA.pick {G : Hp} {vs : List V} {xs : List D} (r : RA G vs xs) : ∀ is : List Nat, RA G (PD.pick is vs) (PD.pick is xs)
  | [] => .nil
  | i :: is => by
    have ih := RA.pick r is
    unfold PD.pick at ih ⊢
    rw [List.filterMap_cons, List.filterMap_cons]
    cases e : xs[i]? with
    | none =>
      have : vs[i]? = none := List.getElem?_eq_none_iff.mpr (by rw [r.len]; exact List.getElem?_eq_none_iff.mp e)
      rw [this]; exact ih
    | some x =>
      obtain ⟨u, e2, r2⟩ := r.get e
      rw [e2]
      exact .cons r2 ih
def tPick (is : List Nat) (t : TA) : TA := fun σ H Q => t σ H fun vs H1 => Q (pick is vs) H1
def KwOk (K : PySem.W.Frag) (mg : Str → Option Value) (name : Str) (ps ks : List Str) (is : List Nat) : Prop := ∃ f fd, mg name = some (.ref f) ∧ At0 K f fd ∧
  ∀ (s : Shared) (ws : List Value), (pick is ws).length = ps.length → BindsTo s fd ⟨[], ks.zip ws⟩ (ps.zip (pick is ws))
section
variable {X : Cx} {k : Nat} {ps ks : List Str} {sp : Sp} {E : XK} {x : Str} {p pos : Pos} {tk : TA} {kws : List Keyword} {is : List Nat}
theorem pe_callKP (F : Df X.prog X.w X.K X.mg X.base k x ps sp) (Kw : KwOk X.K X.mg x ps ks is) (hG : X.A.guards = some []) (hr : Room k X.A) (hg : Gl X x) (hkw : PK X kws tk)
    (hall : (backToKw pos (keywordEach kws X.env)).all (·.1.isSome) = true := by rfl) (hks : (backToKw pos (keywordEach kws X.env)).filterMap (·.1) = ks := by rfl)
    (hdb : (x == ("__debug__" : Str)) = false := by decide) (hpl : ((backTo pos (starEach [] X.env)).any (·.1) || (backToKw pos (keywordEach kws X.env)).any (·.1.isNone)) = false := by rfl) :
    PE X (.Call (.Name x p) [] kws pos) (tCall sp [] E0 (tPick is tk)) := by
  obtain ⟨f, fd, G, m, kp, b, oc, od, osl, l1⟩ := F
  obtain ⟨f', fd', m', ⟨oc', od', osl', l1'⟩, hb⟩ := Kw
  have e1 : f' = f := by rw [m] at m'; exact (Value.ref.inj (Option.some.inj m')).symm
  subst e1
  have e2 : fd' = fd := by
    rw [l1] at l1'
    have := Option.some.inj l1'
    injection this with _ _ e3 _
    injection e3 with e4
    exact e4.symm
  subst e2
  constructor
  intro pins s σ H Q I h
  apply wpAny_Call_Name_kw
  refine ld_glob I hg m ?_ hdb
  refine PySem.W.callWith_KW0 (h₀ := X.base) I.ok.mod.kin kp hall ?_ hpl
  refine thn (hkw.run pos pins s σ H _ I h) ?_
  rintro ws s2 ⟨zs, H2, I2, rz, q2⟩
  have q2 : sp (pick is zs) H2 Q E0 := by
    have q3 : sp (pick is zs ++ []) H2 Q E0 := q2
    rw [List.append_nil] at q3
    exact q3
  refine ⟨I2.kIn, ?_⟩
  rw [hks]
  have n1 := G.many _ _ _ _ q2
  have r2 := vals_pick rz is
  have b2 := hb s2 ws (by rw [← r2.length]; exact n1)
  apply wpAny_call
  refine codeAny_mono (G.goes X.A X.stack s2 H2 ⟨[], ks.zip ws⟩ _ _ Q E0 hG hr I2.env0 b2 r2 q2) ?_
  intro res s3 hq
  match res, hq with
  | .ok (.ret u), hq => exact I2.after hq
  | .ok .next, hq => exact hq.elim
  | .ok .brk, hq => exact hq.elim
  | .ok .cont, hq => exact hq.elim
  | .error er, hq => exact hq.elim
end
section
variable {c : Cn} {ds : DS} {pl : List D} {t : TA} {is : List Nat} {Φ : List D → List D → Prop}
theorem wa_pick (h : WA c t ds pl fun xs p => Φ (pick is xs) p) : WA c (tPick is t) ds pl Φ := fun G σ H hs Q q =>
  h G σ H hs _ fun vs G1 H1 xs p1 h1 e1 f1 g1 => q _ G1 H1 _ p1 h1 e1 (f1.pick is) g1
end
end PD

/-! PD16: joined moves -/
namespace PD
open PySem PySem.Spec PyProof.Rows L2 Evl
def joinR (acc : List Int) (m : Int) : List Int := if acc ≠ [] ∧ (decide (0 < acc.getLastD 0) = decide (0 < m)) then acc.dropLast ++ [acc.getLastD 0 + m] else acc ++ [m]
def joined (ms : List Int) : List Int := ms.foldl joinR []
section
variable {c : Cn} {K : PySem.W.Frag} {ds : DS} {pl : List D} {Φ : W → List D → Prop} {E : EE}
theorem os_mulL {xs : List D} {k : Nat} {p2 : List D} (hk : k ≤ 1000) (hl : xs.length * k ≤ sizeLine) (h : Φ (.d (.list (repD xs k))) p2) : OpS c rMulU ds (.list xs) (.int (k : Int)) p2 Φ := fun G σ H v u hs hv hu Q q => by
  have eu := hu.int
  subst eu
  obtain ⟨p, vs, rfl, a, b⟩ := hv.list hs.sub
  refine .inr ⟨p, (k : Int), vs, rfl, rfl, a, by omega, by omega, by rw [Int.toNat_natCast, b.len]; exact hl, fun l hln => ?_⟩
  have n := hs.none_of hln
  rw [Int.toNat_natCast]
  exact q _ _ _ (.d _) p2 (hs.newD hln) (Ex.new n.1) (show R _ (.ref l) (.list (repD xs k)) from .lst upd_same ((b.rep k).up (Ex.new n.1))) h
end
end PD

/-! PD17: defs that hand back new things which their caller changes later -/
namespace PD
open PySem PySem.Spec PyProof.Rows L2 Evl
def WSK (c : Cn) (t : TS) (ds : DS) (pl : List D) (D' : Ends) (G0 : Hp) : Prop := ∀ G σ H, HS c G σ H ds pl → Ex G0 G → t D' σ H
abbrev onlyNx (k : DS → List D → Prop) : EE := ⟨k, fun _ _ => False, fun _ _ => False, fun _ _ => False⟩
section
variable {c : Cn} {K : PySem.W.Frag} {ds : DS} {pl : List D} {t u : TS} {D' : Ends} {G0 : Hp} {E : EE}
def Cn.pinP (c : Cn) (P : Hp) : Cn := { c with pin := fun a => match P a with
  | some o => some o
  | none => c.pin a }
def Fresh (c : Cn) (P : Hp) : Prop := ∀ a o, P a = some o → c.H0 a = none ∧ c.pin a = none ∧ ¬ c.hd a ∧ c.pool ≠ some a
def Cn.hide (c : Cn) (S : Addr → Prop) : Cn := { c with hd := fun a => c.hd a ∨ S a }
end

/-! ### a promise of new things: P is what is new -/
def spW (F : List D → (Hp → V → Prop) → Prop) : Sp := fun vs H Q _ => ∃ G ds, Ex G H ∧ RA G vs ds ∧ F ds fun P v => ∀ H', Ex H H' → Ex P H' → (∀ a o, P a = some o → H a = none) → Q v H'
section
variable {c : Cn} {K : PySem.W.Frag} {ds : DS} {pl : List D} {tr : TA} {t u : TS} {D' : Ends} {G0 : Hp} {E : XK} {F : List D → (Hp → V → Prop) → Prop} {Φ : W → List D → Prop}
end
section
variable {P : Program} {w : World} {K : PySem.W.Frag} {mg : Str → Option Value} {base : Heap} {k : Nat} {f : Addr} {fd : FuncData} {ps : List Str}
end

/-! ### combs copied, devices mirrored -/
def combP (c : Comb) (a la : Addr) : Hp := fun b => if b = a then some (.tup [.int c.p, .ref la]) else if b = la then some (.lst (c.ts.map V.int)) else none
def copyF : List D → (Hp → V → Prop) → Prop := fun ds k => ∃ c : Comb, ds = [c.d] ∧ ∀ a la, a ≠ la → k (combP c a la) (.ref a)
def orP (P P' : Hp) : Hp := fun a => match P a with
  | some o => some o
  | none => P' a
structure Mir (v : Dv) (t a b la lb : Addr) : Prop where
  n1 : a ≠ la
  n2 : b ≠ lb
  n3 : la ≠ lb
  n4 : a ≠ b
  n5 : a ≠ lb
  n6 : b ≠ la
  n7 : t ≠ a
  n8 : t ≠ b
  n9 : t ≠ la
  n10 : t ≠ lb
def mirP (v : Dv) (t a b la lb : Addr) : Hp := fun x => if x = t then some (.tup [.ref a, .ref b]) else orP (combP v.2 a la) (combP v.1 b lb) x
def mirF : List D → (Hp → V → Prop) → Prop := fun ds k => ∃ v : Dv, ds = [v.d] ∧ v.Ok ∧ ∀ t a b la lb, Mir v t a b la lb → k (mirP v t a b la lb) (.ref t)
section
variable {v : Dv} {t a b la lb : Addr} (m : Mir v t a b la lb)
include m
end
end PD

/-! PD18: pinned things lent to an expression, changed; owned lists lent to a test -/
namespace PD
open PySem PySem.Spec PyProof.Rows L2 Evl
theorem ra_flat {G G' : Hp} {vs : List V} {n : Nat} {pl : List D} (h : Pk n pl) (r : RA G vs pl) : RA G' vs pl := by
  obtain ⟨a, b, c, rfl, _⟩ := h
  have e : [PyData.int a, PyData.int b, PyData.int c] = [a, b, c].map PyData.int := rfl
  rw [e] at r ⊢
  rw [r.ints]
  exact RA.of_ints _
section
variable {c : Cn} {K : PySem.W.Frag} {ds : DS} {pl : List D} {t u : TS} {D' : Ends} {G0 : Hp} {E : EE} {Φ : W → List D → Prop} {tt : TT} {te : TE}
/-! ### an owned list lent to a test -/
end
end PD

/-! PD19: moves of one direction, joined moves (mathematics) -/
namespace PD
open PySem PySem.Spec PyProof.Rows L2 Evl
theorem flo_uniq {c : Comb} (ok : c.Ok) {n b : Int} (h : IsBelow c n b) : flo c n = b := (flo_spec ok n).uniq h
theorem flo_le {c : Comb} (ok : c.Ok) (n : Int) : flo c n ≤ n := (flo_spec ok n).1
theorem flo_between {c : Comb} (ok : c.Ok) {n m : Int} (h1 : flo c n ≤ m) (h2 : m ≤ n) : flo c m = flo c n := by
  obtain ⟨a1, a2, a3⟩ := flo_spec ok n
  exact flo_uniq ok ⟨h1, a2, fun x x1 x2 => a3 x x1 (by omega)⟩
theorem flo_flo {c : Comb} (ok : c.Ok) (n : Int) : flo c (flo c n) = flo c n := flo_between ok (Int.le_refl _) (flo_le ok n)
theorem mv_up {v : Dv} {s : Sv} {m : Int} (h : 0 < m) : mv v s m = (s.2 + m + max (s.1 - s.2 - m) (flo v.2 (s.1 - s.2)), s.2 + m) := if_pos h
theorem mv_down {v : Dv} {s : Sv} {m : Int} (h : ¬ 0 < m) : mv v s m = (max (s.1 + m) (flo v.1 s.1), s.2 + m) := if_neg h
def absS (ms : List Int) : Nat := (ms.map Int.natAbs).sum
end PD

/-! PD20: slots without owned lists, by computing -/
namespace PD
open PySem PySem.Spec PyProof.Rows L2 Evl
def noOs : DS → Bool
  | [] => true
  | some (.o _) :: _ => false
  | _ :: r => noOs r
theorem no_of : ∀ {ds : DS}, noOs ds = true → ∀ (j : Nat) (ys : List D), ds[j]? ≠ some (some (W.o ys))
  | [], _, j, ys => by simp
  | none :: r, h, 0, ys => by simp
  | none :: r, h, j + 1, ys => by rw [List.getElem?_cons_succ]; exact no_of (ds := r) h j ys
  | some (.d x) :: r, h, 0, ys => by simp
  | some (.d x) :: r, h, j + 1, ys => by rw [List.getElem?_cons_succ]; exact no_of (ds := r) h j ys
  | some (.v x) :: r, h, 0, ys => by simp
  | some (.v x) :: r, h, j + 1, ys => by rw [List.getElem?_cons_succ]; exact no_of (ds := r) h j ys
  | some (.o x) :: r, h, _, ys => by cases h
/-! ### mirrors -/
def mirS (s : Sv) : Sv := (s.1 - s.2, -s.2)
end PD

/-! PD21: slacks, moves done several times, cycles (mathematics) -/
namespace PD
open PySem PySem.Spec PyProof.Rows L2 Evl
def slk (c : Comb) (n : Int) : Int := n - flo c n
def sl (c : Comb) : List Int := (List.range c.p.toNat).map fun (r : Nat) => slk c (r : Int)
theorem slk_nn {c : Comb} (ok : c.Ok) (n : Int) : 0 ≤ slk c n := by
  have := flo_le ok n
  unfold slk; omega
abbrev lf (s : Sv) : Int := s.1 - s.2
theorem mv_up' {v : Dv} {s : Sv} {m : Int} (h : 0 < m) : mv v s m = (s.1 + m - min m (slk v.2 (lf s)), s.2 + m) := by
  rw [mv_up h]
  unfold slk lf
  ext
  · show s.2 + m + max (s.1 - s.2 - m) (flo v.2 (s.1 - s.2)) = s.1 + m - min m (s.1 - s.2 - flo v.2 (s.1 - s.2)); omega
  · rfl
theorem mv_down' {v : Dv} {s : Sv} {m : Int} (h : ¬ 0 < m) : mv v s m = (s.1 - min (-m) (slk v.1 s.1), s.2 + m) := by
  rw [mv_down h]
  unfold slk
  ext
  · show max (s.1 + m) (flo v.1 s.1) = s.1 - min (-m) (s.1 - flo v.1 s.1); omega
  · rfl
def rp (v : Dv) (ms : List Int) (s : Sv) : Nat → Sv
  | 0 => s
  | k + 1 => mvs v (rp v ms s k) ms
def plc (v : Dv) (s : Sv) : Int × Int := (s.1 % v.1.p, lf s % v.2.p)
structure Cyc (v : Dv) (ms : List Int) (s : Sv) (n j : Nat) : Prop where
  lt : j < n
  eq : plc v (rp v ms s j) = plc v (rp v ms s n)
  inj : ∀ i k, i < k → k < n → plc v (rp v ms s i) ≠ plc v (rp v ms s k)
end PD

/-! PD22: a dict of places; sums, divmod -/
namespace PD
open PySem PySem.Spec PyProof.Rows L2 Evl
def one (p : Addr) (o : HO) : Hp := fun a => if a = p then some o else none
section
variable {c : Cn} {K : PySem.W.Frag} {ds : DS} {pl : List D} {t u body : TS} {D' : Ends} {G0 : Hp} {E : EE} {Φ : W → List D → Prop} {te : TE} {tr : TA}
abbrev pk2 (a b : Int) : List Key := [.inl a, .inl b]
end
end PD

/-! PD23: heights one behind the other, as data -/
namespace PD
open PySem PySem.Spec PyProof.Rows L2 Evl
abbrev slD (v : Dv) : D := .tuple [.list ((sl v.1).map PyData.int), .list ((sl v.2).map PyData.int)]
def hts (v : Dv) (ms : List Int) (s : Sv) (n : Nat) : List Int := (List.range n).map fun k => (rp v ms s k).1
def Seen (v : Dv) (ms : List Int) (s : Sv) (k : Nat) (kvs : List (List Key × V)) : Prop := ∀ a b r, valV kvs (pk2 a b) = some r ↔ ∃ i, i < k ∧ plc v (rp v ms s i) = (a, b) ∧ r = .int (i : Int)
@[irreducible] def BB : Nat := 2 ^ 3000
end PD

/-! PD24: comprehensions that map; mirrors of trails, of joined moves, of cycles -/
namespace PD
open PySem PySem.Spec PyProof.Rows L2 Evl
section
variable {c : Cn} {K : PySem.W.Frag} {ds : DS} {pl : List D} {Φ : W → List D → Prop} {te tl : TE}
theorem we_lcM {A : Type} {j : Nat} (as : List A) (enc f : A → D) (hl : as.length < sizeLine) (hj : ∀ (xs : List D), ds[j]? ≠ some (some (W.o xs)))
    (h : WE c tl ds pl (isD fun d p1 => d = .list (as.map enc) ∧ Φ (.d (.list (as.map f))) p1))
    (step : ∀ p1 a, a ∈ as → ∀ pin, WE { c with pin := pin } te ((wipeD ds [j]).set j (some (.d (enc a)))) p1 (isD fun y p2 => y = f a ∧ p2 = p1)) : WE c (tLc (iList K tl) (gName j) tYes te [j]) ds pl Φ := by
  refine we_lcL (fun i acc p => acc = (as.take i).map f ∧ Φ (.d (.list (as.map f))) p) (as.map enc) hj ?_ ?_ ?_
  · refine h.mono fun w p1 q => ?_
    cases w with
    | d x => exact ⟨q.1, rfl, q.2⟩
    | v x => exact q
    | o x => exact q
  · rintro i x acc p hx ⟨rfl, q⟩ pin
    rw [List.getElem?_map] at hx
    cases ha : as[i]? with
    | none => rw [ha] at hx; cases hx
    | some a =>
      rw [ha] at hx
      cases hx
      refine wt_yes ?_
      rw [if_pos rfl]
      refine (step p a (List.mem_of_getElem? ha) pin).mono fun w p2 q2 => ?_
      have hi := (List.getElem?_eq_some_iff.mp ha).1
      cases w with
      | d x =>
        obtain ⟨rfl, rfl⟩ := q2
        refine ⟨?_, ?_, q⟩
        · rw [List.length_map, List.length_take]; omega
        · rw [List.take_add_one, ha, List.map_append]; rfl
      | v x => exact q2
      | o x => exact q2
  · rintro acc p ⟨rfl, q⟩
    rw [List.length_map, List.take_length]
    exact q
end
/-! ### mirrors -/
end PD

/-! PD25: parted moves, moves joined twice, moves one time behind the other (mathematics) -/
namespace PD
open PySem PySem.Spec PyProof.Rows L2 Evl
def repM (ms : List Int) (k : Nat) : List Int := (List.replicate k ms).flatten
section
variable {c : Cn} {K : PySem.W.Frag} {ds : DS} {pl : List D} {Φ : W → List D → Prop} {E : EE} {t : TS} {tr : TA}
end
section
variable {c : Cn} {K : PySem.W.Frag} {ds : DS} {pl : List D} {Φ : W → List D → Prop} {E : EE} {t u : TS} {tr : TA} {ta tb : TE} {tt : TT} {Ek : XK}
end
end PD

/-! PD26: three names at once; an owned list lent to a call whose answer is dropped -/
namespace PD
open PySem PySem.Spec PyProof.Rows L2 Evl
section
variable {c : Cn} {K : PySem.W.Frag} {ds : DS} {pl : List D} {t u : TS} {D' : Ends} {G0 : Hp} {E : EE} {Φ : W → List D → Prop} {te : TE} {tr : TA}
end
end PD

/-! PD27: a and b that meet; a last move that brings the hand back; written devices -/
namespace PD
open PySem PySem.Spec PyProof.Rows L2 Evl
section
variable {c : Cn} {K : PySem.W.Frag} {ds : DS} {pl : List D} {Φ : W → List D → Prop} {ta tb : TE} {tr : TA} {Ek : XK}
end
abbrev c3 : Comb := ⟨3, [0]⟩
abbrev c5 : Comb := ⟨5, [0]⟩
abbrev c10 : Comb := ⟨10, [0]⟩
abbrev c103 : Comb := ⟨10, [0, 3]⟩
end PD

/-! PD28: comprehensions over enumerate, over pairs; in and index of data of any depth; lists begun with items -/
namespace PD
open PySem PySem.Spec PyProof.Rows L2 Evl
section
variable {c : Cn} {K : PySem.W.Frag} {ds : DS} {pl : List D} {Φ : W → List D → Prop} {te tl : TE} {tr : TA} {tt : TT} {σ : L2.St} {E : EE} {t : TS}
end
end PD

/-! PD29: starts that come again, in a list of starts (mathematics) -/
namespace PD
open PySem PySem.Spec PyProof.Rows L2 Evl
abbrev ptD (a : Int × Int) : D := .tuple [.int a.1, .int a.2]
section
variable (v : Dv) (ms : List Int) (s : Sv)
def sts (n : Nat) : List D := (List.range n).map fun i => ptD (plc v (rp v ms s i))
def seenB (i : Nat) : Bool := (sts v ms s i).any fun z => PyData.eqv z (ptD (plc v (rp v ms s i)))
variable {v ms s}
end
def rows (v : Dv) (ms : List Int) (s : Sv) (n : Nat) : List D := (List.range n).map fun i => Sv.d (rp v ms s i)
end PD

/-! PD30: cycles of written devices -/
namespace PD
open PySem PySem.Spec PyProof.Rows L2 Evl
end PD

/-! PD31: ranges with two ends, zip in a for, index, sorted; bars in their order (mathematics) -/
namespace PD
open PySem PySem.Spec PyProof.Rows L2 Evl
section
variable {c : Cn} {K : PySem.W.Frag} {ds : DS} {pl : List D} {Φ : W → List D → Prop} {te tl tb : TE} {tr : TA} {tt : TT} {σ : L2.St} {E : EE} {t : TS}
end
structure Com (v : Dv) (L : Int) : Prop where
  pos : 0 < L
  d1 : L % v.1.p = 0
  d2 : L % v.2.p = 0
  le : L ≤ 576
structure Row (L : Int) (f : Int → Int) : Prop where
  mono : ∀ a b, a ≤ b → f a ≤ f b
  per : ∀ a k, f (a + L * k) = f a + L * k
end PD

/-! PD32: is None, min and max of a list; first times (mathematics) -/
namespace PD
open PySem PySem.Spec PyProof.Rows L2 Evl
def nonB : D → Bool
  | .none => true
  | _ => false
section
variable {c : Cn} {K : PySem.W.Frag} {ds : DS} {pl : List D} {Φ : W → List D → Prop}
end
section
variable (v : Dv) (ms : List Int) (s : Sv)
def Fst (h : Int) : Option Nat → Prop
  | some k => h ≤ (rp v ms s k).1 ∧ ∀ i, i < k → (rp v ms s i).1 < h
  | none => ∀ i, (rp v ms s i).1 < h
def oD : Option Nat → D
  | some k => .int (k : Int)
  | none => .none
variable {v ms s}
def need (x h r : Int) : Int := -((x - h) / r)
end
end PD

/-! PD33: a < b <= c; cycles by the pitches, bounds of first times, first times told -/
namespace PD
open PySem PySem.Spec PyProof.Rows L2 Evl
section
variable {v : Dv} {ms : List Int} {s : Sv}
end
end PD

/-! PD34: xs, y = [e], b -/
namespace PD
open PySem PySem.Spec PyProof.Rows L2 Evl
section
variable {c : Cn} {K : PySem.W.Frag} {ds : DS} {pl : List D} {te : TE} {E : EE}
end
end PD

/-! PD35: gcd; the mean rise of moves at a hand (mathematics) -/
namespace PD
open PySem PySem.Spec PyProof.Rows L2 Evl
section
variable {c : Cn} {K : PySem.W.Frag} {ds : DS} {pl : List D} {Φ : W → List D → Prop}
end
section
variable {v : Dv} {ms : List Int} {hand : Int}
structure Mean (v : Dv) (ms : List Int) (hand t b : Int) : Prop where
  t0 : 0 ≤ t
  b0 : 0 < b
  b5 : b ≤ 576
  low : Nat.gcd t.natAbs b.natAbs = 1
  eq : ∀ (a : Int) (n j : Nat), Cyc v ms (a, hand) n j → t * ((n - j : Nat) : Int) = b * ((rp v ms (a, hand) n).1 - (rp v ms (a, hand) j).1)
end
end PD

/-! PD36: a, b, c = e; slices of tuples; later states of a cycle -/
namespace PD
open PySem PySem.Spec PyProof.Rows L2 Evl
section
variable {c : Cn} {K : PySem.W.Frag} {ds : DS} {pl : List D} {Φ : W → List D → Prop} {te ta : TE} {E : EE}
end
section
variable {v : Dv} {ms : List Int} {s : Sv}
end
def c24 : Comb := ⟨24, [0]⟩
def c23 : Comb := ⟨23, [0]⟩
end PD

/-! PD37: found.append(left.pop(k)); left, found = list(range(n)), [] -/
namespace PD
open PySem PySem.Spec PyProof.Rows L2 Evl
section
variable {c : Cn} {K : PySem.W.Frag} {ds : DS} {pl : List D} {Φ : W → List D → Prop} {te ta : TE} {E : EE}
end
end PD

/-! PD38: erased items (mathematics); cycles within the remainders of bars (mathematics) -/
namespace PD
open PySem PySem.Spec PyProof.Rows L2 Evl
section
variable {v : Dv} {ms : List Int} {x arm : Int}
end
end PD

/-! PD39: comprehensions over a range that is met; cycles are there; one mean alone -/
namespace PD
open PySem PySem.Spec PyProof.Rows L2 Evl
section
variable {c : Cn} {K : PySem.W.Frag} {ds : DS} {pl : List D} {Φ : W → List D → Prop} {te : TE} {tt : TT} {tr : TA}
end
section
variable {v : Dv} {ms : List Int} {s : Sv} {arm : Int}
end
end PD

/-! PD40: in a tuple of numbers; means told -/
namespace PD
open PySem PySem.Spec PyProof.Rows L2 Evl
section
variable {c : Cn} {K : PySem.W.Frag} {ds : DS} {pl : List D} {Φ : W → List D → Prop}
end
end PD

/-! PD41: means at hands a common pitch away; pumps of greater spans (mathematics) -/
namespace PD
open PySem PySem.Spec PyProof.Rows L2 Evl
section
variable {v : Dv} {ms : List Int} {arm : Int}
end
def w24 : Comb := ⟨24, [0, 5]⟩
def w23 : Comb := ⟨23, [1, 9, 20]⟩
end PD

/-! PD42: a bound of means -/
namespace PD
open PySem PySem.Spec PyProof.Rows L2 Evl
end PD

/-! PD43: pumps of greater spans never raise less (mathematics) -/
namespace PD
open PySem PySem.Spec PyProof.Rows L2 Evl
section
variable {v : Dv} {arm : Int}
end
end PD

/-! PD44: a pump raises by no more than its span, and by no less than it without the longest slacks (mathematics) -/
namespace PD
open PySem PySem.Spec PyProof.Rows L2 Evl
section
variable {v : Dv} {arm : Int}
end
end PD

/-! PD45: a mean above 0 is 1 at least (mathematics) -/
namespace PD
open PySem PySem.Spec PyProof.Rows L2 Evl
section
variable {v : Dv} {ms : List Int} {arm : Int}
end
end PD

/-! PD46: a dict of numbers; a new list beside a value -/
namespace PD
open PySem PySem.Spec PyProof.Rows L2 Evl
inductive RK (G : Hp) : List (Key × V) → List (Int × D) → Prop
  | nil : RK G [] []
  | cons {k : Int} {v : V} {d : D} {vs : List (Key × V)} {ks : List (Int × D)} (a : R G v d) (b : RK G vs ks) : RK G ((.inl k, v) :: vs) ((k, d) :: ks)
theorem RK.len {G : Hp} {vs : List (Key × V)} {ks : List (Int × D)} (h : RK G vs ks) : vs.length = ks.length := by
  induction h with
  | nil => rfl
  | cons a b ih => rw [List.length_cons, List.length_cons, ih]
def look (ks : List (Int × D)) (k : Int) : Option D := (ks.find? fun kv => decide (kv.1 = k)).map (·.2)
def tab (n : Nat) (f : Nat → Int × D) : List (Int × D) := (List.range n).map f
section
variable {c : Cn} {K : PySem.W.Frag} {ds : DS} {pl : List D} {t u body : TS} {D' : Ends} {G0 : Hp} {E : EE} {Φ : W → List D → Prop} {te tk tv : TE} {tr : TA}
end
abbrev c01 : Comb := ⟨1, [0]⟩
end PD

/-! PD47: gaps, mirrored means, chains over what a call tells -/
namespace PD
open PySem PySem.Spec PyProof.Rows L2 Evl
end PD

/-! PD48: spans for fractions -/
namespace PD
open PySem PySem.Spec PyProof.Rows L2 Evl
end PD

/-! PD49: comprehensions over a tuple or a list that is met -/
namespace PD
open PySem PySem.Spec PyProof.Rows L2 Evl
section
variable {c : Cn} {K : PySem.W.Frag} {ds : DS} {pl : List D} {Φ : W → List D → Prop} {te : TE} {tt : TT} {tr : TA}
end
end PD

/-! PD50: math.lcm -/
namespace L2
open PySem PySem.Spec PyProof.Rows
section
variable {X : Cx}
def rLcm : List V → Hp → VK → Prop := fun vs H Q => ∃ a b : Int, vs = [.int a, .int b] ∧ a.natAbs < 2 ^ 64 ∧ b.natAbs < 2 ^ 64 ∧ Q (.int ((a.natAbs.lcm b.natAbs : Nat) : Int)) H
end
end L2
namespace PD
open PySem PySem.Spec PyProof.Rows L2 Evl
section
variable {c : Cn} {K : PySem.W.Frag} {ds : DS} {pl : List D} {Φ : W → List D → Prop}
end
end PD

/-! PD51: targets of any shape; a comprehension of two loops -/
namespace PD
open PySem PySem.Spec PyProof.Rows L2 Evl
def GA (c : Cn) (g : TG) (x : D) (u : DS → DS) : Prop := ∀ G σ H ds pl v, HS c G σ H ds pl → R G v x → ∀ Q : L2.St → Hp → Prop, (∀ σ', HS c G σ' H (u ds) pl → Q σ' H) → g v σ H Q
section
variable {c : Cn} {K : PySem.W.Frag} {ds : DS} {pl : List D} {t : TS} {E : EE} {Φ : W → List D → Prop} {te : TE} {tr tr1 : TA} {tt1 : TT}
theorem ga_name (j : Nat) (x : D) : GA c (gName j) x (fun ds => ds.set j (some (.d x))) := fun G σ H ds pl v hs r Q q => q _ (hs.set (i := j) (w := .d x) r fun xs z => by cases z)
theorem ga_tup2 {n : Nat} {g1 g2 : TG} {x y : D} {u1 u2 : DS → DS} (hn : n = 2) (h1 : GA c g1 x u1) (h2 : GA c g2 y u2) : GA c (gTup K n (gCons g1 (gCons g2 gNil))) (.tuple [x, y]) (fun ds => u2 (u1 ds)) := fun G σ H ds pl v hs r Q q => by
  subst hn
  cases r with
  | tup a b =>
    cases b with
    | cons r1 b =>
      cases b with
      | cons r2 b =>
        cases b
        exact ⟨_, _, rfl, SqT.of (hs.sub _ _ a), rfl, _, _, rfl, h1 G σ H ds pl _ hs r1 _ fun σ1 hs1 => ⟨_, _, rfl, h2 G σ1 H _ pl _ hs1 r2 _ fun σ2 hs2 => ⟨rfl, q σ2 hs2⟩⟩⟩
theorem ws_forG {g : TG} {tl : TE} (u : D → DS → DS) (I : Nat → DS → List D → Prop) (xs : List D) (ga : ∀ x ∈ xs, GA c g x (u x)) (h : WE c tl ds pl (isD fun d p1 => d = .list xs ∧ I 0 ds p1))
    (hs : ∀ i x ds' pl', xs[i]? = some x → I i ds' pl' → WS c t (u x ds') pl' { nx := I (i + 1), ct := I (i + 1), bk := E.nx, rt := E.rt }) (hd : ∀ ds' pl', I xs.length ds' pl' → E.nx ds' pl') :
    WS c (tFor (iList K tl) g t) ds pl E := fun G σ H h0 D' f => h G σ H h0 _ fun v G1 H1 w p1 h1 e1 f1 g1 => by
  match w, f1, g1 with
  | .d d, f1, ⟨ed, g1⟩ =>
    subst ed
    cases f1 with
    | @lst a vs _ a1 b1 =>
    refine ⟨a, rfl, ⟨vs, SqL.of (h1.sub _ _ a1)⟩, for_list (K := K) (a := a) (xs := vs) (fun i σ' H' => ∃ G' ds' pl', HS c G' σ' H' ds' pl' ∧ Ex G1 G' ∧ I i ds' pl') ⟨G1, ds, p1, h1, Ex.refl _, g1⟩ ?_ ?_ ?_⟩
    · rintro i σ' H' _ ⟨G', ds', pl', h2, e2, _⟩
      exact SqL.of (h2.sub _ _ (e2 _ _ a1))
    · rintro i x σ' H' hx ⟨G', ds', pl', h2, e2, g2⟩
      obtain ⟨d, hd1, hd2⟩ := b1.get' hx
      refine ga d (List.mem_of_getElem? hd1) G' σ' H' ds' pl' x h2 (R.up hd2 e2) _ fun σ2 h5 => ?_
      refine hs i d ds' pl' hd1 g2 G' _ H' h5 _ ⟨?_, ?_, ?_, ?_⟩
      · exact fun G3 σ3 H3 ds3 pl3 h3 e3 g3 => ⟨G3, ds3, pl3, h3, e2.trans e3, g3⟩
      · exact fun v G3 σ3 H3 ds3 w3 pl3 h3 e3 q3 g3 => f.rt v G3 σ3 H3 ds3 w3 pl3 h3 ((e1.trans e2).trans e3) q3 g3
      · exact fun G3 σ3 H3 ds3 pl3 h3 e3 g3 => f.nx G3 σ3 H3 ds3 pl3 h3 ((e1.trans e2).trans e3) g3
      · exact fun G3 σ3 H3 ds3 pl3 h3 e3 g3 => ⟨G3, ds3, pl3, h3, e2.trans e3, g3⟩
    · rintro σ' H' ⟨G', ds', pl', h2, e2, g2⟩
      rw [b1.len] at g2
      exact f.nx G' σ' H' ds' pl' h2 (e1.trans e2) (hd _ _ g2)
end
/-! ### two loops -/
def Nod (ds : DS) : Prop := ∀ (j : Nat) (xs : List D), ds[j]? ≠ some (some (W.o xs))
section
variable {c : Cn} {K : PySem.W.Frag} {ds : DS} {pl : List D} {Φ : W → List D → Prop} {te : TE} {tr : TA} {tt1 : TT}
end
end PD

/-! PD52: bars that fit looks -/
namespace PD
open PySem PySem.Spec PyProof.Rows L2 Evl
section
variable {c : Cn} {K : PySem.W.Frag} {ds : DS} {pl : List D} {Φ : W → List D → Prop} {te : TE} {tt : TT} {j : Nat}
end
abbrev u2 (j1 j2 : Nat) : D → DS → DS := fun d ds => match d with
  | .tuple [x, y] => (ds.set j1 (some (.d x))).set j2 (some (.d y))
  | _ => ds
abbrev u3 (j1 j2 j3 : Nat) : D → DS → DS := fun d ds => match d with
  | .tuple [x, y, z] => ((ds.set j1 (some (.d x))).set j2 (some (.d y))).set j3 (some (.d z))
  | _ => ds
/-! ### starts -/
def rowL (v : Dv) (a : Nat) (n : Nat) : List (Int × Int) := ((List.range n).filter fun (l : Nat) => held v ((a : Int), (a : Int) - (l : Int))).map fun (l : Nat) => ((a : Int), (l : Int))
def startsN (v : Dv) (i : Nat) : List (Int × Int) := (List.range i).flatMap fun a => rowL v a v.2.p.toNat
abbrev startsL (v : Dv) : List (Int × Int) := startsN v v.1.p.toNat
/-! ### notes -/
def runN (v : Dv) : Sv → List (Int × Int) → Option Sv
  | s, [] => some s
  | s, q :: r => if (mv v s q.1).1 - s.1 = q.2 then runN v (mv v s q.1) r else none
abbrev Bar := (Int × Int) × Sv
def barD (b : Bar) : D := .tuple [Sv.d b.1, .int b.2.1, .int (lf b.2)]
def begun (st : Int × Int) : Bar := (st, (st.1, st.1 - st.2))
def seenL (v : Dv) (bs : List Bar) (q : Int × Int) : List Bar := (bs.filter fun b => decide ((mv v b.2 q.1).1 - b.2.1 = q.2)).map fun b => (b.1, mv v b.2 q.1)
def fitL (v : Dv) (ns : List (Int × Int)) : List Bar := ns.foldl (seenL v) ((startsL v).map begun)
end PD

/-! PD53: there are starts -/
namespace PD
open PySem PySem.Spec PyProof.Rows L2 Evl
end PD

/-! PD54: is not None; sizes of lists of pairs; places behind looks -/
namespace PD
open PySem PySem.Spec PyProof.Rows L2 Evl
section
variable {c : Cn} {K : PySem.W.Frag} {ds : DS} {pl : List D} {Φ : W → List D → Prop}
end
theorem ga_u2 {c : Cn} {K : PySem.W.Frag} {n j1 j2 : Nat} (hn : n = 2) (x y : D) : GA c (gTup K n (gCons (gName j1) (gCons (gName j2) gNil))) (.tuple [x, y]) (u2 j1 j2 (.tuple [x, y])) :=
  ga_tup2 (u1 := fun ds => ds.set j1 (some (.d x))) (u2 := fun ds => ds.set j2 (some (.d y))) hn (ga_name j1 x) (ga_name j2 y)
/-! ### places -/
def stepS (v : Dv) (ss : List Sv) (q : Int × Int) : List Sv := (ss.filter fun s => decide ((mv v s q.1).1 - s.1 = q.2)).map fun s => mv v s q.1
end PD

/-! PD55: == [] -/
namespace PD
open PySem PySem.Spec PyProof.Rows L2 Evl
section
variable {c : Cn} {K : PySem.W.Frag} {ds : DS} {pl : List D} {Φ : W → List D → Prop}
end
end PD

/-! PD56: rows of spans; joined tuples; the script compared; a pool made in a call -/
namespace PD
open PySem PySem.Spec PyProof.Rows L2 Evl
noncomputable def mOf (v : Dv) (arm z : Int) : Int × Int := by
  classical exact if h : ∃ q : Int × Int, Mean v [z, -z] arm q.1 q.2 then Classical.choose h else (0, 1)
noncomputable def rowsF (v : Dv) (arm : Int) : Nat → List (Int × Int × Int) × (Int × Int)
  | 0 => ([], (0, 1))
  | n + 1 => if mOf v arm ((n : Int) + 1) = (rowsF v arm n).2 then rowsF v arm n else ((rowsF v arm n).1 ++ [((n : Int) + 1, mOf v arm ((n : Int) + 1))], mOf v arm ((n : Int) + 1))
abbrev rowD (q : Int × Int × Int) : D := .tuple [.int q.1, .int q.2.1, .int q.2.2]
section
variable {c : Cn} {K : PySem.W.Frag} {ds : DS} {pl : List D} {Φ : W → List D → Prop} {ta tb te : TE} {tr : TA} {E : EE}
/-! ### the script compared -/
theorem ints_depth : ∀ ns : List Int, PyData.depthAll (ns.map PyData.int) = 0
  | [] => rfl
  | n :: ns => by
    rw [List.map_cons]
    show max (PyData.depth (.int n)) (PyData.depthAll (ns.map PyData.int)) = 0
    rw [ints_depth ns]
    rfl
/-! ### f(mk(script, e), ..) -/
end
end PD

/-! PD57: how many spans have rows -/
namespace PD
open PySem PySem.Spec PyProof.Rows L2 Evl
def lcmV (v : Dv) : Int := ((Nat.lcm v.1.p.natAbs v.2.p.natAbs : Nat) : Int)
def spanN (v : Dv) : Nat := (lcmV v + max v.1.p v.2.p).toNat
end PD

/-! PD58: rows of two written devices -/
namespace PD
open PySem PySem.Spec PyProof.Rows L2 Evl
def rowsC (M : List (Int × Int)) : Nat → List (Int × Int × Int) × (Int × Int)
  | 0 => ([], (0, 1))
  | n + 1 => if M.getD n (0, 1) = (rowsC M n).2 then rowsC M n else ((rowsC M n).1 ++ [((n : Int) + 1, M.getD n (0, 1))], M.getD n (0, 1))
def cycB (v : Dv) (z : Int) (n j : Nat) (m : Int × Int) : Bool :=
  decide (j < n) && decide (plc v (rp v [z, -z] (0, 0) j) = plc v (rp v [z, -z] (0, 0) n)) && decide (∀ k, k < n → ∀ i, i < k → plc v (rp v [z, -z] (0, 0) i) ≠ plc v (rp v [z, -z] (0, 0) k)) &&
  decide ((rp v [z, -z] (0, 0) n).1 - (rp v [z, -z] (0, 0) j).1 = m.1 * (Nat.gcd ((rp v [z, -z] (0, 0) n).1 - (rp v [z, -z] (0, 0) j).1).natAbs ((n : Int) - (j : Int)).natAbs : Nat) ∧ (n : Int) - (j : Int) = m.2 * (Nat.gcd ((rp v [z, -z] (0, 0) n).1 - (rp v [z, -z] (0, 0) j).1).natAbs ((n : Int) - (j : Int)).natAbs : Nat))
abbrev c24x : Comb := ⟨24, [0, 7, 8]⟩
abbrev c23x : Comb := ⟨23, [5, 11]⟩
end PD

/-! PD59: two bars over one hand; places of three numbers in a dict -/
namespace PD
open PySem PySem.Spec PyProof.Rows L2 Evl
section
variable {v : Dv} {ms : List Int} {palm : Int}
def hx (v : Dv) (ms : List Int) (palm : Int) (x : Int) (i : Nat) : Int := (rp v ms (x, palm) i).1
def gp (v : Dv) (ms : List Int) (palm x y : Int) (i : Nat) : Int := hx v ms palm y i - hx v ms palm x i
def kyT (v : Dv) (ms : List Int) (palm x y : Int) (i : Nat) : Int × Int × Int := (hx v ms palm x i % v.1.p, (hx v ms palm x i - palm) % v.2.p, gp v ms palm x y i)
def JR (v : Dv) (ms : List Int) (palm x y : Int) (d : D) : Prop := (d = .none ∧ ∀ n, gp v ms palm x y n ≠ 0) ∨ ∃ n : Nat, d = .int (n : Int) ∧ n ≤ 332352 ∧ gp v ms palm x y n = 0 ∧ ∀ m, m < n → gp v ms palm x y m ≠ 0
end
/-! ### a dict of places -/
abbrev pk3 (q : Int × Int × Int) : List Key := [.inl q.1, .inl q.2.1, .inl q.2.2]
abbrev triD (q : Int × Int × Int) : D := .tuple [.int q.1, .int q.2.1, .int q.2.2]
def kv3 (qs : List (Int × Int × Int)) : List (List Key × V) := qs.map fun q => (pk3 q, V.bl true)
section
variable {c : Cn} {K : PySem.W.Frag} {ds : DS} {pl : List D} {t u body : TS} {D' : Ends} {G0 : Hp} {E : EE} {Φ : W → List D → Prop} {tt : TT}
end
end PD

/-! PD60: a stock (a pool with a greater number), the script cut, a list repeated -/
namespace PD
open PySem PySem.Spec PyProof.Rows L2 Evl
def Qk (n : Nat) (pl : List D) : Prop := ∃ a b c : Int, pl = [.int a, .int b, .int c] ∧ 0 ≤ a ∧ 0 ≤ b ∧ b < 2 ^ 130 ∧ 0 ≤ c ∧ c ≤ n
def poolQ {A : Type} (L : Nat) (enc : A → List D) (pre : A → Prop) (B : A → Nat) (post : A → D → Prop) : List D → List D → (D → List D → Prop) → Prop := fun pl ds k => ∃ (a : A) (n : Nat), ds = enc a ∧ pre a ∧ Qk n pl ∧ n < L ∧ ∀ d pl', post a d → Qk (n + B a) pl' → k d pl'
section
variable {c : Cn} {K : PySem.W.Frag} {ds : DS} {pl : List D} {Φ : W → List D → Prop} {tr : TA} {te ta tb : TE} {E : XK} {A : Type} {enc : A → List D} {pre : A → Prop} {B : A → Nat} {post : A → D → Prop} {L : Nat}
abbrev drawQ := poolQ 9000000 (fun t : Int => [.int t]) (fun t => 0 < t ∧ t < (2 : Int) ^ 200) (fun _ => 1) (fun t d => ∃ v, d = .int v ∧ 0 ≤ v ∧ v < t)
end
/-! ### a def that makes a stock from the script -/
def spMk1 (K : PySem.W.Frag) (F : List Int → (List D → Prop) → Prop) : Sp := fun vs H Q _ => ∃ G a ns, vs = [.ref a] ∧ Ex G H ∧ SqL K H a (ns.map V.int) ∧ F ns fun xs => ∀ p us G' H', Ex H H' → Ex G' H' → Ex G G' → (∀ a o, H a = some o → G a = none → G' a = none) → H p = none → G' p = none →
  H' p = some (.lst us) → RA G' us xs → Q (.ref p) H'
section
variable {P : Program} {w : World} {K : PySem.W.Frag} {mg : Str → Option Value} {base : Heap} {k : Nat} {f : Addr} {fd : FuncData} {ps : List Str}
end
section
variable {c : Cn} {K : PySem.W.Frag} {ds : DS} {E : XK}
end
end PD

/-! PD61: the greatest heights at each hand -/
namespace PD
open PySem PySem.Spec PyProof.Rows L2 Evl
abbrev OI := Option Int
def optI : OI → D
  | some x => .int x
  | none => .none
def updG (best : List OI) (g : Nat) (r : Int) : List OI := match best[g]? with
  | some (some x) => if x < r then best.set g (some r) else best
  | some none => best.set g (some r)
  | none => best
def reachH (v : Dv) (height : Int) (hand goal : Nat) : Int := if goal < hand then height - min ((hand : Int) - (goal : Int)) (slk v.1 height) else height + max ((goal : Int) - (hand : Int) - slk v.2 (height - (hand : Int))) 0
def innerF (v : Dv) (best : List OI) (hand : Nat) (h : Int) (n : Nat) : List OI := (List.range n).foldl (fun b g => updG b g (reachH v h hand g)) best
def turnF (v : Dv) (tops : List OI) (b : List OI) (hd : Nat) : List OI := match tops[hd]? with
  | some (some h) => innerF v b hd h tops.length
  | _ => b
def moreF (v : Dv) (tops : List OI) (n : Nat) : List OI := (List.range n).foldl (turnF v tops) tops
def more (v : Dv) (tops : List OI) : List OI := moreF v tops tops.length
def itT (v : Dv) (tops : List OI) : Nat → List OI
  | 0 => tops
  | n + 1 => more v (itT v tops n)
def Ge (b tops : List OI) : Prop := ∀ (g : Nat) (h : Int), tops[g]? = some (some h) → ∃ x, b[g]? = some (some x) ∧ h ≤ x
def Bd (b : List OI) (B : Nat) : Prop := ∀ (g : Nat) (h : Int), b[g]? = some (some h) → h.natAbs ≤ B
/-! ### shifted -/
def upT (s : Int) (tops : List OI) : List OI := tops.map fun o => o.map (· + s)
/-! ### begun -/
def startT (reach hand : Nat) (height : Int) : List OI := (List.replicate (reach + 1) none).set hand (some height)
end PD

/-! PD62: greatest heights, told by a law -/
namespace PD
open PySem PySem.Spec PyProof.Rows L2 Evl
abbrev offD (v : Dv) : D := .list [.list ((sl v.1).map PyData.int), .list ((sl v.2).map PyData.int)]
theorem caught_up {c : Comb} (n k : Int) : caught c (n + c.p * k) = caught c n := by
  unfold caught
  rw [Int.add_mul_emod_self_left]
def vOne : Dv := (⟨1, [0]⟩, ⟨1, [0]⟩)
def vTwo : Dv := (⟨24, [0, 7]⟩, ⟨23, [1, 12]⟩)
end PD

/-! PD63: the script still read behind a stock made -/
namespace PD
open PySem PySem.Spec PyProof.Rows L2 Evl
def Scq (K : PySem.W.Frag) (c : Cn) (a : Addr) (ns : List Int) : Prop := SqL K c.H0 a (ns.map V.int) ∧ (Rd c.H0 a (.lst (ns.map V.int)) → c.pool ≠ some a)
section
variable {c : Cn} {K : PySem.W.Frag} {ds : DS} {pl : List D} {Φ : W → List D → Prop} {E : XK}
end
end PD

/-! PD64: a dict of numbers made by a comprehension, handed back; its keys gone through -/
namespace PD
open PySem PySem.Spec PyProof.Rows L2 Evl
def vsI (tb : List (Int × Int)) : List (Key × V) := tb.map fun e => (.inl e.1, .int e.2)
section
variable {c : Cn} {K : PySem.W.Frag} {ds : DS} {pl : List D} {D' : Ends} {G0 G H : Hp} {σ : L2.St} {E : EE} {Φ : W → List D → Prop} {te tk tv : TE} {tt : TT} {tr : TA} {j : Nat}
abbrev tbF (f : Int → Int) (xs : List Int) : List (Int × Int) := xs.map fun x => (x, f x)
end
end PD

/-! PD65: heights held and stuck; rows of spans -/
namespace PD
open PySem PySem.Spec PyProof.Rows L2 Evl
def heldN (v : Dv) (arm : Int) (n : Nat) : List Int := ((List.range n).map fun (h : Nat) => (h : Int)).filter fun h => held v (h, arm)
abbrev heldL (v : Dv) (arm : Int) : List Int := heldN v arm (lcmV v).toNat
def stuckL (v : Dv) (arm : Int) (ms : List Int) : List Int := (heldL v arm).filter fun h => decide ((mvs v (h, arm) ms).1 = h)
/-! ### rows -/
end PD

/-! PD66: never a common pitch from the mean; cycles no longer than the held heights -/
namespace PD
open PySem PySem.Spec PyProof.Rows L2 Evl
section
variable {v : Dv} {ms : List Int} {palm L t b : Int}
end
end PD

/-! PD67: a device with more teeth; zip of two tuples -/
namespace PD
open PySem PySem.Spec PyProof.Rows L2 Evl
section
variable {c : Cn} {K : PySem.W.Frag} {ds : DS} {pl : List D} {Φ : W → List D → Prop} {tr : TA} {t : TS} {E : EE}
end
structure More (a b : Comb) : Prop where
  p : a.p = b.p
  sub : ∀ t ∈ a.ts, t ∈ b.ts
def MoreD (v w : Dv) : Prop := More v.1 w.1 ∧ More v.2 w.2
section
variable {v w : Dv} (ov : v.Ok) (ow : w.Ok) (m : MoreD v w)
include ov ow m
omit ov ow in
end
/-! ### best heights -/
section
variable {v w : Dv} (ov : v.Ok) (ow : w.Ok) (m : MoreD v w)
include ov ow m
end
/-! ### counts -/
def cbN (c : Comb) (n : Int) : Int := n / c.p * (c.ts.length : Int) + ((c.ts.filter fun t => decide (t < n % c.p)).length : Int)
end PD

/-! PD68: gaps that are there; combs of all teeth -/
namespace PD
open PySem PySem.Spec PyProof.Rows L2 Evl
def allC (p : Int) : Comb := ⟨p, (List.range p.toNat).map fun (i : Nat) => (i : Int)⟩
def allD (v : Dv) : Dv := (allC v.1.p, allC v.2.p)
end PD

/-! PD69: [.. for i in range(a, b, s) for y in ys] -/
namespace PD
open PySem PySem.Spec PyProof.Rows L2 Evl
section
variable {c : Cn} {K : PySem.W.Frag} {ds : DS} {pl : List D} {Φ : W → List D → Prop} {te : TE} {tr : TA}
end
end PD

/-! PD70: combs of the least pitch -/
namespace PD
open PySem PySem.Spec PyProof.Rows L2 Evl
def under (ts : List Int) (part : Int) : List Int := ts.filter fun t => decide (t < part)
def repT (ts : List Int) (part : Int) (N : Nat) : List Int := (List.range N).flatMap fun (k : Nat) => (under ts part).map fun t => (k : Int) * part + t
theorem asc_ext : ∀ {l m : List Int}, l.Pairwise (· < ·) → m.Pairwise (· < ·) → (∀ x, x ∈ l ↔ x ∈ m) → l = m
  | [], [], _, _, _ => rfl
  | [], b :: m, _, _, h => nomatch (h b).mpr List.mem_cons_self
  | a :: l, [], _, _, h => nomatch (h a).mp List.mem_cons_self
  | a :: l, b :: m, h1, h2, h => by
    rw [List.pairwise_cons] at h1 h2
    have ab : a = b := by
      rcases List.mem_cons.mp ((h a).mp List.mem_cons_self) with e | e
      · exact e
      · rcases List.mem_cons.mp ((h b).mpr List.mem_cons_self) with e2 | e2
        · exact e2.symm
        · have := h1.1 b e2
          have := h2.1 a e
          omega
    subst ab
    rw [asc_ext h1.2 h2.2 fun x => ⟨fun hx => ?_, fun hx => ?_⟩]
    · rcases List.mem_cons.mp ((h x).mp (List.mem_cons_of_mem _ hx)) with e | e
      · have := h1.1 x hx; omega
      · exact e
    · rcases List.mem_cons.mp ((h x).mpr (List.mem_cons_of_mem _ hx)) with e | e
      · have := h2.1 x hx; omega
      · exact e
def Per (c : Comb) (q : Int) : Prop := ∀ n, caught c (n + q) = caught c n
theorem Per.mul {c : Comb} {q : Int} (h : Per c q) (n : Int) : ∀ k : Nat, caught c (n + q * (k : Int)) = caught c n
  | 0 => by rw [show q * ((0 : Nat) : Int) = 0 by rw [show ((0 : Nat) : Int) = 0 by rfl, Int.mul_zero], Int.add_zero]
  | k + 1 => by
    rw [show n + q * ((k + 1 : Nat) : Int) = n + q * (k : Int) + q by rw [show ((k + 1 : Nat) : Int) = (k : Int) + 1 by omega, Int.mul_add, Int.mul_one]; omega, h, h.mul n k]
theorem Per.all {c : Comb} {q : Int} (h : Per c q) (n k : Int) : caught c (n + q * k) = caught c n := by
  rcases Int.le_total 0 k with z | z
  · obtain ⟨m, rfl⟩ := Int.eq_ofNat_of_zero_le z
    exact h.mul n m
  · obtain ⟨m, hm⟩ := Int.eq_ofNat_of_zero_le (show 0 ≤ -k by omega)
    have := h.mul (n + q * k) m
    rw [← hm, Int.mul_neg, show n + q * k + -(q * k) = n by omega] at this
    exact this.symm
theorem caught_in {c : Comb} (ok : c.Ok) {n : Int} (h0 : 0 ≤ n) (h1 : n < c.p) : caught c n = true ↔ n ∈ c.ts := by
  unfold caught
  rw [Int.emod_eq_of_lt h0 h1]
  exact decide_eq_true_iff
end PD

/-! PD71: == of lists of numbers -/
namespace PD
open PySem PySem.Spec PyProof.Rows L2 Evl
end PD

/-! PD72: [.. for x, y, z in triples]; rises told -/
namespace PD
open PySem PySem.Spec PyProof.Rows L2 Evl
section
variable {c : Cn} {K : PySem.W.Frag} {ds : DS} {pl : List D} {Φ : W → List D → Prop} {te tl : TE} {tt : TT}
end
def riseL (v : Dv) (ns : List (Int × Int)) (m : Int) : List Int := (fitL v ns).map fun b => (mv v b.2 m).1 - b.2.1
def AllEq (l : List Int) : Prop := ∀ a ∈ l, ∀ b ∈ l, a = b
end PD

/-! PD73: least pitches, states alike -/
namespace PD
open PySem PySem.Spec PyProof.Rows L2 Evl
def LeastP (c : Comb) (P : Int) : Prop := 1 ≤ P ∧ P ≤ c.p ∧ c.p % P = 0 ∧ Per c P ∧ ∀ q, 1 ≤ q → q < P → c.p % q = 0 → ¬ Per c q
end PD

/-! PD74: zip of three lists in a comprehension -/
namespace PD
open PySem PySem.Spec PyProof.Rows L2 Evl
def Itz3 (K : PySem.W.Frag) (a b d : Addr) : It :=
  ⟨fun i H => ∃ (xs ys zs : List V) (x y z : V), SqL K H a xs ∧ SqL K H b ys ∧ SqL K H d zs ∧ xs[i]? = some x ∧ ys[i]? = some y ∧ zs[i]? = some z,
    fun i H v H' => ∃ T x y z, v = .ref T ∧ H T = none ∧ H' = upd H T (.tup [x, y, z]) ∧ (∀ xs, SqL K H a xs → xs[i]? = some x) ∧ (∀ ys, SqL K H b ys → ys[i]? = some y) ∧ ∀ zs, SqL K H d zs → zs[i]? = some z,
    fun i H => ∃ xs ys zs : List V, SqL K H a xs ∧ SqL K H b ys ∧ SqL K H d zs ∧ i ≤ xs.length ∧ i ≤ ys.length ∧ i ≤ zs.length ∧ (xs.length = i ∨ ys.length = i ∨ zs.length = i)⟩
def iZip3 (K : PySem.W.Frag) (ta : TA) : TI := fun σ H R => ta σ H fun vs H1 => ∃ a b d xs ys zs, vs = [.ref a, .ref b, .ref d] ∧ SqL K H1 a xs ∧ SqL K H1 b ys ∧ SqL K H1 d zs ∧ R (Itz3 K a b d) H1
section
variable {c : Cn} {K : PySem.W.Frag} {ds : DS} {pl : List D} {Φ : W → List D → Prop} {ta tb te : TE} {tr : TA} {tt : TT} {G H : Hp} {σ : L2.St}
end
end PD

/-! PD75: looks of moves from a state -/
namespace PD
open PySem PySem.Spec PyProof.Rows L2 Evl
def notesL (v : Dv) : Sv → List Int → List (Int × Int)
  | _, [] => []
  | s, m :: r => (m, (mv v s m).1 - s.1) :: notesL v (mv v s m) r
section
variable {c : Cn} {K : PySem.W.Frag} {ds : DS} {pl : List D} {Φ : W → List D → Prop}
end
end PD

/-! PD76: calls whose arguments are met, ends of lists -/
namespace PD
open PySem PySem.Spec PyProof.Rows L2 Evl
section
variable {c : Cn} {K : PySem.W.Frag} {ds : DS} {pl : List D} {Φ : W → List D → Prop} {tr : TA} {E : XK}
end
theorem ix_lastD (xs : List D) (x : D) : ixD (.list (xs ++ [x])) (-1) = some x := by
  show atI (xs ++ [x]) (-1) = some x
  unfold atI
  rw [List.length_append, List.length_singleton, ixN_last]
  simp
end PD

/-! PD77: sets of numbers made by a comprehension, sorted, of any length -/
namespace PD
open PySem PySem.Spec PyProof.Rows L2 Evl
abbrev stMore (t : (Int → Bool) × Nat) (k : Int) : (Int → Bool) × Nat := (fun j => t.1 j || decide (j = k), if t.1 k = true then t.2 else t.2 + 1)
abbrev stO (w : World) (D : Addr) (t : (Int → Bool) × Nat) : HO := SetO w D t.1 t.2
abbrev st0 : (Int → Bool) × Nat := (fun _ => false, 0)
def tScN (w : World) (wi : TI) (g : TG) (tt : TT) (te : TE) (vs : List Nat) : TE := fun σ H Q => wi σ H fun J HA => ∀ D, HA D = none → ∃ M : Nat → Nat → Hp → Prop, (∃ m, M 0 m (upd HA D (stO w D st0))) ∧ ∀ i m HB, M i m HB →
  (J.stop i HB ∧ Q (.ref D) HB) ∨ (J.go i HB ∧ ∃ N : Hp → Prop, (∀ HC, N HC → ∃ m', m' < m ∧ M (i + 1) m' HC) ∧ ∀ x HC, J.yld i HB x HC → g x (wipe σ vs) HC fun τ HD => wipe τ vs = wipe σ vs ∧ tt τ HD fun b HE =>
    if b = true then te τ HE fun y HF => ∃ (k : Int) (t : (Int → Bool) × Nat), y = .int k ∧ HF D = some (stO w D t) ∧ t.2 + 1 < scanBound ∧ N (upd HF D (stO w D (stMore t k))) else N HE)
section
variable {X : Cx}
def rSortedN (w : World) : List V → Hp → VK → Prop := fun vs H Q => ∃ (a : Addr) (t : (Int → Bool) × Nat), vs = [V.ref a] ∧ H a = some (stO w a t) ∧ t.2 ≤ 100000 ∧
  ∀ (ns : List Int) (p : Addr), ns.Pairwise (· < ·) → (∀ k : Int, k ∈ ns ↔ t.1 k = true) → ns.length = t.2 → H p = none → Q (.ref p) (upd H p (.lst (ns.map V.int)))
end
section
variable {c : Cn} {K : PySem.W.Frag} {ds : DS} {pl : List D} {Φ : W → List D → Prop} {te tl : TE} {tt : TT} {σ : L2.St} {j : Nat} {w : World}
def PvS (w : World) (c : Cn) (σ : L2.St) (ds : DS) (G1 : Hp) (Dl : Addr) (J : Nat → (Int → Bool) × Nat → List D → Prop) (i : Nat) (H' : Hp) : Prop :=
  ∃ G' pl' t, HS c G' σ H' ds pl' ∧ Ex G1 G' ∧ H' Dl = some (stO w Dl t) ∧ G' Dl = none ∧ J i t pl'
end
end PD

/-! PD78: heights that last, and how soon only these are left -/
namespace PD
open PySem PySem.Spec PyProof.Rows L2 Evl
def gk (v : Dv) (ms : List Int) (arm : Int) (k : Nat) (x : Int) : Int := hx v ms arm x k % lcmV v
def imgL (v : Dv) (ms : List Int) (arm : Int) (xs : List Int) : List Int := (heldL v arm).filter fun y => xs.any fun x => decide (gk v ms arm 1 x = y)
def setl (v : Dv) (ms : List Int) (arm : Int) : Nat → List Int
  | 0 => heldL v arm
  | k + 1 => imgL v ms arm (setl v ms arm k)
structure Settle (v : Dv) (ms : List Int) (arm : Int) (k : Nat) : Prop where
  same : (setl v ms arm (k + 1)).length = (setl v ms arm k).length
  less : ∀ j, j < k → (setl v ms arm (j + 1)).length < (setl v ms arm j).length
section
variable {v : Dv} {ms : List Int} {arm : Int}
section
variable {K : Nat} (ok : v.Ok) (s0 : ms.sum = 0) (st : Settle v ms arm K)
include ok s0 st
end
end
end PD

/-! PD79: settling is told once -/
namespace PD
open PySem PySem.Spec PyProof.Rows L2 Evl
end PD

/-! PD80: rounds begun elsewhere -/
namespace PD
open PySem PySem.Spec PyProof.Rows L2 Evl
section
variable {v : Dv} {ms : List Int} {arm t b t' b' : Int}
theorem rp_same {ms ms' : List Int} (e : ∀ s, mvs v s ms = mvs v s ms') (s : Sv) : ∀ k : Nat, rp v ms s k = rp v ms' s k
  | 0 => rfl
  | k + 1 => by show mvs v (rp v ms s k) ms = mvs v (rp v ms' s k) ms'; rw [rp_same e s k, e]
theorem Mean.same {ms' : List Int} (e : ∀ s, mvs v s ms = mvs v s ms') (m : Mean v ms arm t b) : Mean v ms' arm t b := by
  refine ⟨m.t0, m.b0, m.b5, m.low, fun a n j cy => ?_⟩
  have r := rp_same e (a, arm)
  have cy' : Cyc v ms (a, arm) n j := ⟨cy.lt, by rw [r, r]; exact cy.eq, fun i k h1 h2 => by rw [r, r]; exact cy.inj i k h1 h2⟩
  have := m.eq a n j cy'
  rw [r, r] at this
  exact this
section
variable {A B : List Int}
def ph (v : Dv) (ms : List Int) (arm x : Int) : Int := (mvs v (x, arm) ms).1 % lcmV v
end
end
end PD

/-! PD81: the catch above; heights that are needed; ways by hands within a reach -/
namespace PD
open PySem PySem.Spec PyProof.Rows L2 Evl
abbrev uppT (c : Comb) (r : Int) : List Int := c.ts.filter fun t => decide (r ≤ t)
def roo (c : Comb) (n : Int) : Int := if uppT c (n % c.p) = [] then n - n % c.p + c.p + c.ts.headD 0 else n - n % c.p + (uppT c (n % c.p)).headD 0
theorem head_mem {l : List Int} (h : l ≠ []) : l.headD 0 ∈ l := by
  cases l with
  | nil => exact absurd rfl h
  | cons a r => exact List.mem_cons_self
theorem head_min {l : List Int} (up : l.Pairwise (· < ·)) {x : Int} (h : x ∈ l) : l.headD 0 ≤ x := by
  cases l with
  | nil => cases h
  | cons a r =>
    rcases List.mem_cons.mp h with e | e
    · show a ≤ x; omega
    · have := (List.pairwise_cons.mp up).1 x e
      show a ≤ x; omega
theorem roo_spec {c : Comb} (ok : c.Ok) (n : Int) : n ≤ roo c n ∧ caught c (roo c n) = true ∧ ∀ y, n ≤ y → y < roo c n → caught c y = false := by
  have hp : 0 < c.p := by have := ok.p1; omega
  have r0 := Int.emod_nonneg n (show c.p ≠ 0 by omega)
  have r1 := Int.emod_lt_of_pos n hp
  have hb : n = c.p * (n / c.p) + n % c.p := (Int.mul_ediv_add_emod n c.p).symm
  have res : ∀ m s : Int, ∀ k : Int, m = c.p * k + s → 0 ≤ s → s < c.p → caught c m = decide (s ∈ c.ts) := fun m s k e a b => by
    unfold caught
    rw [mod_of a b k e]
  unfold roo
  generalize n % c.p = r at r0 r1 hb
  generalize n / c.p = q at hb
  by_cases hu : uppT c r = []
  · rw [if_pos hu]
    have low : ∀ t ∈ c.ts, t < r := fun t ht => by
      by_cases z : r ≤ t
      · have : t ∈ uppT c r := List.mem_filter.mpr ⟨ht, decide_eq_true z⟩
        rw [hu] at this
        cases this
      · omega
    have hm := head_mem ok.ne
    have h0 := ok.low _ hm
    have h1 := ok.high _ hm
    have mul1 : c.p * (q + 1) = c.p * q + c.p := by rw [Int.mul_add, Int.mul_one]
    refine ⟨by omega, ?_, fun y y1 y2 => ?_⟩
    · rw [res _ (c.ts.headD 0) (q + 1) (by omega) h0 h1]
      exact decide_eq_true hm
    · by_cases hy : y < c.p * (q + 1)
      · rw [res y (y - c.p * q) q (by omega) (by omega) (by omega)]
        exact decide_eq_false fun z => by have := low _ z; omega
      · rw [res y (y - c.p * (q + 1)) (q + 1) (by omega) (by omega) (by omega)]
        exact decide_eq_false fun z => by have := head_min ok.up z; omega
  · rw [if_neg hu]
    have hm := head_mem hu
    have hm2 := List.mem_filter.mp hm
    have hr := of_decide_eq_true hm2.2
    have h0 := ok.low _ hm2.1
    have h1 := ok.high _ hm2.1
    have up : (uppT c r).Pairwise (· < ·) := ok.up.sublist (List.filter_sublist ..)
    refine ⟨by omega, ?_, fun y y1 y2 => ?_⟩
    · rw [res _ ((uppT c r).headD 0) q (by omega) h0 h1]
      exact decide_eq_true hm2.1
    · rw [res y (y - c.p * q) q (by omega) (by omega) (by omega)]
      refine decide_eq_false fun z => ?_
      have : y - c.p * q ∈ uppT c r := List.mem_filter.mpr ⟨z, decide_eq_true (by omega)⟩
      have := head_min up this
      omega
theorem roo_le {c : Comb} (ok : c.Ok) (n x : Int) : n ≤ flo c x ↔ roo c n ≤ x := by
  obtain ⟨a1, a2, a3⟩ := roo_spec ok n
  obtain ⟨b1, b2, b3⟩ := flo_spec ok x
  constructor
  · intro h
    rcases Int.lt_or_le (flo c x) (roo c n) with z | z
    · have := a3 _ h z
      rw [b2] at this
      cases this
    · omega
  · intro h
    rcases Int.lt_or_le (flo c x) n with z | z
    · have := b3 (roo c n) (by omega) h
      rw [a2] at this
      cases this
    · exact z
def minL : List Int → Int
  | [] => 0
  | [a] => a
  | a :: b :: r => min a (minL (b :: r))
theorem minL_spec : ∀ {l : List Int}, l ≠ [] → minL l ∈ l ∧ ∀ y ∈ l, minL l ≤ y
  | [], h => absurd rfl h
  | [a], _ => ⟨List.mem_cons_self, fun y hy => by rw [List.mem_singleton.mp hy]; exact Int.le_refl _⟩
  | a :: b :: r, _ => by
    obtain ⟨h1, h2⟩ := minL_spec (l := b :: r) (by simp)
    have e : minL (a :: b :: r) = min a (minL (b :: r)) := rfl
    rw [e]
    refine ⟨?_, fun y hy => ?_⟩
    · rcases Int.le_total a (minL (b :: r)) with z | z
      · rw [Int.min_eq_left z]; exact List.mem_cons_self
      · rw [Int.min_eq_right z]; exact List.mem_cons_of_mem _ h1
    · rcases List.mem_cons.mp hy with z | z
      · omega
      · have := h2 y z; omega
def needH (v : Dv) (N : Nat → Int) (a g : Nat) : Int := if g < a then min (N g + a - g) (roo v.1 (N g)) else if a < g then min (N g) (a + roo v.2 (N g - g)) else N a
def stepN (v : Dv) (R : Nat) (N : Nat → Int) (a : Nat) : Int := minL ((List.range (R + 1)).map (needH v N a))
def nrow (v : Dv) (R : Nat) (H : Int) : Nat → Nat → Int
  | 0, _ => H
  | k + 1, a => stepN v R (nrow v R H k) a
def goS (v : Dv) : Int → Nat → List Nat → Int × Nat
  | h, a, [] => (h, a)
  | h, a, g :: gs => goS v (reachH v h a g) g gs
section
variable {v : Dv} {R : Nat} {H : Int}
theorem needH_iff (ok : v.Ok) (N : Nat → Int) (h : Int) (a g : Nat) : needH v N a g ≤ h ↔ N g ≤ reachH v h a g := by
  have s0 := slk_nn ok.2 (h - (a : Int))
  unfold needH reachH
  by_cases q : g < a
  · rw [if_pos q, if_pos q]
    have r := roo_le ok.1 (N g) h
    have e : slk v.1 h = h - flo v.1 h := rfl
    rw [e]
    constructor
    · intro z
      rcases Int.le_total (N g + a - g) (roo v.1 (N g)) with y | y
      · rw [Int.min_eq_left y] at z; omega
      · rw [Int.min_eq_right y] at z
        have := r.mpr z
        omega
    · intro z
      by_cases y : N g ≤ flo v.1 h
      · have := r.mp y; omega
      · omega
  · rw [if_neg q, if_neg q]
    by_cases p : a < g
    · rw [if_pos p]
      have r := roo_le ok.2 (N g - g) (h - a)
      have e : slk v.2 (h - (a : Int)) = h - a - flo v.2 (h - a) := rfl
      rw [e] at s0 ⊢
      constructor
      · intro z
        rcases Int.le_total (N g) (a + roo v.2 (N g - g)) with y | y
        · rw [Int.min_eq_left y] at z; omega
        · rw [Int.min_eq_right y] at z
          have := r.mpr (by omega)
          omega
      · intro z
        by_cases y : N g - g ≤ flo v.2 (h - a)
        · have := r.mp y; omega
        · omega
    · have e : g = a := by omega
      subst e
      rw [if_neg p]
      omega
theorem range_ne (R : Nat) (f : Nat → Int) : (List.range (R + 1)).map f ≠ [] := by simp
theorem step_iff (ok : v.Ok) (N : Nat → Int) (h : Int) (a : Nat) : stepN v R N a ≤ h ↔ ∃ g, g ≤ R ∧ N g ≤ reachH v h a g := by
  obtain ⟨m1, m2⟩ := minL_spec (range_ne R (needH v N a))
  constructor
  · intro z
    obtain ⟨g, hg, e⟩ := List.mem_map.mp m1
    exact ⟨g, by have := List.mem_range.mp hg; omega, (needH_iff ok N h a g).mp (by rw [e]; exact z)⟩
  · rintro ⟨g, hg, z⟩
    have := m2 _ (List.mem_map.mpr ⟨g, List.mem_range.mpr (by omega), rfl⟩)
    have := (needH_iff ok N h a g).mpr z
    show minL _ ≤ h
    omega
theorem reach_own (ok : v.Ok) (h : Int) (a : Nat) : reachH v h a a = h := by
  have := slk_nn ok.2 (h - (a : Int))
  unfold reachH
  rw [if_neg (Nat.lt_irrefl _)]
  omega
/-! ### a measure of rows -/
def rowM (lo : Int) (f : Nat → Int) : Nat → Nat
  | 0 => 0
  | n + 1 => rowM lo f n + (f n - lo).toNat
/-! ### the greatest heights -/
/-! ### the least moves -/
inductive Grd (v : Dv) (R : Nat) (H : Int) : Nat → Int → Nat → List Nat → Prop
  | nil {h : Int} {a : Nat} : Grd v R H 0 h a []
  | cons {k : Nat} {h : Int} {a g : Nat} {gs : List Nat} (hg : g ≤ R) (hi : nrow v R H k g ≤ reachH v h a g) (lo : ∀ g', g' < g → ¬ nrow v R H k g' ≤ reachH v h a g') (t : Grd v R H k (reachH v h a g) g gs) : Grd v R H (k + 1) h a (g :: gs)
theorem Grd.len {k : Nat} {h : Int} {a : Nat} {gs : List Nat} (t : Grd v R H k h a gs) : gs.length = k := by
  induction t with
  | nil => rfl
  | cons _ _ _ _ ih => rw [List.length_cons, ih]
structure Few (v : Dv) (R : Nat) (H : Int) (k : Nat) (h : Int) (a : Nat) : Prop where
  hi : nrow v R H k a ≤ h
  lo : ∀ j, j < k → h < nrow v R H j a
theorem Few.next (ok : v.Ok) {k : Nat} {h : Int} {a g : Nat} (f : Few v R H (k + 1) h a) (hg : g ≤ R) (hi : nrow v R H k g ≤ reachH v h a g) : Few v R H k (reachH v h a g) g ∧ g ≠ a := by
  have key : ∀ j, j < k → reachH v h a g < nrow v R H j g := fun j hj => by
    rcases Int.lt_or_le (reachH v h a g) (nrow v R H j g) with z | z
    · exact z
    · have : nrow v R H (j + 1) a ≤ h := (step_iff ok _ _ _).mpr ⟨g, hg, z⟩
      have := f.lo (j + 1) (by omega)
      omega
  refine ⟨⟨hi, key⟩, fun e => ?_⟩
  subst e
  rw [reach_own ok] at hi
  have := f.lo k (Nat.lt_succ_self k)
  omega
def movesOf : Nat → List Nat → List Int
  | _, [] => []
  | a, g :: gs => ((g : Int) - (a : Int)) :: movesOf g gs
theorem reach_mv (ok : v.Ok) (h : Int) {a g : Nat} (ne : g ≠ a) : mv v (h, (a : Int)) ((g : Int) - (a : Int)) = (reachH v h a g, (g : Int)) := by
  unfold reachH
  by_cases q : g < a
  · rw [if_pos q, mv_down' (by omega)]
    refine Prod.ext ?_ (by show (a : Int) + ((g : Int) - a) = g; omega)
    show h - min (-((g : Int) - a)) (slk v.1 h) = h - min ((a : Int) - g) (slk v.1 h)
    congr 2
    omega
  · rw [if_neg q, mv_up' (by omega)]
    refine Prod.ext ?_ (by show (a : Int) + ((g : Int) - a) = g; omega)
    show h + ((g : Int) - a) - min ((g : Int) - a) (slk v.2 (h - a)) = h + max ((g : Int) - a - slk v.2 (h - a)) 0
    omega
end
end PD

/-! PD82: a loop over a list from its end -/
namespace PD
open PySem PySem.Spec PyProof.Rows L2 Evl
section
variable {c : Cn} {K : PySem.W.Frag} {ds : DS} {pl : List D} {t : TS} {E : EE}
end
end PD

/-! PD83: rows of heights as data; told best moves -/
namespace PD
open PySem PySem.Spec PyProof.Rows L2 Evl
abbrev rowI (R : Nat) (f : Nat → Int) : List Int := (List.range (R + 1)).map f
abbrev rowN (R : Nat) (f : Nat → Int) : D := .list ((rowI R f).map PyData.int)
def TellF (v : Dv) (R : Nat) (H h : Int) (a : Nat) (some' : Nat → D → Prop) (d : D) : Prop := (d = .none ∧ ∀ j, h < nrow v R H j a) ∨ ∃ k, k ≤ 10000 ∧ Few v R H k h a ∧ some' k d
end PD

/-! PD84: for over a range with a step; states of ways -/
namespace PD
open PySem PySem.Spec PyProof.Rows L2 Evl
section
variable {c : Cn} {K : PySem.W.Frag} {ds : DS} {pl : List D} {t : TS} {E : EE} {tr : TA}
end
section
variable {v : Dv} {R : Nat} {H : Int}
def statS (v : Dv) : Int → Nat → List Nat → List Sv
  | _, _, [] => []
  | h, a, g :: gs => (reachH v h a g, (g : Int)) :: statS v (reachH v h a g) g gs
def NoStay : Nat → List Nat → Prop
  | _, [] => True
  | a, g :: gs => g ≠ a ∧ NoStay g gs
theorem Grd.under (ok : v.Ok) {k : Nat} {h : Int} {a : Nat} {gs : List Nat} (aR : a ≤ R) (t : Grd v R H k h a gs) (f : Few v R H k h a) : ∀ s ∈ ((h, (a : Int)) :: statS v h a gs).dropLast, s.1 < H := by
  induction t with
  | nil => intro s hs; cases hs
  | @cons k h a g gs hg hi lo t ih =>
    obtain ⟨f2, ne⟩ := f.next ok hg hi
    intro s hs
    have e : ((h, (a : Int)) :: statS v h a (g :: gs)).dropLast = (h, (a : Int)) :: ((reachH v h a g, (g : Int)) :: statS v (reachH v h a g) g gs).dropLast := rfl
    rw [e] at hs
    rcases List.mem_cons.mp hs with z | z
    · rw [z]; exact f.lo 0 (Nat.succ_pos k)
    · exact ih hg f2 s z
end
end PD

/-! PD85: moves told in parts -/
namespace PD
open PySem PySem.Spec PyProof.Rows L2 Evl
end PD

/-! PD86: pumping as a way; a higher bar's rows; a way that climbs -/
namespace PD
open PySem PySem.Spec PyProof.Rows L2 Evl
section
variable {v : Dv} {R : Nat}
def altG (a g : Nat) : Nat → List Nat
  | 0 => []
  | n + 1 => altG a g n ++ [g, a]
end
end PD

/-! PD87: two names from a list of two; ways by one more -/
namespace PD
open PySem PySem.Spec PyProof.Rows L2 Evl
end PD

/-! PD88: the law's end with bounded cells; products of cells; a device upside down -/
namespace PD
open PySem PySem.Spec PyProof.Rows L2 Evl
open Builtin.Int (intBits)
section
variable {X : Cx}
end
section
variable {c : Cn} {K : PySem.W.Frag} {ds : DS} {Φ : W → List D → Prop}
end
section
variable {P : Program} {w : World} {K : PySem.W.Frag} {mg : Str → Option Value} {base : Heap} {f : Addr} {fd : FuncData} {ps : List Str} {k : Nat}
def spLawB (K : PySem.W.Frag) : Sp := fun vs H Q _ => ∃ (a : Addr) (ns : List Int), vs = [.ref a] ∧ SqL K H a (ns.map V.int) ∧ ns.length ≤ 63 ∧ (∀ z ∈ ns, intBits z ≤ 1048576) ∧ ∀ H', Q (.bl true) H'
end
/-! ### a device upside down -/
structure Ovr (R : Nat) (v u : Dv) : Prop where
  g : ∀ y, caught u.1 y = caught v.1 (-y)
  h : ∀ y, caught u.2 y = caught v.2 (-y - (R : Int))
theorem Ovr.symm {R : Nat} {v u : Dv} (o : Ovr R v u) : Ovr R u v := ⟨fun y => by rw [o.g, Int.neg_neg], fun y => by rw [o.h]; congr 1; omega⟩
section
variable {v u : Dv} {R : Nat}
def revG (R : Nat) : Nat → List Nat → List Nat
  | _, [] => []
  | a, g :: gs => revG R g gs ++ [R - a]
end
end PD

/-! PD89: a list from its end -/
namespace PD
open PySem PySem.Spec PyProof.Rows L2 Evl
/-! ### ways upside down, their moves and states -/
section
variable {v : Dv} {R : Nat}
def lastH : Nat → List Nat → Nat
  | a, [] => a
  | _, g :: gs => lastH g gs
end
end PD

/-! PD90: a comb upside down -/
namespace PD
open PySem PySem.Spec PyProof.Rows L2 Evl
end PD

/-! PD91: moves and rounds upside down -/
namespace PD
open PySem PySem.Spec PyProof.Rows L2 Evl
section
variable {v u : Dv}
end
end PD

/-! PD92: plain combs -/
namespace PD
open PySem PySem.Spec PyProof.Rows L2 Evl
def Plain (b : Comb) : Prop := b.Ok ∧ ∀ q, 1 ≤ q → q < b.p → b.p % q = 0 → ¬ Per b q
theorem per_own (b : Comb) : Per b b.p := fun n => by
  have := caught_up (c := b) n 1
  rw [Int.mul_one] at this
  exact this
theorem per_gcd {c : Comb} (p q : Nat) : Per c (p : Int) → Per c (q : Int) → Per c ((Nat.gcd p q : Nat) : Int) := by
  refine Nat.gcd.induction p q (fun n => ?_) fun m n m0 ih => ?_
  · intro _ hq
    rw [Nat.gcd_zero_left]
    exact hq
  · intro hm hn
    rw [Nat.gcd_rec]
    refine ih (fun x => ?_) hm
    have e := Int.emod_add_mul_ediv (n : Int) (m : Int)
    have e2 : ((n % m : Nat) : Int) = (n : Int) % (m : Int) := Int.natCast_emod n m
    rw [e2, show x + (n : Int) % (m : Int) = x + (n : Int) + (m : Int) * (-((n : Int) / (m : Int))) by rw [Int.mul_neg]; omega, hm.all, hn]
theorem Plain.uniq {b c : Comb} (pb : Plain b) (pc : Plain c) (same : ∀ n, caught b n = caught c n) : b = c := by
  have b1 := pb.1.p1
  have c1 := pc.1.p1
  have pcb : Per b c.p := fun n => by rw [same, same]; exact per_own c n
  have g := per_gcd (c := b) b.p.toNat c.p.toNat (by rw [Int.toNat_of_nonneg (by omega)]; exact per_own b) (by rw [Int.toNat_of_nonneg (by omega)]; exact pcb)
  obtain ⟨g9, hg9⟩ : ∃ y, Nat.gcd b.p.toNat c.p.toNat = y := ⟨_, rfl⟩
  have d1 : g9 ∣ b.p.toNat := by rw [← hg9]; exact Nat.gcd_dvd_left _ _
  have d2 : g9 ∣ c.p.toNat := by rw [← hg9]; exact Nat.gcd_dvd_right _ _
  have g1 : 0 < g9 := by rw [← hg9]; exact Nat.gcd_pos_of_pos_left _ (by omega)
  have l1 := Nat.le_of_dvd (by omega) d1
  have l2 := Nat.le_of_dvd (by omega) d2
  rw [hg9] at g
  have m1 : b.p % (g9 : Int) = 0 := by
    have := Int.natCast_emod b.p.toNat g9
    rw [Nat.mod_eq_zero_of_dvd d1, Int.toNat_of_nonneg (by omega)] at this
    exact this.symm
  have m2 : c.p % (g9 : Int) = 0 := by
    have := Int.natCast_emod c.p.toNat g9
    rw [Nat.mod_eq_zero_of_dvd d2, Int.toNat_of_nonneg (by omega)] at this
    exact this.symm
  have e1 : (g9 : Int) = b.p := by
    rcases Int.lt_or_eq_of_le (show (g9 : Int) ≤ b.p by omega) with z | z
    · exact absurd g (pb.2 g9 (by omega) z m1)
    · exact z
  have e2 : (g9 : Int) = c.p := by
    rcases Int.lt_or_eq_of_le (show (g9 : Int) ≤ c.p by omega) with z | z
    · exact absurd (fun n => by rw [← same, ← same]; exact g n) (pc.2 g9 (by omega) z m2)
    · exact z
  have ep : b.p = c.p := e1.symm.trans e2
  have et : b.ts = c.ts := asc_ext pb.1.up pc.1.up fun x => by
    constructor
    · intro hx
      have h0 := pb.1.low x hx
      have h1 := pb.1.high x hx
      exact (caught_in pc.1 h0 (by omega)).mp (by rw [← same]; exact (caught_in pb.1 h0 h1).mpr hx)
    · intro hx
      have h0 := pc.1.low x hx
      have h1 := pc.1.high x hx
      exact (caught_in pb.1 h0 (by omega)).mp (by rw [same]; exact (caught_in pc.1 h0 h1).mpr hx)
  cases b
  cases c
  cases ep
  cases et
  rfl
def AlkS (v : Dv) (s : Sv) (w : Dv) (t : Sv) : Prop := (∀ n, caught v.1 (n + s.1) = caught w.1 (n + t.1)) ∧ ∀ n, caught v.2 (n + (s.1 - s.2)) = caught w.2 (n + (t.1 - t.2))
end PD

/-! PD93: a comb seen from elsewhere -/
namespace PD
open PySem PySem.Spec PyProof.Rows L2 Evl
end PD

/-! PD94: new things handed back from within a loop; new plain combs -/
namespace PD
open PySem PySem.Spec PyProof.Rows L2 Evl
section
variable {c : Cn} {K : PySem.W.Frag} {ds : DS} {pl : List D} {t u : TS} {D' : Ends} {G0 : Hp} {E : EE} {tr : TA} {te : TE} {tt : TT}
end
/-! ### promises of new combs and devices -/
def underF : List D → (Hp → V → Prop) → Prop := fun ds k => ∃ a : List Int × Int, ds = [.list (a.1.map PyData.int), .int a.2] ∧ a.1.length ≤ 24 ∧ ∀ la, k (one la (.lst ((under a.1 a.2).map V.int))) (.ref la)
def PlC (c b : Comb) : Prop := b.Ok ∧ (∀ n, caught b n = caught c n) ∧ b.p ≤ c.p ∧ c.p % b.p = 0 ∧ ∀ q, 1 ≤ q → q < b.p → c.p % q = 0 → ¬ Per c q
def plainF : List D → (Hp → V → Prop) → Prop := fun ds k => ∃ c : Comb, ds = [c.d] ∧ c.Ok ∧ ∀ (b : Comb) a la, a ≠ la → PlC c b → k (combP b a la) (.ref a)
def shiftF : List D → (Hp → V → Prop) → Prop := fun ds k => ∃ z : Comb × Int, ds = [z.1.d, .int z.2] ∧ z.1.Ok ∧ ∀ (b : Comb) a la, a ≠ la → (Plain b ∧ ∀ n, caught b n = caught z.1 (n + z.2)) → k (combP b a la) (.ref a)
def PlD (v : Dv) (s : Sv) (b : Dv) : Prop := Plain b.1 ∧ Plain b.2 ∧ (∀ n, caught b.1 n = caught v.1 (n + s.1)) ∧ ∀ n, caught b.2 n = caught v.2 (n + (s.1 - s.2))
def devF (pre : Dv → Sv → Prop) : List D → (Hp → V → Prop) → Prop := fun ds k => ∃ z : Dv × Sv, ds = [z.1.d, z.2.d] ∧ pre z.1 z.2 ∧ ∀ (b : Dv) t a e la lb, Mir (b.2, b.1) t a e la lb → PlD z.1 z.2 b → k (mirP (b.2, b.1) t a e la lb) (.ref t)
end PD

/-! PD95: rows of catches; the least places that look alike -/
namespace PD
open PySem PySem.Spec PyProof.Rows L2 Evl
def catL (c : Comb) (s : Int) : List Bool := (List.range c.p.toNat).map fun (k : Nat) => caught c (s + (k : Int))
def begT (c : Comb) (s w : Int) : List Int := ((List.range w.toNat).filter fun (k : Nat) => caught c (s + (k : Int))).map fun (k : Nat) => (k : Int)
end PD

/-! PD96: rows of catches as data -/
namespace PD
open PySem PySem.Spec PyProof.Rows L2 Evl
end PD

/-! PD97: the least pitch is there -/
namespace PD
open PySem PySem.Spec PyProof.Rows L2 Evl
end PD

/-! PD98: combs that come again; plain combs at hand -/
namespace PD
open PySem PySem.Spec PyProof.Rows L2 Evl
def rptT (c : Comb) : Nat → List Int
  | 0 => []
  | i + 1 => rptT c i ++ c.ts.map fun t => (i : Int) * c.p + t
abbrev tenA : Comb := ⟨10, [0, 3]⟩
abbrev tenB : Comb := ⟨10, [0]⟩
abbrev tenC : Comb := ⟨10, [0, 7]⟩
abbrev tenD : Comb := ⟨10, [7]⟩
abbrev five : Comb := ⟨5, [0]⟩
end PD

/-! PD99: three in one assignment, all data -/
namespace PD
open PySem PySem.Spec PyProof.Rows L2 Evl
end PD

/-! PD100: two bars over one hand -/
namespace PD
open PySem PySem.Spec PyProof.Rows L2 Evl
def pl3 (v : Dv) (s : Sv) (g : Int) : D := .tuple [.int (plc v s).1, .int (plc v s).2, .int g]
def gapM (v : Dv) (s : Sv) (g : Int) (ms : List Int) : Int := (mvs v (s.1 + g, s.2) ms).1 - (mvs v s ms).1
end PD

/-! PD101: a dict of places that a loop fills; rounds of two bars -/
namespace PD
open PySem PySem.Spec PyProof.Rows L2 Evl
abbrev pkN (ks : List Int) : List Key := ks.map Sum.inl
section
variable {c : Cn} {K : PySem.W.Frag} {ds : DS} {pl : List D} {t u body : TS} {D' : Ends} {G0 : Hp} {E : EE} {tr : TA} {te : TE} {tt : TT} {Φ : W → List D → Prop}
end
/-! ### rounds of two bars -/
section
variable {v : Dv} {ms : List Int}
def gapR (v : Dv) (ms : List Int) (s : Sv) (g : Int) (i : Nat) : Int := (rp v ms (s.1 + g, s.2) i).1 - (rp v ms s i).1
def plcK (v : Dv) (ms : List Int) (s : Sv) (g : Int) (i : Nat) : List Int := [(plc v (rp v ms s i)).1, (plc v (rp v ms s i)).2, gapR v ms s g i]
def JoinR (v : Dv) (ms : List Int) (s : Sv) (g : Int) : Option Nat → Prop
  | some n => gapR v ms s g n = 0 ∧ ∀ i, i < n → gapR v ms s g i ≠ 0
  | none => ∀ i, gapR v ms s g i ≠ 0
def cod3 (v : Dv) (ms : List Int) (s : Sv) (g : Int) (i : Nat) : Int := ((gapR v ms s g i - lcmV v * (g / lcmV v)) * 24 + (plc v (rp v ms s i)).1) * 24 + (plc v (rp v ms s i)).2
end
end PD

/-! PD102: a test that hands back; the last statement of a loop's body -/
namespace PD
open PySem PySem.Spec PyProof.Rows L2 Evl
section
variable {c : Cn} {K : PySem.W.Frag} {ds : DS} {pl : List D} {t u : TS} {D' D2 : Ends} {G0 : Hp} {tt : TT}
end
end PD

/-! PD103: slacks within their list -/
namespace PD
open PySem PySem.Spec PyProof.Rows L2 Evl
end PD

/-! PD104: moves that join -/
namespace PD
open PySem PySem.Spec PyProof.Rows L2 Evl
def JoinM (v : Dv) (s : Sv) (g : Int) : Option (List Int) → Prop
  | some ms => gapM v s g ms = 0 ∧ (∀ m ∈ ms, m ≠ 0) ∧ ∀ ns : List Int, (∀ m ∈ ns, m ≠ 0) → gapM v s g ns = 0 → ms.length ≤ ns.length
  | none => ∀ ns : List Int, (∀ m ∈ ns, m ≠ 0) → gapM v s g ns ≠ 0
def oL : Option (List Int) → D
  | some ms => .list (ms.map PyData.int)
  | none => .none
end PD

/-! PD105: single moves enough -/
namespace PD
open PySem PySem.Spec PyProof.Rows L2 Evl
section
variable {v : Dv}
end
end PD

/-! PD106: gaps behind lists of moves; lists of single moves enough -/
namespace PD
open PySem PySem.Spec PyProof.Rows L2 Evl
section
variable {v : Dv}
def Single (A B : Nat) (m : Int) : Prop := (∃ k : Nat, k < A ∧ m = 1 + (k : Int)) ∨ ∃ k : Nat, k < B ∧ m = -(1 + (k : Int))
theorem Single.nz {A B : Nat} {m : Int} (h : Single A B m) : m ≠ 0 := by
  rcases h with ⟨k, _, e⟩ | ⟨k, _, e⟩ <;> omega
structure Lev (v : Dv) (A B : Nat) (s : Sv) (g : Int) (n : Nat) (P : (Int × Int) × Int) : Prop where
  ex : ∃ ms : List Int, ms.length = n ∧ (∀ m ∈ ms, Single A B m) ∧ (plc v (mvs v s ms), gapM v s g ms) = P ∧ gapM v s g ms < lcmV v
  least : ∀ ms : List Int, ms.length < n → (∀ m ∈ ms, Single A B m) → (plc v (mvs v s ms), gapM v s g ms) ≠ P
end
end PD

/-! PD107: {place: value}, its key a tuple -/
namespace PD
open PySem PySem.Spec PyProof.Rows L2 Evl
def tDisp1T (tk tv : TE) : TE := fun σ H Q => ∀ p, H p = none → tPairs [(tk, tv)] σ (upd H p (.dT [])) fun ps H2 => H2 p = some (.dT []) ∧ ∃ b k v, ps = [(V.ref b, v)] ∧ H2 b = some (.tup (k.map kV)) ∧ Q (.ref p) (upd H2 p (.dT [(k, v)]))
end PD

/-! PD108: the search by levels: each level from the one ahead, the first gap of 0 is the least -/
namespace PD
open PySem PySem.Spec PyProof.Rows L2 Evl
section
variable {v : Dv}
def pOf (v : Dv) (s : Sv) (g : Int) (ms : List Int) : (Int × Int) × Int := (plc v (mvs v s ms), gapM v s g ms)
end
end PD

/-! PD109: dicts of places whose values bear data: read, written, loops that see what is there -/
namespace PD
open PySem PySem.Spec PyProof.Rows L2 Evl
section
variable {c : Cn} {K : PySem.W.Frag} {ds : DS} {pl : List D} {t u body : TS} {D' : Ends} {G0 : Hp} {E : EE}
end
end PD

/-! PD110: the promise of a def that reads the way back out of a dict of places -/
namespace PD
open PySem PySem.Spec PyProof.Rows L2 Evl
inductive Bk (G : Hp) (kvs : List (List Key × V)) : List Int → List Int → Prop where
  | nil {ks : List Int} {x : V} (h : valV kvs (pkN ks) = some x) (r : R G x .none) : Bk G kvs ks []
  | cons {ks ks' : List Int} {m : Int} {ms : List Int} {x : V} (h : valV kvs (pkN ks) = some x) (r : R G x (.tuple [.tuple (ks'.map PyData.int), .int m])) (t : Bk G kvs ks' ms) : Bk G kvs ks (m :: ms)
def spBack : Sp := fun vs H Q _ => ∃ (G : Hp) (p : Addr) (kvs : List (List Key × V)) (ks ms : List Int) (vp : V), vs = [.ref p, vp] ∧ Ex G H ∧ G p = none ∧ H p = some (.dT kvs) ∧ R G vp (.tuple (ks.map PyData.int)) ∧ Bk G kvs ks ms ∧ ms.length ≤ 400000 ∧
  ∀ v G' H', Ex H H' → Ex G' H' → Ex G G' → (∀ a o, H a = some o → G a = none → G' a = none) → R G' v (.list (ms.reverse.map PyData.int)) → Q v H'
section
variable {P : Program} {w : World} {K : PySem.W.Frag} {mg : Str → Option Value} {base : Heap} {k : Nat} {f : Addr} {fd : FuncData} {ps : List Str}
end
end PD

/-! PD111: while, its invariant sees what is there; the way back, step by step -/
namespace PD
open PySem PySem.Spec PyProof.Rows L2 Evl
section
variable {c : Cn} {ds : DS} {pl : List D} {t u body : TS} {D' : Ends} {G0 : Hp}
end
end PD

/-! PD112: xs[::-1] of an owned list -/
namespace PD
open PySem PySem.Spec PyProof.Rows L2 Evl
end PD

/-! PD113: the last statement of a body, as one ahead of nothing -/
namespace PD
open PySem PySem.Spec PyProof.Rows L2 Evl
end PD

/-! PD114: what the way back hands back -/
namespace PD
open PySem PySem.Spec PyProof.Rows L2 Evl
section
variable {c : Cn} {ds : DS} {pl : List D} {D' : Ends} {G0 : Hp} {E : EE} {Ek : XK}
end
end PD

/-! PD115: for over a list of data beside a dict of places, the invariant sees what is there -/
namespace PD
open PySem PySem.Spec PyProof.Rows L2 Evl
section
variable {c : Cn} {K : PySem.W.Frag} {ds : DS} {pl : List D} {t u : TS} {D' : Ends} {G0 : Hp}
end
end PD

/-! PD116: an owned list that is changed no more: from now on data -/
namespace PD
open PySem PySem.Spec PyProof.Rows L2 Evl
section
variable {c : Cn} {ds : DS} {pl : List D} {t u : TS} {D' : Ends} {G0 : Hp} {E : EE}
end
end PD

/-! PD117: places of the search are few -/
namespace PD
open PySem PySem.Spec PyProof.Rows L2 Evl
section
variable {v : Dv}
def Rng (v : Dv) (P : (Int × Int) × Int) : Prop := 0 ≤ P.1.1 ∧ P.1.1 < 24 ∧ 0 ≤ P.1.2 ∧ P.1.2 < 24 ∧ 0 ≤ P.2 ∧ P.2 < lcmV v
end
end PD

/-! PD118: the state of the search; a place in a dict, as a test -/
namespace PD
open PySem PySem.Spec PyProof.Rows L2 Evl
section
variable {v : Dv}
def kn (P : (Int × Int) × Int) : List Int := [P.1.1, P.1.2, P.2]
def pD (P : (Int × Int) × Int) : D := .tuple ((kn P).map PyData.int)
def stp (v : Dv) (P : (Int × Int) × Int) (m : Int) : (Int × Int) × Int := pOf v (P.1.1, P.1.1 - P.1.2) P.2 [m]
structure Sr (v : Dv) (A B : Nat) (s : Sv) (g : Int) (n : Nat) (G : Hp) (kvs : List (List Key × V)) (L Lt : List ((Int × Int) × Int)) : Prop where
  nd : L.Nodup
  len : kvs.length = L.length
  keys : ∀ P, P ∈ L ↔ (valV kvs (pkN (kn P))).isSome = true
  ways : ∀ P, P ∈ L → ∃ ms : List Int, ms.length ≤ n + 1 ∧ (∀ m ∈ ms, Single A B m) ∧ pOf v s g ms.reverse = P ∧ Lev v A B s g ms.length P ∧ Bk G kvs (kn P) ms
  all : ∀ k P, k ≤ n → Lev v A B s g k P → P ∈ L
  lat : ∀ P, P ∈ Lt ↔ P ∈ L ∧ Lev v A B s g (n + 1) P
end
section
variable {c : Cn} {ds : DS} {pl : List D}
end
end PD

/-! PD119: ranges with ends of any size -/
namespace PD
open PySem PySem.Spec PyProof.Rows L2 Evl
def FarIt (it : Addr) (lo : Int) (n : Nat) (i : Nat) (h : Heap) : Prop := IsLongIter h it (lo + (i : Nat) * 1) ((n : Int) - (i : Nat)) 1
def iRngF (ta : TA) : TI := fun σ H R => ta σ H fun vs H1 => ∃ i j : Int, vs = [.int i, .int j] ∧ R (Itr i (j - i).toNat) H1
section
variable {c : Cn} {K : PySem.W.Frag} {ds : DS} {pl : List D} {Φ : W → List D → Prop} {te : TE} {tr : TA} {tt : TT} {E : EE} {t : TS}
end
end PD

/-! PD120: four names at once (a list, None, a list that is owned, a number); a gap of either sign -/
namespace PD
open PySem PySem.Spec PyProof.Rows L2 Evl
section
variable {v : Dv} {ms : List Int}
end
end PD

/-! PD121: rounds that join, told twice -/
namespace PD
open PySem PySem.Spec PyProof.Rows L2 Evl
section
variable {v : Dv} {ms : List Int}
end
end PD

/-! PD122: the narrow device of the joining laws -/
namespace PD
open PySem PySem.Spec PyProof.Rows L2 Evl
def narV : Dv := (⟨3, [0]⟩, ⟨5, [0]⟩)
end PD

/-! PD123: joined within a bound, by a table of all places -/
namespace PD
open PySem PySem.Spec PyProof.Rows L2 Evl
noncomputable def allB (f : Nat → Bool) (n : Nat) : Bool := Nat.rec true (fun k ih => and (f k) ih) n
def tS (T x : Nat) : Nat := Nat.mod (Nat.shiftRight T (Nat.mul 4 x)) 16
structure Tb where
  p : Nat
  q : Nat
  L : Nat
  T1 : Nat
  T2 : Nat
  e : Nat
def Tb.en (b : Tb) (h l g : Nat) : Nat := Nat.mod (Nat.shiftRight b.e (Nat.mul 10 (Nat.add (Nat.mul (Nat.add (Nat.mul g b.p) h) b.q) l))) 1024
def Tb.rk (b : Tb) (h l g : Nat) : Nat := Nat.div (b.en h l g) 32
def Tb.up (b : Tb) (h l g m : Nat) (k : Nat → Nat → Nat → Bool) : Bool :=
  k (Nat.mod (Nat.add h (Nat.sub m (tS b.T2 l))) b.p) (Nat.mod (Nat.sub (Nat.add l b.q) (Nat.sub m (Nat.sub m (tS b.T2 l)))) b.q) (Nat.sub (Nat.add g (Nat.sub m (tS b.T2 (Nat.mod (Nat.add l g) b.q)))) (Nat.sub m (tS b.T2 l)))
def Tb.dn (b : Tb) (h l g n : Nat) (k : Nat → Nat → Nat → Bool) : Bool :=
  k (Nat.mod (Nat.sub (Nat.add h b.p) (Nat.sub n (Nat.sub n (tS b.T1 h)))) b.p) (Nat.mod (Nat.add l (Nat.sub n (tS b.T1 h))) b.q) (Nat.sub (Nat.add g (Nat.sub n (Nat.sub n (tS b.T1 h)))) (Nat.sub n (Nat.sub n (tS b.T1 (Nat.mod (Nat.add h g) b.p)))))
def Tb.nev (b : Tb) (h l g : Nat) : Bool := or (Nat.ble b.L g) (and (Nat.ble 1 g) (Nat.beq (b.rk h l g) 31))
def Tb.les (b : Tb) (r h l g : Nat) : Bool := or (Nat.beq g 0) (and (Nat.ble (Nat.add g 1) b.L) (Nat.ble (Nat.add (b.rk h l g) 1) r))
def Tb.hd (b : Tb) (h l : Nat) : Bool := or (Nat.beq (tS b.T1 h) 0) (Nat.beq (tS b.T2 l) 0)
noncomputable def Tb.ok1 (b : Tb) (h l g : Nat) : Bool :=
  cond (Nat.beq (b.rk h l g) 31) (allB (fun m => or (Nat.beq m 0) (and (b.up h l g m b.nev) (b.dn h l g m b.nev))) (Nat.add b.p b.q))
    (cond (Nat.ble (Nat.mod (b.en h l g) 32) 15) (and (Nat.ble 1 (Nat.mod (b.en h l g) 32)) (b.up h l g (Nat.mod (b.en h l g) 32) (b.les (b.rk h l g))))
      (and (Nat.ble 17 (Nat.mod (b.en h l g) 32)) (b.dn h l g (Nat.sub (Nat.mod (b.en h l g) 32) 16) (b.les (b.rk h l g)))))
noncomputable def Tb.chk (b : Tb) : Bool :=
  allB (fun h => allB (fun l => cond (b.hd h l) (allB (fun g => or (Nat.beq g 0) (cond (b.hd (Nat.mod (Nat.add h g) b.p) (Nat.mod (Nat.add l g) b.q)) (b.ok1 h l g) true)) b.L) true) b.q) b.p
structure Rp (b : Tb) (v : Dv) (a c : Int) : Prop where
  ok : v.Ok
  p : v.1.p = b.p
  q : v.2.p = b.q
  f : ∀ x, slk v.1 x = (tS b.T1 ((x + a) % b.p).toNat : Nat)
  g : ∀ x, slk v.2 x = (tS b.T2 ((x + c) % b.q).toNat : Nat)
  L : lcmV v = b.L
structure Ab (b : Tb) (a c : Int) (s : Sv) (g : Int) (h l k : Nat) : Prop where
  h : (s.1 + a) % (b.p : Int) = h
  l : (lf s + c) % (b.q : Int) = l
  k : g = k
section
variable {b : Tb} {v : Dv} {a c : Int} {s : Sv} {g : Int} {h l k : Nat}
end
end PD

/-! PD124: two bars, whichever is lower; rounds as moves; moves that join, one by one -/
namespace PD
open PySem PySem.Spec PyProof.Rows L2 Evl
section
variable {v : Dv}
end
end PD

/-! PD125: two bars, upside down -/
namespace PD
open PySem PySem.Spec PyProof.Rows L2 Evl
def btwL (v : Dv) (a low high : Int) : List Int := ((List.range (high - low).toNat).map fun (k : Nat) => low + 1 + (k : Int)).filter fun h => held v (h, a)
def lstU (u : Dv) (e : Int) (ms : List Int) (h : Int) : Int := 0 - (mvs u (0 - h, 0 - e) ms.reverse).1
def ledL (u : Dv) (e : Int) (ms : List Int) (x y : Int) (hs : List Int) : List Int := hs.filter fun h => decide (x < lstU u e ms h) && decide (lstU u e ms h ≤ y)
section
variable {v u : Dv} (o : Ovr 0 v u) (ok : v.Ok) (ok' : u.Ok)
include o ok ok'
end
section
variable {v u : Dv} (o : Ovr 0 v u) (ok : v.Ok) (ok' : u.Ok) (e1 : u.1.p = v.1.p) (e2 : u.2.p = v.2.p) {ms : List Int} (s0 : ms.sum = 0)
include o ok ok' e1 e2 s0
end
end PD

/-! PD126: combs of one tooth: distances fall to multiples -/
namespace PD
open PySem PySem.Spec PyProof.Rows L2 Evl
def kF : Nat → Nat → Nat → Nat → Option Nat
  | 0, _, _, _ => none
  | n + 1, f, s, g => if g = 0 then some 0 else (kF n s f (g / f * f)).map (· + 1)
def kOk (p q g : Nat) : Bool := g % p != 0 || decide (Nat.lcm p q ≤ g) || (match kF 41 q p g with | some c => decide (c ≤ 40) | none => false)
section
variable {v : Dv} (ok : v.Ok) {t1 t2 : Int} (h1 : v.1.ts = [t1]) (h2 : v.2.ts = [t2])
include ok h1 h2
end
end PD

/-! PD127: list(range(a, b)), states compared -/
namespace PD
open PySem PySem.Spec PyProof.Rows L2 Evl
section
variable {c : Cn} {ds : DS} {pl : List D} {Φ : W → List D → Prop} {ta tb : TE}
def rgI (a b : Int) : List Int := (List.range (b - a).toNat).map fun (i : Nat) => a + (i : Int)
end
end PD

/-! PD128: devices of one tooth at 0 -/
namespace PD
open PySem PySem.Spec PyProof.Rows L2 Evl
def zeroV (p q : Nat) : Dv := (⟨p, [0]⟩, ⟨q, [0]⟩)
end PD

/-! PD129: defs that hand back a new list, or None -/
namespace PD
open PySem PySem.Spec PyProof.Rows L2 Evl
def noV (H G' H' : Hp) (v : V) : Option (List D) → Prop
  | none => v = .non
  | some xs => ∃ p us, v = .ref p ∧ H p = none ∧ G' p = none ∧ H' p = some (.lst us) ∧ RA G' us xs
def spNo (F : List D → (Option (List D) → Prop) → Prop) : Sp := fun vs H Q _ => ∃ G ds, Ex G H ∧ RA G vs ds ∧ F ds fun o => ∀ v G' H', Ex H H' → Ex G' H' → Ex G G' → (∀ a o, H a = some o → G a = none → G' a = none) → noV H G' H' v o → Q v H'
def noF {A : Type} (enc : A → List D) (pre : A → Prop) (post : A → Option (List D) → Prop) : List D → (Option (List D) → Prop) → Prop := fun ds k => ∃ a, ds = enc a ∧ pre a ∧ ∀ o, post a o → k o
def noW : Option (List D) → W
  | none => .d .none
  | some xs => .o xs
def noD : Option (List D) → D
  | none => .none
  | some xs => .list xs
abbrev rtNo (k : Option (List D) → Prop) : W → List D → Prop := fun w _ => match w with
  | .d .none => k none
  | .o xs => k (some xs)
  | _ => False
section
variable {c : Cn} {K : PySem.W.Frag} {ds : DS} {pl : List D} {tr : TA} {Φ : W → List D → Prop} {Ek : XK} {A : Type} {enc : A → List D} {pre : A → Prop} {post : A → Option (List D) → Prop}
end
section
variable {P : Program} {w : World} {K : PySem.W.Frag} {mg : Str → Option Value} {base : Heap} {k : Nat} {f : Addr} {fd : FuncData} {ps : List Str}
def spBackN : Sp := fun vs H Q _ => ∃ (G : Hp) (p : Addr) (kvs : List (List Key × V)) (ks ms : List Int) (vp : V), vs = [.ref p, vp] ∧ Ex G H ∧ G p = none ∧ H p = some (.dT kvs) ∧ R G vp (.tuple (ks.map PyData.int)) ∧ Bk G kvs ks ms ∧ ms.length ≤ 400000 ∧
  ∀ v G' H', Ex H H' → Ex G' H' → Ex G G' → (∀ a o, H a = some o → G a = none → G' a = none) → noV H G' H' v (some (ms.reverse.map PyData.int)) → Q v H'
end
section
variable {c : Cn} {ds : DS} {pl : List D} {D' : Ends} {G0 : Hp} {E : EE} {Ek : XK}
end
end PD

/-! PD130: rules for a search by layers: for with any target beside a dict, xs, d = e, {}, xs, n = [], n + 1 -/
namespace PD
open PySem PySem.Spec PyProof.Rows L2 Evl
section
variable {c : Cn} {K : PySem.W.Frag} {ds : DS} {pl : List D} {t u : TS} {D' : Ends} {G0 : Hp} {E : EE}
end
end PD

/-! PD131: a search by layers of heights: all places that so many single moves lead to -/
namespace PD
open PySem PySem.Spec PyProof.Rows L2 Evl
section
variable {v : Dv} {M : Nat} {palm x y : Int}
def kq (v : Dv) (q : Int × Int × Int) : (Int × Int) × Int := ((q.1 % v.1.p, (q.1 - q.2.2) % v.2.p), q.2.1 - q.1)
def triM (v : Dv) (palm x y : Int) (ns : List Int) : Int × Int × Int := ((mvs v (x, palm) ns).1, (mvs v (y, palm) ns).1, palm + ns.sum)
def Sgl (M : Nat) (ns : List Int) : Prop := ∀ m ∈ ns, Single M M m
def RN (v : Dv) (M : Nat) (palm x y : Int) (k : Nat) (P : (Int × Int) × Int) : Prop := ∃ ns : List Int, ns.length ≤ k ∧ Sgl M ns ∧ pOf v (x, palm) (y - x) ns = P
structure Bf (v : Dv) (M : Nat) (palm x y : Int) (n : Nat) (kvs : List (List Key × V)) (L : List ((Int × Int) × Int)) (qs : List (Int × Int × Int)) : Prop where
  nd : L.Nodup
  len : kvs.length = L.length
  keys : ∀ P, P ∈ L ↔ (valV kvs (pkN (kn P))).isSome = true
  got : ∀ P, P ∈ L → P.2 ≠ 0 ∧ RN v M palm x y n P
  all : ∀ P, RN v M palm x y n P → P ∈ L ∨ P = pOf v (x, palm) (y - x) []
  rep : ∀ q, q ∈ qs → ∃ ns : List Int, ns.length = n ∧ Sgl M ns ∧ q = triM v palm x y ns
  frn : ∀ P, RN v M palm x y n P → (∃ ns : List Int, ns.length < n ∧ Sgl M ns ∧ pOf v (x, palm) (y - x) ns = P) ∨ ∃ q, q ∈ qs ∧ kq v q = P
structure Bg (v : Dv) (M : Nat) (palm x y : Int) (n : Nat) (L : List ((Int × Int) × Int)) (kvs : List (List Key × V)) (L2 : List ((Int × Int) × Int)) (Lt : List (Int × Int × Int)) : Prop where
  nd : L2.Nodup
  len : kvs.length = L2.length
  keys : ∀ P, P ∈ L2 ↔ (valV kvs (pkN (kn P))).isSome = true
  sub : ∀ P, P ∈ L → P ∈ L2
  got : ∀ P, P ∈ L2 → P.2 ≠ 0 ∧ RN v M palm x y (n + 1) P
  new : ∀ P, P ∈ L2 → P ∈ L ∨ ∃ q, q ∈ Lt ∧ kq v q = P
  rep : ∀ q, q ∈ Lt → ∃ ns : List Int, ns.length = n + 1 ∧ Sgl M ns ∧ q = triM v palm x y ns
  cnt : L.length + Lt.length ≤ L2.length
end
end PD

/-! PD132: as few moves as join are no more than there are places -/
namespace PD
open PySem PySem.Spec PyProof.Rows L2 Evl
end PD

/-! PD133: for with any target over a tuple; a copy of an owned list -/
namespace PD
open PySem PySem.Spec PyProof.Rows L2 Evl
section
variable {c : Cn} {K : PySem.W.Frag} {ds : DS} {pl : List D} {t : TS} {E : EE}
end
end PD

/-! PD134: the search by layers as a function of its start: the same moves each time -/
namespace PD
open PySem PySem.Spec PyProof.Rows L2 Evl
abbrev Pp := ((Int × Int) × Int) × List Int
def stM (v : Dv) (q : Pp) (st : List Pp × List Pp) (m : Int) : List Pp × List Pp :=
  if (stp v q.1 m).2 < lcmV v ∧ stp v q.1 m ∉ st.1.map Prod.fst then (st.1 ++ [(stp v q.1 m, m :: q.2)], st.2 ++ [(stp v q.1 m, m :: q.2)]) else st
def stP (v : Dv) (SG : List Int) (st : List Pp × List Pp) (q : Pp) : List Pp × List Pp := SG.foldl (stM v q) st
def layS (v : Dv) (SG : List Int) (st : List Pp × List Pp) : List Pp × List Pp := st.2.foldl (stP v SG) (st.1, [])
def stN (v : Dv) (SG : List Int) (s : Sv) (g : Int) : Nat → List Pp × List Pp
  | 0 => ([(pOf v s g [], [])], [(pOf v s g [], [])])
  | n + 1 => layS v SG (stN v SG s g n)
def Jt (v : Dv) (SG : List Int) (s : Sv) (g : Int) : Option (List Int) → Prop
  | some ms => ∃ (n i : Nat) (q : Pp), (stN v SG s g n).2[i]? = some q ∧ q.1.2 = 0 ∧ (∀ (j : Nat) q', (stN v SG s g n).2[j]? = some q' → j < i → q'.1.2 ≠ 0) ∧ (∀ k, k < n → ∀ q', q' ∈ (stN v SG s g k).2 → q'.1.2 ≠ 0) ∧ ms = q.2.reverse
  | none => ∃ n : Nat, (stN v SG s g n).2 = [] ∧ ∀ k, k < n → ∀ q', q' ∈ (stN v SG s g k).2 → q'.1.2 ≠ 0
def SGl (A B : Nat) : List Int := (List.range A).map (fun (k : Nat) => 1 + (k : Int)) ++ (List.range B).map fun (k : Nat) => -(1 + (k : Int))
structure Szs (v : Dv) (A B : Nat) : Prop where
  a : ∀ n, slk v.2 n + v.1.p ≤ (A : Int)
  b : ∀ n, slk v.1 n + v.2.p ≤ (B : Int)
  a1 : ∃ n, slk v.2 n + v.1.p = (A : Int)
  b1 : ∃ n, slk v.1 n + v.2.p = (B : Int)
def JtS (v : Dv) (s : Sv) (g : Int) (o : Option (List Int)) : Prop := ∃ A B, Szs v A B ∧ Jt v (SGl A B) s g o
def Pt (v : Dv) (A B : Nat) (s : Sv) (g : Int) (G : Hp) (kvs : List (List Key × V)) (L : List Pp) : Prop := ∀ q ∈ L, Bk G kvs (kn q.1) q.2 ∧ pOf v s g q.2.reverse = q.1 ∧ ∀ m ∈ q.2, Single A B m
end PD

/-! PD135: the search goes as its function says -/
namespace PD
open PySem PySem.Spec PyProof.Rows L2 Evl
section
variable {v : Dv} {A B : Nat} {s : Sv} {g : Int} {SG : List Int}
def X1 (v : Dv) (A B : Nat) (s : Sv) (g : Int) (SG : List Int) (n : Nat) (G : Hp) (kvs : List (List Key × V)) (L Wt : List ((Int × Int) × Int)) : Prop :=
  ∃ L' Wt' : List Pp, stN v SG s g n = (L', Wt') ∧ L = L'.map Prod.fst ∧ Wt = Wt'.map Prod.fst ∧ Pt v A B s g G kvs L' ∧ (∀ q ∈ Wt', q ∈ L' ∧ q.2.length = n) ∧ ∀ k, k < n → ∀ q', q' ∈ (stN v SG s g k).2 → q'.1.2 ≠ 0
def X2 (v : Dv) (A B : Nat) (s : Sv) (g : Int) (SG : List Int) (n i : Nat) (G : Hp) (kvs : List (List Key × V)) (L Lt Wt : List ((Int × Int) × Int)) : Prop :=
  ∃ L0 Wt' L' Lt' : List Pp, stN v SG s g n = (L0, Wt') ∧ Wt = Wt'.map Prod.fst ∧ (Wt'.take i).foldl (stP v SG) (L0, []) = (L', Lt') ∧ L = L'.map Prod.fst ∧ Lt = Lt'.map Prod.fst ∧ Pt v A B s g G kvs L' ∧ (∀ q ∈ Wt', q ∈ L' ∧ q.2.length = n) ∧ (∀ q ∈ Lt', q ∈ L' ∧ q.2.length = n + 1) ∧
    ∀ k, k < n → ∀ q', q' ∈ (stN v SG s g k).2 → q'.1.2 ≠ 0
def X3 (v : Dv) (A B : Nat) (s : Sv) (g : Int) (SG : List Int) (n i j : Nat) (P : (Int × Int) × Int) (G : Hp) (kvs : List (List Key × V)) (L Lt Wt : List ((Int × Int) × Int)) : Prop :=
  ∃ (L0 Wt' L2 Lt2 L' Lt' : List Pp) (q : Pp), stN v SG s g n = (L0, Wt') ∧ Wt = Wt'.map Prod.fst ∧ Wt'[i]? = some q ∧ q.1 = P ∧ (Wt'.take i).foldl (stP v SG) (L0, []) = (L2, Lt2) ∧ (SG.take j).foldl (stM v q) (L2, Lt2) = (L', Lt') ∧ L = L'.map Prod.fst ∧ Lt = Lt'.map Prod.fst ∧ Pt v A B s g G kvs L' ∧
    (∀ q ∈ Wt', q ∈ L' ∧ q.2.length = n) ∧ (∀ q ∈ Lt', q ∈ L' ∧ q.2.length = n + 1) ∧ ∀ k, k < n → ∀ q', q' ∈ (stN v SG s g k).2 → q'.1.2 ≠ 0
variable {n i j : Nat} {P : (Int × Int) × Int} {G G' : Hp} {kvs : List (List Key × V)} {L Lt Wt : List ((Int × Int) × Int)}
theorem X1.go (h : X1 v A B s g SG n G kvs L Wt) : X2 v A B s g SG n 0 G kvs L [] Wt := by
  obtain ⟨L', Wt', a, b, c, d, f, z⟩ := h
  exact ⟨L', Wt', L', [], a, c, rfl, b, rfl, d, f, (fun q hq => nomatch hq), z⟩
theorem X2.go (h : X2 v A B s g SG n i G kvs L Lt Wt) (hP : Wt[i]? = some P) : X3 v A B s g SG n i 0 P G kvs L Lt Wt := by
  obtain ⟨L0, Wt', L', Lt', a, b, c, d, f, p, r⟩ := h
  have hP' := hP
  rw [b, List.getElem?_map] at hP'
  obtain ⟨q, hq, eq⟩ := Option.map_eq_some_iff.mp hP'
  exact ⟨L0, Wt', L', Lt', L', Lt', q, a, b, hq, eq, c, rfl, d, f, p, r⟩
end
end PD

/-! PD136: a pool made of a list written down -/
namespace PD
open PySem PySem.Spec PyProof.Rows L2 Evl
section
variable {c : Cn} {K : PySem.W.Frag} {ds : DS} {Φ : W → List D → Prop} {tr : TA}
end
/-! ### the narrow device of k24's law -/
def twoV : Dv := (⟨7, [0, 2]⟩, ⟨8, [0]⟩)
end PD

/-! PD137: comprehensions of pairs over a tuple -/
namespace PD
open PySem PySem.Spec PyProof.Rows L2 Evl
section
variable {c : Cn} {K : PySem.W.Frag} {ds : DS} {pl : List D} {Φ : W → List D → Prop} {te tl : TE} {tr : TA} {tt : TT} {σ : L2.St} {E : EE} {t : TS}
end
end PD

/-! PD138: set(a list of numbers) -/
namespace PD
open PySem PySem.Spec PyProof.Rows L2 Evl
abbrev bareSet (w : World) : Obj := { cls := .type "set", dict := none, data := .set #[] 0 (.fresh 0 0 (!w.params.followText "set-order")) }
section
variable {P : Program} {w : World} {A : Around} {E : Value → Shared → Prop} {s : Shared}
end
section
variable {X : Cx}
def rSetI (K : PySem.W.Frag) (w : World) : List V → Hp → VK → Prop := fun vs H Q => ∃ (l : Addr) (ns : List Int), vs = [V.ref l] ∧ SqL K H l (ns.map V.int) ∧ ns.length ≤ 1000 ∧
  ∀ (p : Addr) (n : Nat), H p = none → n ≤ ns.length → Q (.ref p) (upd H p (stO w p (fun j => decide (j ∈ ns), n)))
end
section
variable {c : Cn} {K : PySem.W.Frag} {ds : DS} {pl : List D} {Φ : W → List D → Prop} {te : TE} {w : World}
end
end PD

/-! PD139: catches by their numbers -/
namespace PD
open PySem PySem.Spec PyProof.Rows L2 Evl
def nthC (c : Comb) (i : Int) : Int := i / (c.ts.length : Int) * c.p + c.ts.getD (i % (c.ts.length : Int)).toNat 0
section
variable {c : Comb}
end
end PD

/-! PD140: catches in a row -/
namespace PD
open PySem PySem.Spec PyProof.Rows L2 Evl
def spots (c : Comb) (N : Nat) : List Int := ((List.range N).filter fun (j : Nat) => caught c (j : Int)).map fun (j : Nat) => (j : Int)
section
variable {c : Comb}
end
end PD

/-! PD141: a new comb that is kept and changed; plain combs -/
namespace PD
open PySem PySem.Spec PyProof.Rows L2 Evl
section
variable {c : Cn} {K : PySem.W.Frag} {ds : DS} {pl : List D} {t u : TS} {D' : Ends} {G0 : Hp} {E : EE} {Φ : W → List D → Prop} {tt : TT} {te : TE}
end
theorem PlC.plain {c b : Comb} (h : PlC c b) : Plain b := by
  obtain ⟨o, same, le, dv, least⟩ := h
  refine ⟨o, fun q q1 q2 qd pr => least q q1 q2 ?_ fun n => by rw [← same, ← same]; exact pr n⟩
  obtain ⟨k, hk⟩ := Int.dvd_of_emod_eq_zero qd
  obtain ⟨m, hm⟩ := Int.dvd_of_emod_eq_zero dv
  rw [hm, hk, Int.mul_assoc, Int.mul_emod_right]
theorem PlC.same {c b e : Comb} (h : PlC c b) (g : PlC c e) : e = b := g.plain.uniq h.plain fun n => by rw [g.2.1, h.2.1]
def plainB (b : Comb) : Bool := (List.range b.p.toNat).all fun q => decide (q = 0) || decide (b.p % (q : Int) ≠ 0) || (List.range b.p.toNat).any fun r => caught b ((r : Int) + q) != caught b (r : Int)
def sameB (b c : Comb) : Bool := decide (c.p % b.p = 0) && (List.range c.p.toNat).all fun r => caught b (r : Int) == caught c (r : Int)
end PD

/-! PD142: k02's written combs -/
namespace PD
open PySem PySem.Spec PyProof.Rows L2 Evl
def dbl (c : Comb) : Comb := ⟨2 * c.p, c.ts ++ c.ts.map (c.p + ·)⟩
def wc (p : Int) (ts : List Int) : Comb := ⟨p, ts⟩
end PD

/-! PD143: how many different numbers a list has: len(set(xs)) -/
namespace PD
open PySem PySem.Spec PyProof.Rows L2 Evl
def Diff (ns : List Int) (n : Nat) : Prop := ∃ ks : List Int, ks.Nodup ∧ (∀ k, k ∈ ks ↔ k ∈ ns) ∧ ks.length = n
section
variable {X : Cx}
def rSetC (K : PySem.W.Frag) (w : World) : List V → Hp → VK → Prop := fun vs H Q => ∃ (l : Addr) (ns : List Int), vs = [V.ref l] ∧ SqL K H l (ns.map V.int) ∧ ns.length ≤ 1000 ∧
  ∀ (p : Addr) (n : Nat), H p = none → Diff ns n → Q (.ref p) (upd H p (stO w p (fun j => decide (j ∈ ns), n)))
def rLenN (w : World) : List V → Hp → VK → Prop := fun vs H Q => ∃ (a : Addr) (t : (Int → Bool) × Nat), vs = [V.ref a] ∧ H a = some (stO w a t) ∧ t.2 ≤ 100000 ∧ Q (.int (t.2 : Nat)) H
end
section
variable {c : Cn} {K : PySem.W.Frag} {ds : DS} {pl : List D} {Φ : W → List D → Prop} {te : TE} {w : World}
end
end PD

/-! PD144: new lists of numbers kept as the rows of a new list, and changed -/
namespace PD
open PySem PySem.Spec PyProof.Rows L2 Evl
section
variable {c : Cn} {K : PySem.W.Frag} {ds : DS} {pl : List D} {t u : TS} {D' : Ends} {G0 : Hp} {E : EE} {Φ : W → List D → Prop} {tt : TT} {te : TE}
def WEW (c : Cn) (te : TE) (ds : DS) (pl : List D) (k : Hp → V → List D → Prop) : Prop := ∀ G σ H, HS c G σ H ds pl → ∀ Q : VK, (∀ P v G' H' pl', HS (c.pinP P) G' σ H' ds pl' → Ex G G' → Fresh c P → k P v pl' → Q v H') → te σ H Q
def WAW (c : Cn) (ta : TA) (ds : DS) (pl : List D) (k : Hp → List V → List D → Prop) : Prop := ∀ G σ H, HS c G σ H ds pl → ∀ Q : List V → Hp → Prop, (∀ P vs G' H' pl', HS (c.pinP P) G' σ H' ds pl' → Ex G G' → Fresh c P → k P vs pl' → Q vs H') → ta σ H Q
def noP : Hp := fun _ => none
end
end PD

/-! PD145: a kept list gets a number; each of its rows gets one more -/
namespace PD
open PySem PySem.Spec PyProof.Rows L2 Evl
section
variable {c : Cn} {K : PySem.W.Frag} {ds : DS} {pl : List D} {u : TS} {D' : Ends} {G0 : Hp}
def rowP (P : Hp) (f : Addr → List V) (x : V) (as : List Addr) : Hp := fun b => if b ∈ as then some (.lst (f b ++ [x])) else P b
end
end PD

/-! PD146: new lists handed on -/
namespace PD
open PySem PySem.Spec PyProof.Rows L2 Evl
section
variable {c : Cn} {K : PySem.W.Frag} {ds : DS} {pl : List D} {Φ : W → List D → Prop} {te : TE} {tt : TT} {tr : TA}
end
end PD

/-! PD147: the keys of a kept dict that pass, as a new list handed back -/
namespace PD
open PySem PySem.Spec PyProof.Rows L2 Evl
section
variable {c : Cn} {K : PySem.W.Frag} {ds : DS} {pl : List D} {D' : Ends} {G0 G H : Hp} {σ : L2.St} {E : EE} {Φ : W → List D → Prop} {te tk tv : TE} {tt : TT} {tr : TA} {j : Nat}
end
end PD

/-! PD148: owned lists: lent to an expression that makes a new list; moved from slot to slot -/
namespace PD
open PySem PySem.Spec PyProof.Rows L2 Evl
section
variable {c : Cn} {K : PySem.W.Frag} {ds : DS} {pl : List D} {t u : TS} {D' : Ends} {G0 : Hp} {E : EE} {Φ : W → List D → Prop} {tt : TT} {te : TE}
end
end PD

/-! PD149: sorted sets as owned lists; a number and a new list handed back together -/
namespace PD
open PySem PySem.Spec PyProof.Rows L2 Evl
section
variable {c : Cn} {K : PySem.W.Frag} {ds : DS} {pl : List D} {Φ : W → List D → Prop} {te tl : TE} {tt : TT} {σ : L2.St} {j : Nat} {w : World}
end
def tupP (k : Int) (ns : List Int) (t p : Addr) : Hp := fun b => if b = t then some (.tup [.int k, .ref p]) else if b = p then some (.lst (ns.map V.int)) else none
section
variable {c : Cn} {K : PySem.W.Frag} {ds : DS} {pl : List D} {u : TS} {D' : Ends} {G0 : Hp} {tr : TA}
end
end PD

/-! PD150: what settled hands back, taken apart -/
namespace PD
open PySem PySem.Spec PyProof.Rows L2 Evl
def settledF : List D → (Hp → V → Prop) → Prop := fun ds k => ∃ a : Dv × Int × List Int, ds = [a.1.d, .int a.2.1, .list (a.2.2.map PyData.int)] ∧ (a.1.Ok ∧ a.2.2.length ≤ 40 ∧ (∀ m ∈ a.2.2, m ≠ 0) ∧ a.2.2 ≠ [] ∧ a.2.2.sum = 0) ∧
  ∀ (n : Nat) t p, t ≠ p → Settle a.1 a.2.2 a.2.1 n → k (tupP (n : Int) (setl a.1 a.2.2 a.2.1 n) t p) (.ref t)
section
variable {c : Cn} {K : PySem.W.Frag} {ds : DS} {pl : List D} {E : EE} {Ek : XK} {tr : TA}
end
end PD

/-! PD151: a new list beside other owned lists -/
namespace PD
open PySem PySem.Spec PyProof.Rows L2 Evl
def WEO (c : Cn) (te : TE) (ds : DS) (pl : List D) (Φ : List D → List D → Prop) : Prop := ∀ G σ H, HS c G σ H ds pl → ∀ Q : VK, (∀ v G' H' xs pl', HS c G' σ H' ds pl' → Ex G G' → VW G' H' c v (.o xs) → (∀ (j : Nat) (ys : List D), ds[j]? = some (some (W.o ys)) → σ[j]? ≠ some (some v)) → Φ xs pl' → Q v H') → te σ H Q
section
variable {c : Cn} {K : PySem.W.Frag} {ds : DS} {pl : List D} {t u : TS} {D' : Ends} {G0 : Hp} {E : EE} {Φ : W → List D → Prop} {tt : TT} {te : TE}
end
end PD

/-! PD152: one number of settling rounds -/
namespace PD
open PySem PySem.Spec PyProof.Rows L2 Evl
end PD

/-! PD153: defs that change their second argument, a list -/
namespace PD
open PySem PySem.Spec PyProof.Rows L2 Evl
def spQ (F : D → List D → List D → (D → List D → Prop) → Prop) : Sp := fun vs H Q _ => ∃ G p v0 vs' us d0 pl ds, vs = v0 :: .ref p :: vs' ∧ Ex G H ∧ G p = none ∧ H p = some (.lst us) ∧ RA G us pl ∧ R G v0 d0 ∧ RA G vs' ds ∧ F d0 pl ds fun d pl' =>
  ∀ v G' H' us', (∀ a o, a ≠ p → H a = some o → H' a = some o) → Ex G' H' → Ex G G' → (∀ a o, H a = some o → G a = none → G' a = none) → H' p = some (.lst us') → RA G' us' pl' → R G' v d → Q v H'
section
variable {c : Cn} {K : PySem.W.Frag} {ds : DS} {pl : List D} {Φ : W → List D → Prop} {ta tb te : TE} {tr : TA} {G H : Hp} {σ : L2.St} {E : EE}
end
section
variable {P : Program} {w : World} {K : PySem.W.Frag} {mg : Str → Option Value} {base : Heap} {k : Nat} {f : Addr} {fd : FuncData} {ps : List Str}
def slotsQ (N : List Str) (d0 : D) (p : Addr) (ds : List D) : DS := some (.d d0) :: some (.v (.ref p)) :: (ds.map (fun x => some (W.d x)) ++ List.replicate (N.length - (ds.length + 2)) none)
end
def markL (bs : List Bool) (n : Nat) : List Int := ((List.range n).filter fun i => bs[i]? == some true).map fun (i : Nat) => (i : Int)
def roundOnF : D → List D → List D → (D → List D → Prop) → Prop := fun d0 pl ds k => ∃ (ls : List Int) (bs : List Bool), d0 = .list (ls.map PyData.int) ∧ pl = bs.map PyData.bool ∧ ds = [.int ((ls.length : Nat) : Int)] ∧ bs.length = ls.length ∧ 0 < ls.length ∧ ls.length ≤ 1000 ∧
  (∀ (i : Nat) (l : Int), ls[i]? = some l → bs[i]? = some true → bs[(l % (ls.length : Int)).toNat]? = some true) ∧ k (.list ((markL bs ls.length).map PyData.int)) pl
end PD

/-! PD154: settling by going round from all held heights -/
namespace PD
open PySem PySem.Spec PyProof.Rows L2 Evl
section
variable {v : Dv} {ms : List Int} {arm : Int}
end
end PD

/-! PD155: new lists kept in a new list: which are others than which; four answers in one list -/
namespace PD
open PySem PySem.Spec PyProof.Rows L2 Evl
section
variable {c : Cn} {K : PySem.W.Frag} {ds : DS} {pl : List D} {u : TS} {D' : Ends} {G0 : Hp}
def two2 (P : Hp) (x : V) (l1 l2 : List Int) : Prop := ∃ q p1 p2, x = .ref q ∧ P q = some (.lst [.ref p1, .ref p2]) ∧ P p1 = some (.lst (l1.map V.int)) ∧ P p2 = some (.lst (l2.map V.int)) ∧ p1 ≠ p2
def three3 (P : Hp) (x : V) (l1 l2 l3 : List Int) : Prop := ∃ q p1 p2 p3, x = .ref q ∧ P q = some (.lst [.ref p1, .ref p2, .ref p3]) ∧ P p1 = some (.lst (l1.map V.int)) ∧ P p2 = some (.lst (l2.map V.int)) ∧ P p3 = some (.lst (l3.map V.int)) ∧ p1 ≠ p2 ∧ p1 ≠ p3 ∧ p2 ≠ p3 ∧ p1 ≠ q ∧ p2 ≠ q ∧ p3 ≠ q
end
end PD

/-! PD156: the narrow device: settled heights -/
namespace PD
open PySem PySem.Spec PyProof.Rows L2 Evl
abbrev narT : List (Int × Nat × List Int) := [(6, 3, [9]), (7, 1, [0, 6, 12]), (10, 2, [0, 9])]
end PD

/-! PD157: defs that may raise; calls of them; try -/
namespace PD
open PySem PySem.Spec PyProof.Rows L2 Evl
structure FX (P : Program) (w : World) (K : PySem.W.Frag) (mg : Str → Option Value) (base : Heap) (k : Nat) (f : Addr) (fd : FuncData) (ps : List Str) (sp : Sp) : Prop where
  many : ∀ vs H Q E, sp vs H Q E → vs.length = ps.length
  goes : ∀ (B : Around) (fr : List Env) (s : Shared) (H : Hp) (ar : Args) (us : List Value) (vs : List V) (Q : VK) (E : XK), B.guards = some [] → Room k B → Env0 P w K mg base B fr s H →
    BindsTo s fd ar (ps.zip us) → Vals vs us → sp vs H Q E → codeAny (model P w) B (.call (.ref f) ar) (CR (L2.CX P w) fr P w H s Q E) s
section
variable {P : Program} {w : World} {K : PySem.W.Frag} {mg : Str → Option Value} {base : Heap} {k : Nat} {f : Addr} {fd : FuncData} {ps : List Str} {sp : Sp}
def DfX (P : Program) (w : World) (K : PySem.W.Frag) (mg : Str → Option Value) (base : Heap) (k : Nat) (name : Str) (ps : List Str) (sp : Sp) : Prop :=
  ∃ f fd, FX P w K mg base k f fd ps sp ∧ mg name = some (.ref f) ∧ PySem.W.keepIn K (.ref f) = true ∧ Binds K fd ps [] ∧ At0 K f fd
end
section
variable {X : Cx} {k : Nat} {f : Addr} {fd : FuncData} {ps : List Str} {sp : Sp} {W : WX} {x : Str} {p pos : Pos} {e : Expr} {es : List Expr} {t : TA}
def tCallX (sp : Sp) (W : WX) (t : TA) : TE := fun σ H Q => t σ H fun vs H1 => sp vs H1 Q (fun cls d H' => W cls d σ H')
end
/-! ### the promise: data, or an exception of one class; nothing that stood is changed -/
def spX (mg : Str → Option Value) (x : Str) (F : List D → (D → Prop) → Prop → Prop) : Sp := fun vs H Q E => ∃ G ds, Ex G H ∧ RA G vs ds ∧ F ds (fun d => ∀ v G' H', Ex H H' → Ex G' H' → Ex G G' → (∀ a o, H a = some o → G a = none → G' a = none) → R G' v d → Q v H')
  (∀ C H', mg x = some (.ref C) → Ex H H' → E (.ref C) none H')
def detX {A : Type} (enc : A → List D) (pre : A → Prop) (val : A → Option D) : List D → (D → Prop) → Prop → Prop := fun ds k e => ∃ a, ds = enc a ∧ pre a ∧ (val a = none → e) ∧ ∀ d, val a = some d → k d
section
variable {c : Cn} {K : PySem.W.Frag} {ds : DS} {pl : List D} {Φ : W → List D → Prop} {ta tb te : TE} {tr : TA} {mg : Str → Option Value} {x : Str} {W1 : WX}
end
section
variable {P : Program} {w : World} {K : PySem.W.Frag} {mg : Str → Option Value} {base : Heap} {k : Nat} {f : Addr} {fd : FuncData} {ps : List Str}
end
structure ExcOk (K : PySem.W.Frag) (mg : Str → Option Value) (x : Str) (C : Addr) : Prop where
  g : mg x = some (.ref C)
  x : PySem.W.excIn K C [.type "ValueError", .type "Exception", .type "BaseException", .type "object"] "ValueError.__new__" = true
  k : PySem.W.keepIn K (.ref C) = true
  b : PySem.W.subIn K (.ref C) (.type "BaseException") = some true
  t : PySem.W.typeIn K (.ref C) = some (.type "type")
  em : PySem.W.exmOne K (.ref C) (.ref C) = some true
end PD

/-! PD158: keyword calls of defs that may raise -/
namespace PD
open PySem PySem.Spec PyProof.Rows L2 Evl
section
variable {X : Cx} {k : Nat} {ps ks : List Str} {sp : Sp} {W : WX} {x : Str} {p pos : Pos} {tk : TA} {kws : List Keyword} {is : List Nat}
end
end PD

/-! PD159: an answer as related to the arguments, or the exception -/
namespace PD
open PySem PySem.Spec PyProof.Rows L2 Evl
def relX {A : Type} (enc : A → List D) (pre bad : A → Prop) (post : A → D → Prop) : List D → (D → Prop) → Prop → Prop := fun ds k e => ∃ a, ds = enc a ∧ pre a ∧ (bad a → e) ∧ (¬ bad a → ∀ d, post a d → k d)
section
variable {c : Cn} {ds : DS} {pl : List D} {Φ : W → List D → Prop} {tr : TA} {mg : Str → Option Value} {x : Str} {W1 : WX} {A : Type} {enc : A → List D} {pre bad : A → Prop} {post : A → D → Prop}
end
end PD

/-! PD160: places gone through from seven rounds further up; the least and the greatest rise -/
namespace PD
open PySem PySem.Spec PyProof.Rows L2 Evl
def placesL (v : Dv) (ns : List (Int × Int)) : List Sv := (startsL v).filterMap fun st => runN v (st.1 + 7 * v.1.p, st.1 + 7 * v.1.p - st.2) ns
end PD

/-! PD161: the narrow device: sure rises and ranges; one item for each item of a tuple -/
namespace PD
open PySem PySem.Spec PyProof.Rows L2 Evl
section
variable {c : Cn} {K : PySem.W.Frag} {ds : DS} {pl : List D} {Φ : W → List D → Prop} {tl te : TE}
end
def oZ : Option Int → D
  | some r => .int r
  | none => .none
instance (l : List Int) : Decidable (AllEq l) := by unfold AllEq; infer_instance
end PD

/-! PD162: try .. except x as e; isinstance of what was caught; the first move that tells -/
namespace PD
open PySem PySem.Spec PyProof.Rows L2 Evl
def onlyC (C : Addr) (ts : Addr → TS) : Addr → Value → Option Addr → TS := fun a cls d D σ H => (cls = .ref C ∧ d = none) ∧ ts a D σ H
section
variable {X : Cx} {x n : Str} {C : Addr} {i : Nat} {body suite : List Stmt} {b₀ : Stmt} {np pos pos' : Pos} {tb : WX → TS} {ts : Addr → TS} {Wout : WX}
end
section
variable {c : Cn} {K : PySem.W.Frag} {ds : DS} {pl : List D} {Φ : W → List D → Prop} {tr : TA} {mg : Str → Option Value} {x : Str} {G H : Hp} {σ : L2.St}
end
structure ExcAs (K : PySem.W.Frag) (mg : Str → Option Value) (x : Str) (C : Addr) : Prop where
  o : ExcOk K mg x C
  c : ExcC K C
  v : PySem.W.kitOne K (.ref C) (.type "ValueError") = some true
def bef (a b : Int) : Prop := a.natAbs < b.natAbs ∨ (a.natAbs = b.natAbs ∧ b < a)
def Tells (R : Int → List Int) (M : Nat) (d : D) : Prop := (d = .none ∧ ∀ m : Int, m ≠ 0 → m.natAbs ≤ M → AllEq (R m)) ∨ ∃ m : Int, d = .int m ∧ m ≠ 0 ∧ m.natAbs ≤ M ∧ ¬ AllEq (R m) ∧ ∀ z : Int, z ≠ 0 → bef z m → AllEq (R z)
end PD

/-! PD163: isinstance(e, ValueError) by the class's bases -/
namespace PD
open PySem PySem.Spec PyProof.Rows L2 Evl
end PD

/-! PD164: the first move that tells is one; devices of the telling law -/
namespace PD
open PySem PySem.Spec PyProof.Rows L2 Evl
def befs (m : Int) : List Int := ((List.range m.natAbs).map fun (k : Nat) => ((k : Int) + 1)) ++ (List.range m.natAbs).map fun (k : Nat) => -((k : Int) + 1)
instance (a b : Int) : Decidable (bef a b) := by unfold bef; infer_instance
def lonV : Dv := (⟨1, [0]⟩, ⟨24, [0]⟩)
def oneV : Dv := (⟨1, [0]⟩, ⟨1, [0]⟩)
abbrev lonT : List (List (Int × Int) × Int) := [([(22, 0), (-22, 0)], 23), ([(22, 0)], 1)]
abbrev narTl : List (List (Int × Int) × Option Int) := [([], some 1), ([(1, 1)], some (-1)), ([(1, 0)], some 1), ([(4, 1)], none), ([(1, 1), (-1, -1)], some (-1))]
end PD

/-! PD165: a device whose teeth are shifted -/
namespace PD
open PySem PySem.Spec PyProof.Rows L2 Evl
structure Shf (v u : Dv) (b m : Int) : Prop where
  p1 : u.1.p = v.1.p
  p2 : u.2.p = v.2.p
  g : ∀ y, caught u.1 (y + b) = caught v.1 y
  h : ∀ y, caught u.2 (y + m) = caught v.2 y
abbrev sh (b m : Int) (s : Sv) : Sv := (s.1 + b, s.2 + b - m)
section
variable {v u : Dv} {b m : Int} (o : Shf v u b m)
include o
theorem Shf.symm : Shf u v (-b) (-m) := ⟨o.p1.symm, o.p2.symm, fun y => by rw [← o.g, show y + -b + b = y by omega], fun y => by rw [← o.h, show y + -m + m = y by omega]⟩
end
end PD

/-! PD166: looks of shifted devices; a device times a number -/
namespace PD
open PySem PySem.Spec PyProof.Rows L2 Evl
structure Tms (v u : Dv) (n : Int) : Prop where
  n0 : 0 < n
  p1 : u.1.p = n * v.1.p
  p2 : u.2.p = n * v.2.p
  g : ∀ y, caught u.1 (n * y) = caught v.1 y
  g' : ∀ y, caught u.1 y = true → y % n = 0
  h : ∀ y, caught u.2 (n * y) = caught v.2 y
  h' : ∀ y, caught u.2 y = true → y % n = 0
abbrev tm (n : Int) (s : Sv) : Sv := (n * s.1, n * s.2)
theorem flo_tm {c d : Comb} (oc : c.Ok) (od : d.Ok) {n : Int} (n0 : 0 < n) (h : ∀ y, caught d (n * y) = caught c y) (h' : ∀ y, caught d y = true → y % n = 0) (x : Int) : flo d (n * x) = n * flo c x := by
  obtain ⟨a1, a2, a3⟩ := flo_spec oc x
  refine IsBelow.uniq (flo_spec od _) ⟨Int.mul_le_mul_of_nonneg_left a1 (by omega), by rw [h]; exact a2, fun y y1 y2 => ?_⟩
  cases e : caught d y with
  | false => rfl
  | true =>
    obtain ⟨z, rfl⟩ := Int.dvd_of_emod_eq_zero (h' y e)
    rw [h] at e
    have l1 : flo c x < z := Int.lt_of_mul_lt_mul_left y1 (by omega)
    have l2 : z ≤ x := Int.le_of_mul_le_mul_left y2 n0
    rw [a3 z l1 l2] at e
    cases e
theorem mul_max' {n a b : Int} (n0 : 0 < n) : n * max a b = max (n * a) (n * b) := by
  by_cases z : a ≤ b
  · have := Int.mul_le_mul_of_nonneg_left z (show 0 ≤ n by omega)
    rw [Int.max_eq_right z, Int.max_eq_right this]
  · have := Int.mul_le_mul_of_nonneg_left (show b ≤ a by omega) (show 0 ≤ n by omega)
    rw [Int.max_eq_left (show b ≤ a by omega), Int.max_eq_left this]
section
variable {v u : Dv} {n : Int} (o : Tms v u n)
include o
theorem Tms.mv (ok : v.Ok) (ou : u.Ok) (s : Sv) (k : Int) : PD.mv u (tm n s) (n * k) = tm n (PD.mv v s k) := by
  have f1 := flo_tm ok.1 ou.1 o.n0 o.g o.g'
  have f2 := flo_tm ok.2 ou.2 o.n0 o.h o.h'
  unfold PD.mv
  by_cases z : k > 0
  · have z' : n * k > 0 := Int.mul_pos o.n0 z
    rw [if_pos z, if_pos z']
    ext
    · show n * s.2 + n * k + max (n * s.1 - n * s.2 - n * k) (flo u.2 (n * s.1 - n * s.2)) = n * (s.2 + k + max (s.1 - s.2 - k) (flo v.2 (s.1 - s.2)))
      rw [← Int.mul_sub, f2, ← Int.mul_sub, ← mul_max' o.n0, Int.mul_add, Int.mul_add]
    · show n * s.2 + n * k = n * (s.2 + k)
      rw [Int.mul_add]
  · have z' : ¬ n * k > 0 := fun q => by
      have q2 := Int.mul_le_mul_of_nonneg_left (show k ≤ 0 by omega) (show 0 ≤ n by have := o.n0; omega)
      rw [Int.mul_zero] at q2
      omega
    rw [if_neg z, if_neg z']
    ext
    · show max (n * s.1 + n * k) (flo u.1 (n * s.1)) = n * max (s.1 + k) (flo v.1 s.1)
      rw [f1, ← Int.mul_add, mul_max' o.n0]
    · show n * s.2 + n * k = n * (s.2 + k)
      rw [Int.mul_add]
end
end PD

/-! PD167: best heights of a device times a number; combs shifted, and times a number -/
namespace PD
open PySem PySem.Spec PyProof.Rows L2 Evl
section
variable {v u : Dv} {N : Nat} (o : Tms v u (N : Int))
include o
theorem Tms.reach (ok : v.Ok) (ou : u.Ok) (h : Int) (a g : Nat) : reachH u ((N : Int) * h) (N * a) (N * g) = (N : Int) * reachH v h a g := by
  by_cases z : g = a
  · rw [z, reach_own ok, reach_own ou]
  · have n0 : 0 < N := by have := o.n0; omega
    have z' : N * g ≠ N * a := fun q => z (Nat.eq_of_mul_eq_mul_left n0 q)
    have e1 := reach_mv ok h z
    have e2 := reach_mv ou ((N : Int) * h) z'
    have e3 := Tms.mv o ok ou (h, (a : Int)) ((g : Int) - (a : Int))
    rw [e1] at e3
    have ea : (((N * a : Nat) : Int)) = (N : Int) * (a : Int) := Int.natCast_mul ..
    have eg : (((N * g : Nat) : Int)) = (N : Int) * (g : Int) := Int.natCast_mul ..
    rw [ea, eg, ← Int.mul_sub] at e2
    have e4 := e2.symm.trans e3
    exact congrArg Prod.fst e4
theorem Tms.go (ok : v.Ok) (ou : u.Ok) : ∀ (gs : List Nat) (h : Int) (a : Nat), goS u ((N : Int) * h) (N * a) (gs.map fun g => N * g) = ((N : Int) * (goS v h a gs).1, N * (goS v h a gs).2)
  | [], h, a => rfl
  | g :: gs, h, a => by
    show goS u (reachH u ((N : Int) * h) (N * a) (N * g)) (N * g) (gs.map fun g => N * g) = _
    rw [Tms.reach o ok ou]
    exact Tms.go ok ou gs _ _
end
def tmC (n : Int) (c : Comb) : Comb := ⟨n * c.p, c.ts.map fun t => n * t⟩
end PD

/-! PD168: a test that is asked at times, and says no -/
namespace PD
open PySem PySem.Spec PyProof.Rows L2 Evl
section
variable {c : Cn} {ds : DS} {pl : List D}
end
end PD

/-! PD169: two bars, times a number -/
namespace PD
open PySem PySem.Spec PyProof.Rows L2 Evl
end PD

/-! PD170: best heights are near -/
namespace PD
open PySem PySem.Spec PyProof.Rows L2 Evl
end PD

/-! PD171: the pitches of three laps -/
namespace PD
open PySem PySem.Spec PyProof.Rows L2 Evl
end PD

/-! PD172: objects: what stands of them beside the data, changed and read -/
namespace PD
open PySem PySem.Spec PyProof.Rows L2 Evl
abbrev Fs := Str → Option W
def noFs : Fs := fun _ => none
def setF (fs : Fs) (f : Str) (w : W) : Fs := fun g => if g = f then some w else fs g
def Dj (P G : Hp) : Prop := ∀ a o, P a = some o → G a = none
theorem Dj.symm {P G : Hp} (h : Dj P G) : Dj G P := fun a o q => by
  cases z : P a with
  | none => rfl
  | some u => rw [h a u z] at q; cases q
structure Ob where
  x : Addr
  C : Addr
  n : Nat
  fs : Fs
def FldOk (P G : Hp) (v : V) : W → Prop
  | .d x => R G v x
  | .o xs => ∃ p us, v = .ref p ∧ P p = some (.lst us) ∧ RA G us xs
  | .v x => v = x
def ObjAt (P G : Hp) (o : Ob) : Prop := ∃ dx vs, P o.x = some (.ins o.C dx vs) ∧ P dx = some (.own o.x) ∧ vs.length = o.n ∧ (∀ f, o.fs f = none → vs.lookup f = none) ∧ (∀ f w, o.fs f = some w → ∃ v, vs.lookup f = some v ∧ FldOk P G v w) ∧
  (∀ f g xs ys p, o.fs f = some (.o xs) → o.fs g = some (.o ys) → vs.lookup f = some (.ref p) → vs.lookup g = some (.ref p) → f = g)
def minus (P Q : Hp) : Hp := fun a => match Q a with
  | some _ => none
  | none => P a
def Sep (P G : Hp) : List Ob → Prop
  | [] => True
  | o :: r => ∃ P1 P2, Ex P1 P ∧ Ex P2 P ∧ Dj P1 P2 ∧ ObjAt P1 G o ∧ Sep P2 G r
/-! ### a context that bears objects -/
def Snap (c : Cn) (G0 : Hp) : Prop := ∀ a o, G0 a = some o → c.H0 a = some o ∧ ¬ c.hd a ∧ c.pool ≠ some a ∧ c.pin a = none
section
variable {c b : Cn} {K : PySem.W.Frag} {ds : DS} {pl : List D} {t u : TS} {D' : Ends} {G0 G H : Hp} {σ : L2.St} {E : EE} {Φ : W → List D → Prop} {te ta tb : TE} {tr : TA} {tt : TT}
def Cn.swap (c : Cn) (P1 P' G' : Hp) : Cn := { c with H0 := orP c.H0 G', pin := orP P' (minus c.pin P1) }
structure Objs (b c : Cn) (l : List Ob) : Prop where
  po : c.pool = b.pool
  hd : c.hd = b.hd
  h0 : Ex b.H0 c.H0
  ex : ∃ G0 P, Snap c G0 ∧ Ex P c.pin ∧ (∀ a o, b.pin a = some o → c.pin a = some o ∧ P a = none) ∧ (∀ a o, P a = some o → c.H0 a = none ∧ ¬ c.hd a ∧ c.pool ≠ some a) ∧ Sep P G0 l
end
end PD

/-! PD173: promises of methods and properties, and their calls -/
namespace PD
open PySem PySem.Spec PyProof.Rows L2 Evl
def spM (C : Addr) (F : Nat → Fs → List D → (D → Nat → Fs → Prop) → Prop) : Sp := fun vs H Q _ => ∃ G P x n fs vs' ds, vs = .ref x :: vs' ∧ Ex G H ∧ Ex P H ∧ Dj P G ∧ ObjAt P G ⟨x, C, n, fs⟩ ∧ RA G vs' ds ∧ F n fs ds fun d n' fs' => ∀ v P' G' H',
  (∀ a u, P a = none → H a = some u → H' a = some u) → Ex P' H' → (∀ a u, P' a = some u → (∃ u, P a = some u) ∨ H a = none) → Ex G' H' → Ex G G' → (∀ a u, P a = none → H a = some u → G a = none → G' a = none) → Dj P' G' → ObjAt P' G' ⟨x, C, n', fs'⟩ → R G' v d → Q v H'
def spG (C : Addr) (F : Nat → Fs → (D → Prop) → Prop) : Sp := fun vs H Q _ => ∃ G P x n fs, vs = [.ref x] ∧ Ex G H ∧ Ex P H ∧ Dj P G ∧ ObjAt P G ⟨x, C, n, fs⟩ ∧ F n fs fun d => ∀ v G' H', Ex H H' → Ex G' H' → Ex G G' → (∀ a u, H a = some u → G a = none → G' a = none) → R G' v d → Q v H'
section
variable {c b : Cn} {K : PySem.W.Frag} {ds : DS} {pl : List D} {t u : TS} {D' : Ends} {G0 G H : Hp} {σ : L2.St} {E : EE} {Φ : W → List D → Prop} {te ta tb : TE} {tr : TA} {tt : TT} {Ek : XK} {l : List Ob} {k i : Nat} {o : Ob} {C : Addr} {m f : Str}
/-! ### within a method -/
end
end PD

/-! PD174: methods run where nothing is shown; how methods begin and end; statements over objects -/
namespace PD
open PySem PySem.Spec PyProof.Rows L2 Evl
section
variable {X : Cx} {k : Nat} {f C : Addr} {fd : FuncData} {ps : List Str} {sp : Sp} {x m : Str} {p pos apos : Pos} {e o : Expr} {es : List Expr} {ta : TE} {t : TA}
theorem call_noguard {a : Args} : (Code.builtin "type.__call__" a).guards = [] := by
  unfold Code.guards
  rw [if_neg]
  show ¬ (guardIds.contains "type.__call__" = true)
  decide +kernel
end
/-! ### promises by class and name -/
section
variable (P : Program) (w : World) (K : PySem.W.Frag) (mg : Str → Option Value) (base : Heap) (k : Nat) (C : Addr)
def DfM (m : Str) (ps : List Str) (sp : Sp) : Prop := ∃ f fd, FG P w K mg base k f fd ps sp ∧ Meth K C m f ∧ Binds K fd ps []
def DfI (ps : List Str) (sp : Sp) : Prop := ∃ f fd, FG P w K mg base k f fd ps sp ∧ Mk K C f ∧ Binds K fd ps []
def DfG (m : Str) (ps : List Str) (sp : Sp) : Prop := ∃ f pp fd, FG P w K mg base k f fd ps sp ∧ PropOf K C m pp f ∧ Binds K fd ps []
end
section
variable {X : Cx} {k : Nat} {C : Addr} {ps : List Str} {sp : Sp} {x m : Str} {p pos apos : Pos} {e o : Expr} {es : List Expr} {ta : TE} {t : TA}
end
end PD

/-! PD175: how methods begin and end; a field set, a field's list grown; loops over objects -/
namespace PD
open PySem PySem.Spec PyProof.Rows L2 Evl
section
variable {P : Program} {w : World} {K : PySem.W.Frag} {mg : Str → Option Value} {base : Heap} {k : Nat} {f : Addr} {fd : FuncData} {ps : List Str}
end
section
variable {c b : Cn} {K : PySem.W.Frag} {ds : DS} {pl : List D} {t u : TS} {D' : Ends} {G0 G H : Hp} {σ : L2.St} {E : EE} {Φ : W → List D → Prop} {te ta tb tv : TE} {tr : TA} {tt : TT} {Ek : XK} {l : List Ob} {k i : Nat} {o : Ob} {C : Addr} {m f : Str}
def Ob.setN (o : Ob) (f : Str) : Nat := if (o.fs f).isSome then o.n else o.n + 1
/-! ### order and loops -/
end
end PD

/-! PD176: live bars -/
namespace PD
open PySem PySem.Spec PyProof.Rows L2 Evl
abbrev Plc := Int × Int × Comb
def plcD (t : Plc) : D := .tuple [.int t.1, .int t.2.1, t.2.2.d]
structure BS where
  gr : Comb
  calls : List D
  plcs : List Plc
def barF (s : BS) : Fs := fun f => if f = "_ground" then some (.d s.gr.d) else if f = "_calls" then some (.o s.calls) else if f = "_places" then some (.o (s.plcs.map plcD)) else none
abbrev FM := Nat → Fs → List D → (D → Nat → Fs → Prop) → Prop
abbrev FGt := Nat → Fs → (D → Prop) → Prop
def initF : FM := fun n fs ds k => n = 0 ∧ fs = noFs ∧ ∃ (v : Dv) (s : Sv), ds = [v.d, s.d] ∧ v.Ok ∧ held v s = true ∧ k .none 3 (barF ⟨v.1, [], [(s.1, s.2, v.2)]⟩)
def doneF : FM := fun n fs ds k => ∃ s c p, fs = barF s ∧ ds = [c, plcD p] ∧ s.calls.length < sizeLine ∧ s.plcs.length < sizeLine ∧ k .none n (barF ⟨s.gr, s.calls ++ [c], s.plcs ++ [p]⟩)
def pumpP (s : BS) (p : Plc) (span : Int) (times : Nat) : BS := ⟨s.gr, s.calls ++ [.tuple [.str "pump", .int span, .int (times : Int)]], s.plcs ++ [((rp (s.gr, p.2.2) [span, -span] (p.1, p.2.1) times).1, p.2.1, p.2.2)]⟩
def pumpF : FM := fun n fs ds k => ∃ s ps p span, ∃ times : Nat, fs = barF s ∧ s.plcs = ps ++ [p] ∧ ds = [.int span, .int (times : Int)] ∧ 1 ≤ span ∧ 1 ≤ times ∧ Dv.Ok (s.gr, p.2.2) ∧ span.natAbs < BB ∧ times < BB ∧ p.1.natAbs < BB ∧ s.calls.length < 1000 ∧ s.plcs.length < 1000 ∧
  k .none n (barF (pumpP s p span times))
def heightF : FGt := fun _ fs k => ∃ s ps p, fs = barF s ∧ s.plcs = ps ++ [p] ∧ k (.int p.1)
def handF : FGt := fun _ fs k => ∃ s ps p, fs = barF s ∧ s.plcs = ps ++ [p] ∧ k (.int p.2.1)
def difs : List Int → List Int
  | a :: b :: r => (b - a) :: difs (b :: r)
  | _ => []
def risesF : FGt := fun _ fs k => ∃ s, fs = barF s ∧ s.plcs.length < 1000 ∧ k (.list ((difs (s.plcs.map (·.1))).map PyData.int))
end PD

/-! PD177: a class as it stands at the top, and its methods -/
namespace PD
open PySem PySem.Spec PyProof.Rows L2 Evl
def clA (mg : Str → Option Value) (x : Str) : Addr := match mg x with
  | some (.ref a) => a
  | _ => 0
structure ClsTop (K : PySem.W.Frag) (mg : Str → Option Value) (x : Str) (fs : List Str) : Prop where
  at_ : mg x = some (.ref (clA mg x))
  cl : Cls K (clA mg x)
  na : ∀ f ∈ fs, NoAttr K (clA mg x) f
def HereM (K : PySem.W.Frag) (C : Addr) (m qual : Str) (st : Stmt) (ps : List Str) (f : Addr) (fd : FuncData) : Prop := Fun K m qual st f fd ∧ Meth K C m f ∧ Binds K fd ps []
def HereI (K : PySem.W.Frag) (C : Addr) (m qual : Str) (st : Stmt) (ps : List Str) (f : Addr) (fd : FuncData) : Prop := Fun K m qual st f fd ∧ Mk K C f ∧ Binds K fd ps []
def HereG (K : PySem.W.Frag) (C pp : Addr) (m qual : Str) (st : Stmt) (ps : List Str) (f : Addr) (fd : FuncData) : Prop := Fun K m qual st f fd ∧ PropOf K C m pp f ∧ Binds K fd ps []
end PD

/-! PD178: a comprehension over a range with a step -/
namespace PD
open PySem PySem.Spec PyProof.Rows L2 Evl
section
variable {c : Cn} {K : PySem.W.Frag} {ds : DS} {pl : List D} {Φ : W → List D → Prop} {te : TE} {tr : TA} {tt : TT} {j : Nat}
end
end PD

/-! PD179: ends, branches, rises -/
namespace PD
open PySem PySem.Spec PyProof.Rows L2 Evl
section
variable {c b : Cn} {K : PySem.W.Frag} {ds : DS} {pl : List D} {t u : TS} {D' D2 : Ends} {G0 : Hp} {E : EE} {Φ : W → List D → Prop} {te : TE} {tt : TT} {l : List Ob}
end
end PD

/-! PD180: loops over what a tuple bears; two bars over one hand -/
namespace PD
open PySem PySem.Spec PyProof.Rows L2 Evl
section
variable {c b : Cn} {K : PySem.W.Frag} {ds : DS} {pl : List D} {t u : TS} {D' : Ends} {G0 : Hp} {tl : TE}
end
end PD

/-! PD181: a field's list cut short, its length; more of live bars -/
namespace PD
open PySem PySem.Spec PyProof.Rows L2 Evl
section
variable {c b : Cn} {K : PySem.W.Frag} {ds : DS} {pl : List D} {t u : TS} {D' : Ends} {G0 G H : Hp} {σ : L2.St} {E : EE} {Φ : W → List D → Prop} {te ta tb tv : TE} {tr : TA} {tt : TT} {Ek : XK} {l : List Ob} {k i : Nat} {o : Ob} {C : Addr} {m f : Str}
end
end PD

/-! PD182: live bars moved, taken back, with another grip, their device -/
namespace PD
open PySem PySem.Spec PyProof.Rows L2 Evl
section
variable {c b : Cn} {K : PySem.W.Frag} {ds : DS} {pl : List D} {Φ : W → List D → Prop} {l : List Ob} {k i : Nat} {o : Ob} {f : Str}
end
def moveP (s : BS) (p : Plc) (by_ : Int) : BS := ⟨s.gr, s.calls ++ [.tuple [.str "move", .int by_]], s.plcs ++ [((mv (s.gr, p.2.2) (p.1, p.2.1) by_).1, (mv (s.gr, p.2.2) (p.1, p.2.1) by_).2, p.2.2)]⟩
def moveF : FM := fun n fs ds k => ∃ s ps p by_, fs = barF s ∧ s.plcs = ps ++ [p] ∧ ds = [.int by_] ∧ by_ ≠ 0 ∧ Dv.Ok (s.gr, p.2.2) ∧ s.calls.length < 1000 ∧ s.plcs.length < 1000 ∧ k .none n (barF (moveP s p by_))
def undoF : FM := fun n fs ds k => ∃ s cs c ps p, fs = barF s ∧ s.calls = cs ++ [c] ∧ s.plcs = ps ++ [p] ∧ ds = [] ∧ k .none n (barF ⟨s.gr, cs, ps⟩)
def gripP (s : BS) (p : Plc) (c : Comb) : BS := ⟨s.gr, s.calls ++ [.tuple [.str "grip", c.d]], s.plcs ++ [(p.1, p.2.1, c)]⟩
def gripF : FM := fun n fs ds k => ∃ s ps p, ∃ c : Comb, fs = barF s ∧ s.plcs = ps ++ [p] ∧ ds = [c.d] ∧ c.Ok ∧ s.gr.Ok ∧ held (s.gr, c) (p.1, p.2.1) = true ∧ s.calls.length < 1000 ∧ s.plcs.length < 1000 ∧ k .none n (barF (gripP s p c))
def deviceF : FGt := fun _ fs k => ∃ s ps p, fs = barF s ∧ s.plcs = ps ++ [p] ∧ k (Dv.d (s.gr, p.2.2))
end PD

/-! PD183: a method that hands back another object of its class -/
namespace PD
open PySem PySem.Spec PyProof.Rows L2 Evl
section
variable {c b : Cn} {K : PySem.W.Frag} {ds : DS} {pl : List D} {t u : TS} {D' : Ends} {G0 G H : Hp} {σ : L2.St} {E : EE} {Φ : W → List D → Prop} {te ta tb tv : TE} {tr : TA} {tt : TT} {Ek : XK} {C : Addr} {m f : Str}
end
def spK (C : Addr) (F : Nat → Fs → (Nat → Fs → Nat → Fs → Prop) → Prop) : Sp := fun vs H Q _ => ∃ G P x n fs, vs = [.ref x] ∧ Ex G H ∧ Ex P H ∧ Dj P G ∧ ObjAt P G ⟨x, C, n, fs⟩ ∧ F n fs fun n' fs' n2 fs2 => ∀ x2 P' P2 G' H',
  (∀ a u, P a = none → H a = some u → H' a = some u) → Ex P' H' → (∀ a u, P' a = some u → (∃ u, P a = some u) ∨ H a = none) → Ex P2 H' → (∀ a u, P2 a = some u → (∃ u, P a = some u) ∨ H a = none) → Dj P2 P' → Ex G' H' → Ex G G' →
  (∀ a u, P a = none → H a = some u → G a = none → G' a = none) → Dj P' G' → Dj P2 G' → ObjAt P' G' ⟨x, C, n', fs'⟩ → ObjAt P2 G' ⟨x2, C, n2, fs2⟩ → Q (.ref x2) H'
section
variable {c b : Cn} {K : PySem.W.Frag} {ds : DS} {pl : List D} {D' : Ends} {G0 : Hp} {Ek : XK} {l : List Ob} {k i j : Nat} {o : Ob} {C : Addr} {m f : Str}
end
section
variable {P : Program} {w : World} {K : PySem.W.Frag} {mg : Str → Option Value} {base : Heap} {k : Nat} {f : Addr} {fd : FuncData} {ps : List Str}
end
section
variable {c b : Cn} {K : PySem.W.Frag} {ds : DS} {pl : List D} {D' : Ends} {G0 : Hp} {l : List Ob} {k i : Nat} {o : Ob} {f : Str}
end
end PD

/-! PD184: live bars forked -/
namespace PD
open PySem PySem.Spec PyProof.Rows L2 Evl
abbrev FK := Nat → Fs → (Nat → Fs → Nat → Fs → Prop) → Prop
def forkF : FK := fun n fs k => ∃ s p ps, fs = barF s ∧ s.plcs = p :: ps ∧ Dv.Ok (s.gr, p.2.2) ∧ held (s.gr, p.2.2) (p.1, p.2.1) = true ∧ k n (barF s) 3 (barF s)
section
variable {c : Cn} {ds : DS} {pl : List D} {D' : Ends} {G0 : Hp} {i : Nat} {x : V}
end
end PD

/-! PD185: expressions and tests that change objects -/
namespace PD
open PySem PySem.Spec PyProof.Rows L2 Evl
def WEJ (c : Cn) (te : TE) (ds : DS) (pl : List D) (Φ : Cn → W → List D → Prop) : Prop := ∀ G σ H, HS c G σ H ds pl → ∀ Q : VK, (∀ v c' G' H' w pl', HS c' G' σ H' ds pl' → Ex G G' → VW G' H' c' v w → Φ c' w pl' → Q v H') → te σ H Q
def WTJ (c : Cn) (tt : TT) (ds : DS) (pl : List D) (Φ : Cn → Bool → List D → Prop) : Prop := ∀ G σ H, HS c G σ H ds pl → ∀ Q : Bool → Hp → Prop, (∀ k c' G' H' pl', HS c' G' σ H' ds pl' → Ex G G' → Φ c' k pl' → Q k H') → tt σ H Q
abbrev isDJ (k : Cn → D → List D → Prop) : Cn → W → List D → Prop := fun c w p => match w with
  | .d x => k c x p
  | _ => False
abbrev isBJ (k : Cn → Bool → List D → Prop) : Cn → W → List D → Prop := fun c w p => match w with
  | .d (.bool x) => k c x p
  | _ => False
section
variable {c b : Cn} {K : PySem.W.Frag} {ds : DS} {pl : List D} {t u : TS} {D' D2 : Ends} {G0 G H : Hp} {σ : L2.St} {E : EE} {Φ : Cn → W → List D → Prop} {Ψ : Cn → Bool → List D → Prop} {te ta tb : TE} {tr : TA} {tt tu : TT} {Ek : XK} {l : List Ob} {k i : Nat} {o : Ob} {C : Addr} {m : Str}
end
end PD

/-! PD186: the calls of live bars, told -/
namespace PD
open PySem PySem.Spec PyProof.Rows L2 Evl
def callOk (d : D) : Prop := (∃ by_ : Int, d = .tuple [.str "move", .int by_]) ∨ (∃ s t : Int, d = .tuple [.str "pump", .int s, .int t]) ∨ ∃ c : Comb, c.Ok ∧ d = .tuple [.str "grip", c.d]
def logF : FGt := fun _ fs k => ∃ s, fs = barF s ∧ s.calls.length < 1000 ∧ (∀ d ∈ s.calls, callOk d) ∧ k (.list s.calls)
end PD

/-! PD187: a law's def that has a live bar do a call -/
namespace PD
open PySem PySem.Spec PyProof.Rows L2 Evl
def lcallF : FM := fun n fs ds k => ∃ s ps p, fs = barF s ∧ s.plcs = ps ++ [p] ∧ Dv.Ok (s.gr, p.2.2) ∧ s.calls.length < 1000 ∧ s.plcs.length < 1000 ∧
  ((∃ by_ : Int, ds = [.tuple [.str "move", .int by_]] ∧ by_ ≠ 0 ∧ k (.bool true) n (barF (moveP s p by_))) ∨
   (∃ span : Int, ∃ times : Nat, ds = [.tuple [.str "pump", .int span, .int (times : Int)]] ∧ 1 ≤ span ∧ 1 ≤ times ∧ span.natAbs < BB ∧ times < BB ∧ p.1.natAbs < BB ∧ k (.bool true) n (barF (pumpP s p span times))) ∨
   ∃ c : Comb, ds = [.tuple [.str "grip", c.d]] ∧ c.Ok ∧ held (s.gr, c) (p.1, p.2.1) = true ∧ k (.bool true) n (barF (gripP s p c)))
end PD

/-! PD188: len of an object whose class says it -/
namespace PD
open PySem PySem.Spec PyProof.Rows L2 Evl
section
variable {prog : Program} {w : World} {A : Around} {E : Value → Shared → Prop} {s : Shared} {K : PySem.W.Frag} {a C f : Addr} {ox : Obj} {od : List (Str × Value)}
def SpecialDef (K : PySem.W.Frag) (C f : Addr) (name : Str) : Prop := PySem.W.findIn K (.ref C) name = some (some (.ref f)) ∧ PySem.W.isFn K (.ref f) = true
end
section
variable {X : Cx} {k : Nat} {C f : Addr} {fd : FuncData} {sp : Sp}
def rLenO (C : Addr) (sp : Sp) : List V → Hp → VK → Prop := fun xs H Q => ∃ a dx fs, xs = [.ref a] ∧ H a = some (.ins C dx fs) ∧ sp [.ref a] H (fun v H' => ∃ n : Int, v = .int n ∧ 0 ≤ n ∧ n < 2 ^ 63 ∧ Q (.int n) H') E0
end
section
variable {X : Cx} {k : Nat} {C : Addr} {sp : Sp} {p pos : Pos} {e : Expr} {t : TA}
end
section
variable {c b : Cn} {ds : DS} {pl : List D} {Φ : W → List D → Prop} {l : List Ob} {k i : Nat} {o : Ob} {C : Addr}
end
def lenF : FGt := fun _ fs k => ∃ s, fs = barF s ∧ s.calls.length < 1000 ∧ k (.int (s.calls.length : Int))
end PD

/-! PD189: all that a live bar tells -/
namespace PD
open PySem PySem.Spec PyProof.Rows L2 Evl
def toldD (s : BS) (p : Plc) : D := .list [.int p.1, .int p.2.1, Dv.d (s.gr, p.2.2), .list ((difs (s.plcs.map (·.1))).map PyData.int), .list s.calls, .int (s.calls.length : Int)]
def toldF : FGt := fun _ fs k => ∃ s ps p, fs = barF s ∧ s.plcs = ps ++ [p] ∧ s.calls.length < 1000 ∧ s.plcs.length < 1000 ∧ (∀ d ∈ s.calls, callOk d) ∧ okD 20 (toldD s p) ∧ cnt (toldD s p) ≤ 60000 ∧ k (.str (toldD s p).shown)
end PD

/-! PD190: plain defs that are given an object and change nothing -/
namespace PD
open PySem PySem.Spec PyProof.Rows L2 Evl
section
variable {P : Program} {w : World} {K : PySem.W.Frag} {mg : Str → Option Value} {base : Heap} {k : Nat} {f : Addr} {fd : FuncData} {ps : List Str}
end
end PD

/-! PD191: the calls of a live bar as data of their own; the bar behind calls -/
namespace PD
open PySem PySem.Spec PyProof.Rows L2 Evl
inductive BCall where
  | move (m : Int)
  | pump (s : Int) (t : Nat)
  | grip (c : Comb)
def BCall.d : BCall → D
  | .move m => .tuple [.str "move", .int m]
  | .pump s t => .tuple [.str "pump", .int s, .int (t : Int)]
  | .grip c => .tuple [.str "grip", c.d]
def BCall.Ok : BCall → Prop
  | .move m => m ≠ 0
  | .pump s t => 1 ≤ s ∧ 1 ≤ t
  | .grip c => c.Ok
def BCall.go (g : Comb) (p : Plc) : BCall → Plc
  | .move m => ((mv (g, p.2.2) (p.1, p.2.1) m).1, (mv (g, p.2.2) (p.1, p.2.1) m).2, p.2.2)
  | .pump s t => ((rp (g, p.2.2) [s, -s] (p.1, p.2.1) t).1, p.2.1, p.2.2)
  | .grip c => (p.1, p.2.1, c)
def lastOf (g : Comb) (p : Plc) (cs : List BCall) : Plc := cs.foldl (fun p c => c.go g p) p
def plcsOf (g : Comb) : Plc → List BCall → List Plc
  | p, [] => [p]
  | p, c :: cs => p :: plcsOf g (c.go g p) cs
def barOf (v : Dv) (s : Sv) (cs : List BCall) : BS := ⟨v.1, cs.map BCall.d, plcsOf v.1 (s.1, s.2, v.2) cs⟩
section
variable (v : Dv) (s : Sv) (cs : List BCall)
end
end PD

/-! PD192: what is behind calls, as the laws keep it -/
namespace PD
open PySem PySem.Spec PyProof.Rows L2 Evl
section
variable (v : Dv) (s : Sv) (cs : List BCall)
abbrev endOf : Plc := lastOf v.1 (s.1, s.2, v.2) cs
def aftD : D := .tuple [Dv.d (v.1, (endOf v s cs).2.2), .list ((difs ((plcsOf v.1 (s.1, s.2, v.2) cs).map (·.1))).map PyData.int), Sv.d ((endOf v s cs).1, (endOf v s cs).2.1)]
end
end PD

/-! PD193: calls kept with what is behind them -/
namespace PD
open PySem PySem.Spec PyProof.Rows L2 Evl
section
variable (v : Dv) (s : Sv)
def doneL (cs : List BCall) : List D := (List.range cs.length).map fun i => .tuple [((cs[i]?.map BCall.d).getD .none), aftD v s (cs.take (i + 1))]
end
end PD

/-! PD194: list(zip(xs, ys)), xs and ys lists -/
namespace PD
open PySem PySem.Spec PyProof.Rows L2 Evl
abbrev ZHeld (h : Heap) (z TI TO T : Addr) (f : Bool) : Prop := h.get? z = some { cls := .type "zip", dict := none, data := .fields #[rawInt T, .bool f, .bool false, .ref TI, .ref TO], slots := #[] }
section
variable {prog : Program} {w : World} {A : Around} {E : Value → Shared → Prop} {s : Shared}
def ZSt (h : Heap) (z TI TO i1 i2 l1 l2 S : Addr) (i : Nat) : Prop :=
  IsPair h TI (.ref i1) (.ref i2) ∧ (∃ a b, IsPair h TO a b) ∧ h.IsListIter i1 l1 i ∧ h.IsListIter i2 l2 i ∧ (IsZip h z TI TO .none ∨ ∃ T f o, ZHeld h z TI TO T f ∧ h.get? T = some o ∧ T ≠ z ∧ T ≠ TO ∧ T ≠ i1 ∧ T ≠ i2 ∧ T ≠ S)
structure ZG (xs ys : Array Value) (lo : Addr) (h : Heap) (as : List Addr) : Prop where
  rise : as.Pairwise (· < ·)
  above : ∀ a ∈ as, lo < a
  pairs : ∀ (j : Nat) (a : Addr), as[j]? = some a → ∃ x y, xs[j]? = some x ∧ ys[j]? = some y ∧ IsPair h a x y
end
section
variable {prog : Program} {w : World} {A : Around} {s : Shared} {R : Result → Shared → Prop} {xs ys : Array Value} {z TI TO i1 i2 l1 l2 : Addr}
end
section
variable {prog : Program} {w : World} {A : Around} {E : Value → Shared → Prop} {s : Shared} {xs ys : Array Value} {z TI TO i1 i2 l1 l2 : Addr}
end
def putZ : Hp → List Addr → List (V × V) → Hp
  | H, a :: as, p :: ps => putZ (upd H a (.tup [p.1, p.2])) as ps
  | H, _, _ => H
section
variable {X : Cx}
def tLstZip (K : PySem.W.Frag) (tr : TA) : TE := fun σ H Q => tr σ H fun vs H1 => ∃ (a b : Addr) (us ws : List V), vs = [.ref a, .ref b] ∧ SqL K H1 a us ∧ SqL K H1 b ws ∧
  ∀ (S : Addr) (as : List Addr), H1 S = none → (∀ t ∈ as, H1 t = none) → S ∉ as → as.Nodup → as.length = (us.zip ws).length → Q (.ref S) (putZ (upd H1 S (.lst (as.map V.ref))) as (us.zip ws))
end
section
variable {c : Cn} {K : PySem.W.Frag} {ds : DS} {pl : List D} {Φ : W → List D → Prop} {tr : TA} {G H : Hp} {σ : L2.St}
end
end PD

/-! PD195: objects made within assignments of more names; for over a range with objects -/
namespace PD
open PySem PySem.Spec PyProof.Rows L2 Evl
section
variable {c b : Cn} {K : PySem.W.Frag} {ds : DS} {pl : List D} {t u : TS} {D' : Ends} {G0 G H : Hp} {σ : L2.St} {E : EE} {te ta tb : TE} {tr : TA} {tt : TT} {Ek : XK} {l : List Ob} {k i : Nat} {o : Ob} {C : Addr} {m f : Str}
end
end PD

/-! PD196: live bars that were only moved -/
namespace PD
open PySem PySem.Spec PyProof.Rows L2 Evl
end PD

/-! PD197: rounds far away from any two that stand alike; a dict of numbers and a list, filled as long as two things hold -/
namespace PD
open PySem PySem.Spec PyProof.Rows L2 Evl
section
variable {c : Cn} {K : PySem.W.Frag} {ds : DS} {pl : List D} {t u body : TS} {D' : Ends} {G0 : Hp} {E : EE} {Φ : W → List D → Prop} {te tk tv : TE} {tr : TA} {tt : TT}
end
end PD

/-! PD198: an item of a list by a number from 0 on -/
namespace PD
open PySem PySem.Spec PyProof.Rows L2 Evl
end PD

/-! PD199: calls that are taken, one behind the other -/
namespace PD
open PySem PySem.Spec PyProof.Rows L2 Evl
def BCall.May (g : Comb) (p : Plc) : BCall → Prop
  | .move m => m.natAbs ≤ 10 ^ 40
  | .pump w t => w.natAbs ≤ 10 ^ 20 ∧ t ≤ 10 ^ 20
  | .grip cb => held (g, cb) (p.1, p.2.1) = true
inductive Calls (v : Dv) (s : Sv) : List BCall → Prop
  | nil : v.Ok → held v s = true → s.1.natAbs ≤ 10 ^ 42 → s.2.natAbs ≤ 10 ^ 42 → Calls v s []
  | step {cs : List BCall} {c : BCall} : Calls v s cs → c.Ok → c.May v.1 (endOf v s cs) → Calls v s (cs ++ [c])
section
variable {v : Dv} {s : Sv} {cs : List BCall} {c : BCall}
theorem okD_int {n : Nat} {z : Int} {B : Nat} (h : z.natAbs ≤ B) (hB : B < 10 ^ 150) : PD.okD n (.int z) := by
  cases n <;> exact Nat.lt_of_le_of_lt h hB
end
end PD

/-! PD200: ways of a def that meet; combs with a tooth more -/
namespace PD
open PySem PySem.Spec PyProof.Rows L2 Evl
section
variable {c : Cn} {ds : DS} {pl : List D} {t u : TS} {E : EE}
theorem ws_seqJ (J : DS → List D → Prop) (h : WS c t ds pl { E with nx := J }) (k : ∀ ds' pl', J ds' pl' → WS c u ds' pl' E) : WS c (tSeq t u) ds pl E := ws_seq (ws_mono h k (fun _ _ q => q) (fun _ _ q => q) fun _ _ q => q)
end
end PD

/-! PD201: == of objects whose class says it -/
namespace PD
open PySem PySem.Spec PyProof.Rows L2 Evl
def spE (C : Addr) (F : Nat → Fs → Nat → Fs → (D → Prop) → Prop) : Sp := fun vs H Q _ => ∃ G P1 P2 x n fs y m gs, vs = [.ref x, .ref y] ∧ Ex G H ∧ Ex P1 H ∧ Ex P2 H ∧ Dj P1 G ∧ Dj P2 G ∧ ObjAt P1 G ⟨x, C, n, fs⟩ ∧ ObjAt P2 G ⟨y, C, m, gs⟩ ∧
  F n fs m gs fun d => ∀ v G' H', Ex H H' → Ex G' H' → Ex G G' → (∀ a u, H a = some u → G a = none → G' a = none) → R G' v d → Q v H'
def rEqO (C : Addr) (sp : Sp) : R2 := fun x y H Q => ∃ a b dx dy fs gs, x = .ref a ∧ y = .ref b ∧ H a = some (.ins C dx fs) ∧ H b = some (.ins C dy gs) ∧ sp [.ref a, .ref b] H (fun v H' => ∃ t : Bool, v = .bl t ∧ Q (.bl t) H') E0
section
variable {X : Cx} {k : Nat} {C f : Addr} {fd : FuncData} {sp : Sp}
end
section
variable {c b : Cn} {K : PySem.W.Frag} {ds : DS} {pl : List D} {t u : TS} {D' : Ends} {G0 G H : Hp} {σ : L2.St} {E : EE} {Φ : Cn → W → List D → Prop} {Ψ : W → List D → Prop} {te ta tb : TE} {i j : Nat} {C x y : Addr} {l l2 : List Ob} {b2 : Cn} {kx ky : Nat} {ox oy : Ob} {f g : Str}
end
/-! ### the body of an own == -/
def slotsE (N : List Str) (x y : Addr) : DS := some (.v (.ref x)) :: some (.v (.ref y)) :: List.replicate (N.length - 2) none
section
variable {P : Program} {w : World} {K : PySem.W.Frag} {mg : Str → Option Value} {base : Heap} {k : Nat} {f : Addr} {fd : FuncData}
end
/-! ### live bars -/
def eqF : Nat → Fs → Nat → Fs → (D → Prop) → Prop := fun _ fs _ gs k => ∃ s1 p1 r1 s2 p2 r2, fs = barF s1 ∧ gs = barF s2 ∧ s1.plcs = p1 :: r1 ∧ s2.plcs = p2 :: r2 ∧ okD 20 s1.gr.d ∧ okD 20 s2.gr.d ∧ okD 20 (plcD p1) ∧ okD 20 (plcD p2) ∧ okD 20 (.list s1.calls) ∧ okD 20 (.list s2.calls) ∧
  k (.bool (PyData.eqv s1.gr.d s2.gr.d && (PyData.eqv (plcD p1) (plcD p2) && PyData.eqv (.list s1.calls) (.list s2.calls))))
end PD

/-! PD202: what isinstance asks of a class at the top -/
namespace PD
open PySem PySem.Spec PyProof.Rows L2 Evl
abbrev InsC := @C8.InsC
end PD

/-! PD203: objects: assignments of three, lists of what methods hand back, ways that meet, while, ranges with a step, returns -/
namespace PD
open PySem PySem.Spec PyProof.Rows L2 Evl
def NotO (w : W) : Prop := ∀ xs, w ≠ .o xs
def WAJ (c : Cn) (tr : TA) (ds : DS) (pl : List D) (Φ : Cn → List D → List D → Prop) : Prop := ∀ G σ H, HS c G σ H ds pl → ∀ Q : List V → Hp → Prop, (∀ vs c' G' H' xs pl', HS c' G' σ H' ds pl' → Ex G G' → RA G' vs xs → Φ c' xs pl' → Q vs H') → tr σ H Q
section
variable {c b : Cn} {K : PySem.W.Frag} {ds : DS} {pl : List D} {t u body : TS} {D' D2 : Ends} {G0 G H : Hp} {σ : L2.St} {E : EE} {Φ : Cn → W → List D → Prop} {te ta tb tc : TE} {tr : TA} {tt : TT} {l : List Ob}
end
end PD

/-! PD204: defs whose second argument may be a list that the caller still changes; the list is only read -/
namespace PD
open PySem PySem.Spec PyProof.Rows L2 Evl
def spL (F : List D → (D → Prop) → Prop) : Sp := fun vs H Q _ => ∃ G v1 p us d1 xs, vs = [v1, .ref p] ∧ Ex G H ∧ G p = none ∧ H p = some (.lst us) ∧ RA G us xs ∧ R G v1 d1 ∧ F [d1, .list xs] fun d => ∀ v G' H', Ex H H' → Ex G' H' → Ex G G' → (∀ a u, H a = some u → G a = none → G' a = none) → R G' v d → Q v H'
def spD (F : List D → (D → Prop) → Prop) : Sp := fun vs H Q E => spP F vs H Q E ∨ spL F vs H Q E
def Lent (c : Cn) (p : Addr) (xs : List D) : Prop := ∃ G0 us, Snap c G0 ∧ c.pin p = some (.lst us) ∧ RA G0 us xs
def slotsL (N : List Str) (d : D) (p : Addr) : DS := some (.d d) :: some (.v (.ref p)) :: List.replicate (N.length - 2) none
section
variable {c : Cn} {K : PySem.W.Frag} {ds : DS} {pl : List D} {Φ : W → List D → Prop} {te ta tb : TE} {tr : TA} {Ek : XK} {i j : Nat} {F : List D → (D → Prop) → Prop} {p : Addr} {xs : List D} {A : Type} {enc : A → List D} {pre : A → Prop}
end
section
variable {P : Program} {w : World} {K : PySem.W.Frag} {mg : Str → Option Value} {base : Heap} {k : Nat} {f : Addr} {fd : FuncData} {ps : List Str}
end
end PD

/-! PD205: a part of an owned list, as a new list -/
namespace PD
open PySem PySem.Spec PyProof.Rows L2 Evl
section
variable {c : Cn} {K : PySem.W.Frag} {ds : DS} {pl : List D} {Φ : W → List D → Prop} {i : Nat} {xs : List D}
end
end PD

/-! PD206: an operator whose right side changes objects; the narrow device pumped -/
namespace PD
open PySem PySem.Spec PyProof.Rows L2 Evl
section
variable {c : Cn} {ds : DS} {pl : List D} {Φ : Cn → W → List D → Prop} {tb : TE} {i : Nat}
end
abbrev d35 : Dv := (⟨3, [0]⟩, ⟨5, [0]⟩)
end PD

/-! PD207: for over a list, over its numbered items and over a tuple of objects, objects changed; != of objects -/
namespace PD
open PySem PySem.Spec PyProof.Rows L2 Evl
section
variable {c b : Cn} {K : PySem.W.Frag} {ds : DS} {pl : List D} {t u : TS} {D' : Ends} {G0 G H : Hp} {tl : TE} {tr : TA} {l : List Ob}
end
/-! ### != of objects -/
structure NeC (K : PySem.W.Frag) (C : Addr) : Prop where
  ne : PySem.W.findIn K (.ref C) "__ne__" = some (some (.builtin "object.__ne__"))
  ob : PySem.W.mroIn K C (.type "object") = some true
section
variable {prog : Program} {w : World} {A : Around} {E : Value → Shared → Prop} {s : Shared} {K : PySem.W.Frag} {x y C f : Addr} {ox : Obj} {od : Option Obj}
end
def rNeO (C : Addr) (sp : Sp) : R2 := fun x y H Q => ∃ a b dx dy fs gs, x = .ref a ∧ y = .ref b ∧ H a = some (.ins C dx fs) ∧ H b = some (.ins C dy gs) ∧ sp [.ref a, .ref b] H (fun v H' => ∃ t : Bool, v = .bl t ∧ Q (.bl (!t)) H') E0
section
variable {X : Cx} {k : Nat} {C f : Addr} {fd : FuncData} {sp : Sp}
end
section
variable {c b : Cn} {ds : DS} {pl : List D} {Φ : W → List D → Prop} {i j : Nat} {C : Addr} {l : List Ob} {kx ky : Nat} {ox oy : Ob}
end
end PD

/-! PD208: rises of live bars, summed and cut; lists of unlike lengths; sorted sets of teeth -/
namespace PD
open PySem PySem.Spec PyProof.Rows L2 Evl
end PD

/-! PD209: moves behind calls -/
namespace PD
open PySem PySem.Spec PyProof.Rows L2 Evl
end PD

/-! PD210: min(xs, key=f), f a def of the program -/
namespace PD
open PySem PySem.Spec PyProof.Rows L2 Evl
structure KeyAll (prog : Program) (w : World) (A : Around) (q : Value) (S : Addr) (wr : List Addr) (G : Array GenState → Array GenState → Prop) (n : Nat) (P : Nat → Value → Prop) (St : Nat → Shared → Prop) (KV : List (Nat × Value) → Shared → Prop) (bt : Nat → Nat → Bool) : Prop where
  keep : ∀ l s s', KV l s → Moved (S :: wr) G s s' → KV l s'
  less : ∀ l l' s, KV l s → (∀ p ∈ l', p ∈ l) → KV l' s
  turn : ∀ i v l (s : Shared) (o : Obj) (Q : Value → Shared → Prop) (E : Value → Shared → Prop), i < n → P i v → KV l s → St (i + 1) s → s.heap.get? S = some o → (∀ x, o.data ≠ .cell x) →
    (∀ k s', KV ((i, k) :: l) s' → St (i + 1) s' → s'.heap.get? S = some o → Q k s') → wpAny (model prog w) A (call q [v]) Q E s
  cmp : ∀ i j ki kj l (s : Shared) (Q : Value → Shared → Prop) (E : Value → Shared → Prop), i < n → j < n → (i, ki) ∈ l → (j, kj) ∈ l → KV l s → Q (.bool (bt i j)) s → wpAny (model prog w) A (richCompare .Lt ki kj) Q E s
section
variable {prog : Program} {w : World} {A : Around} {R : Result → Shared → Prop} {I q : Addr} {fp wr : List Addr} {G : Array GenState → Array GenState → Prop} {n : Nat} {P : Nat → Value → Prop} {St : Nat → Shared → Prop} {KV : List (Nat × Value) → Shared → Prop} {bt : Nat → Nat → Bool}
end
section
variable {prog : Program} {w : World} {A : Around} {E : Value → Shared → Prop} {s : Shared}
end

def rMinK (K : PySem.W.Frag) (sp : Sp) : List V → Hp → VK → Prop := fun vs H Q => ∃ (a : Addr) (xs : List V) (kd : Nat → PyData) (Kn : List (V × Nat) → Hp → Prop), vs = [.ref a] ∧ 0 < xs.length ∧ Kn [] H ∧
  (∀ l H2, Kn l H2 → SqL K H2 a xs) ∧ (∀ l H2 y i, Kn l H2 → (y, i) ∈ l → Dp K H2 y (kd i)) ∧
  (∀ l i x H2, xs[i]? = some x → Kn l H2 → sp [x] H2 (fun y H3 => Kn ((y, i) :: l) H3) E0) ∧
  (∀ i j, i < xs.length → j < xs.length → PySem.W.alike (kd i) (kd j) = true ∧ kd i ≠ .none ∧ (kd i).depth ≤ 20) ∧
  ∀ l x H2, Kn l H2 → xs[argBest (fun i j => PySem.W.dataLt (kd i) (kd j)) (xs.length - 1)]? = some x → Q x H2
def tMinK (K : PySem.W.Frag) (sp : Sp) (t : TA) : TE := fun σ H Q => t σ H fun vs H1 => rMinK K sp vs H1 Q
section
variable {X : Cx} {k : Nat} {fn pn : Str} {sp : Sp} {e : Expr} {t : TA} {p p2 kpos pos : Pos}
end
section
variable {c : Cn} {K : PySem.W.Frag} {ds : DS} {pl : List D} {Φ : W → List D → Prop} {tr : TA}
end
end PD

/-! PD211: moves that part (mathematics) -/
namespace PD
open PySem PySem.Spec PyProof.Rows L2 Evl
/-! ### order of ranks -/
theorem lex_int (a b : Int) (l m : List (Int ⊕ List Nat)) : PyProof.Rows.lexLt itemOrd (Sum.inl a :: l) (Sum.inl b :: m) = (decide (a < b) || (decide (a = b) && PyProof.Rows.lexLt itemOrd l m)) := by
  rw [PyProof.Rows.lex_cons]
  show (decide (a < b) || (!decide (b < a) && _)) = _
  by_cases h1 : a < b
  · simp [h1]
  · by_cases h2 : a = b
    · subst h2; simp
    · have h3 : b < a := by omega
      simp [h1, h2, h3]
def rkD (ms : List Int) : D := .tuple [.int (ms.map fun m => if m < 0 then -m else m).sum, .list (ms.map PyData.int)]
def sz1 (m : Int) : Int := if m < 0 then -m else m
def lt1 (x y : Int) : Prop := sz1 x < sz1 y ∨ (sz1 x = sz1 y ∧ x < y)
def lt2 (x y : Int × Int) : Prop := sz1 x.1 + sz1 x.2 < sz1 y.1 + sz1 y.2 ∨ (sz1 x.1 + sz1 x.2 = sz1 y.1 + sz1 y.2 ∧ (x.1 < y.1 ∨ (x.1 = y.1 ∧ x.2 < y.2)))
/-! ### slacks seen from elsewhere -/
/-! ### rises -/
def rs (v : Dv) (s : Sv) (m : Int) : Int := (mv v s m).1 - s.1
section
variable {v w : Dv} {s t : Sv}
end
end PD

/-! PD212: the fewest moves that part -/
namespace PD
open PySem PySem.Spec PyProof.Rows L2 Evl
def pzD (a b : Int) : D := if a = b then .none else .int (min a b + 1)
def sglI (b e : Dv) : List Int := (if slk b.1 0 = slk e.1 0 then [] else [-(min (slk b.1 0) (slk e.1 0) + 1)]) ++ (if slk b.2 0 = slk e.2 0 then [] else [min (slk b.2 0) (slk e.2 0) + 1])
def prsP (c e : Comb) (k g : Int) : Nat → List (Int × Int)
  | 0 => []
  | i + 1 => prsP c e k g i ++ (if slk c ((i : Int) + 1) = slk e ((i : Int) + 1) then [] else [(g * (k + ((i : Int) + 1)), -g * (min (slk c ((i : Int) + 1)) (slk e ((i : Int) + 1)) + 1))])
def lstD (L : List (List Int)) : List D := L.map fun r => .list (r.map PyData.int)
def intD : D → Int
  | .int i => i
  | _ => 0
def rkOf : D → D
  | .list xs => rkD (xs.map intD)
  | _ => .none
/-! ### what is told -/
def PartD (v : Dv) (s : Sv) (w : Dv) (t : Sv) (d : D) : Prop :=
  (d = .none ∧ AlkS v s w t) ∨
  (∃ x, d = .list [.int x] ∧ x ≠ 0 ∧ x.natAbs ≤ 1000 ∧ rs v s x ≠ rs w t x ∧ ∀ y, y ≠ 0 → rs v s y ≠ rs w t y → ¬ lt1 y x) ∨
  (∃ a b, d = .list [.int a, .int b] ∧ a ≠ 0 ∧ b ≠ 0 ∧ a.natAbs ≤ 1000 ∧ b.natAbs ≤ 1000 ∧ (∀ y, y ≠ 0 → rs v s y = rs w t y) ∧ rs v (mv v s a) b ≠ rs w (mv w t a) b ∧ ∀ y z, y ≠ 0 → z ≠ 0 → rs v (mv v s y) z ≠ rs w (mv w t y) z → ¬ lt2 (y, z) (a, b))
section
variable {v w b e : Dv} {s t : Sv}
structure SeenAs (v : Dv) (s : Sv) (b : Dv) : Prop where
  ok : v.Ok
  okb : b.Ok
  one : ∀ n, slk b.1 n = slk v.1 (n + s.1)
  two : ∀ n, slk b.2 n = slk v.2 (n + lf s)
theorem SeenAs.z1 (h : SeenAs v s b) : slk b.1 0 = slk v.1 s.1 := by rw [h.one, Int.zero_add]
theorem SeenAs.z2 (h : SeenAs v s b) : slk b.2 0 = slk v.2 (lf s) := by rw [h.two, Int.zero_add]
def dblP (b e : Dv) (N M : Nat) : List (Int × Int) := prsP b.1 e.1 (slk b.2 0) 1 N ++ prsP b.2 e.2 (slk b.1 0) (-1) M
end
end PD

/-! PD213: for the defs of moves that part -/
namespace PD
open PySem PySem.Spec PyProof.Rows L2 Evl
end PD

/-! PD214: for the least of lists of moves -/
namespace PD
open PySem PySem.Spec PyProof.Rows L2 Evl
end PD

/-! PD215: two objects made at once; lists that do not part -/
namespace PD
open PySem PySem.Spec PyProof.Rows L2 Evl
section
variable {c : Cn} {K : PySem.W.Frag} {ds : DS} {pl : List D} {ta tb : TE} {D' : Ends} {G0 : Hp}
end
def rsL (v : Dv) (s : Sv) (ms : List Int) : List Int := (notesL v s ms).map (·.2)
section
variable {v w : Dv} {s t : Sv} {ms : List Int}
end
end PD

/-! PD216: a comb with one tooth more or less; what is told of parting, taken apart -/
namespace PD
open PySem PySem.Spec PyProof.Rows L2 Evl
def rows4 (size part : Int) : List (List Int) := [[size], [0 - size], [part, 0 - size + part], [0 - part, size - part]]
end PD

/-! PD217: == of states -/
namespace PD
open PySem PySem.Spec PyProof.Rows L2 Evl
end PD

/-! PD218: lists that part (mathematics), told once -/
namespace PD
open PySem PySem.Spec PyProof.Rows L2 Evl
def prtN (v w : Dv) : Sv → Sv → List Int → Nat
  | _, _, [] => 0
  | s, t, m :: r => if rs v s m = rs w t m then (if prtN v w (mv v s m) (mv w t m) r = 0 then 0 else prtN v w (mv v s m) (mv w t m) r + 1) else 1
end PD

/-! PD219: < of lists of numbers -/
namespace PD
open PySem PySem.Spec PyProof.Rows L2 Evl
def rLtD (K : PySem.W.Frag) : R2 := fun x y H Q => ∃ d e, Dp K H x d ∧ Dp K H y e ∧ PySem.W.alike d e = true ∧ d ≠ .none ∧ d.depth ≤ 20 ∧ Q (.bl (PySem.W.dataLt d e)) H
def rLtU (K : PySem.W.Frag) : R2 := fun x y H Q => rI0 (fun i j => .bl (decide (i < j))) x y H Q ∨ rLtD K x y H Q
section
variable {X : Cx}
end
section
variable {c : Cn} {K : PySem.W.Frag} {ds : DS} {Φ : W → List D → Prop}
end
end PD

/-! PD220: all lists of one or two moves of a sum -/
namespace PD
open PySem PySem.Spec PyProof.Rows L2 Evl
def lists2 (size : Int) : Nat → List (List Int)
  | 0 => []
  | i + 1 => lists2 size i ++ [[(i : Int) + 1, size - ((i : Int) + 1)], [(i : Int) + 1, (i : Int) + 1 - size], [0 - ((i : Int) + 1), size - ((i : Int) + 1)], [0 - ((i : Int) + 1), (i : Int) + 1 - size]]
def listsL (many size : Nat) : List (List Int) := if many = 1 then [[0 - (size : Int)], [(size : Int)]] else lists2 size (size - 1)
end PD

/-! PD221: new lists within a new list, kept in mind by their addresses; the least of them handed back as a new list -/
namespace PD
open PySem PySem.Spec PyProof.Rows L2 Evl
section
variable {c : Cn} {K : PySem.W.Frag} {ds : DS} {pl : List D} {D' : Ends} {G0 : Hp} {Ek : XK} {E : EE}
def NewL (c : Cn) (G0 Gk : Hp) (v : V) (L : List (List Int)) : Prop := ∃ a us, v = .ref a ∧ Gk a = some (.lst us) ∧ us.length = L.length ∧
  ∀ (j : Nat) (u : V) (r : List Int), us[j]? = some u → L[j]? = some r → ∃ p, u = .ref p ∧ Gk p = some (.lst (r.map V.int)) ∧ G0 p = none ∧ c.H0 p = none ∧ c.pin p = none ∧ c.pool ≠ some p ∧ ¬ c.hd p
structure Slk (G : Hp) (v : V) (b : Dv) (t l1 l2 : Addr) : Prop where
  ev : v = .ref t
  tt : G t = some (.tup [.ref l1, .ref l2])
  t1 : G l1 = some (.lst ((sl b.1).map V.int))
  t2 : G l2 = some (.lst ((sl b.2).map V.int))
end
def PartO (v : Dv) (s : Sv) (w : Dv) (t : Sv) (o : Option (List D)) : Prop := PartD v s w t (noD o)
end PD

/-! PD222: a new list that came back kept as a pin, and changed -/
namespace PD
open PySem PySem.Spec PyProof.Rows L2 Evl
section
variable {c : Cn} {K : PySem.W.Frag} {ds : DS} {pl : List D} {tr : TA} {u : TS} {D' : Ends} {G0 : Hp} {Ek : XK} {A : Type} {enc : A → List D} {pre : A → Prop} {post : A → Option (List D) → Prop}
end
end PD

/-! PD223: not in a tuple of numbers -/
namespace PD
open PySem PySem.Spec PyProof.Rows L2 Evl
section
variable {c : Cn} {K : PySem.W.Frag} {ds : DS} {pl : List D} {Φ : W → List D → Prop}
end
end PD

/-! PD224: four pairs of devices, what parts them -/
namespace PD
open PySem PySem.Spec PyProof.Rows L2 Evl
instance (a b : Int) : Decidable (lt1 a b) := by unfold lt1; infer_instance
instance (a b : Int × Int) : Decidable (lt2 a b) := by unfold lt2; infer_instance
end PD

/-! PD225: alike places, moved and pumped -/
namespace PD
open PySem PySem.Spec PyProof.Rows L2 Evl
end PD

/-! PD226: alike places have one mean -/
namespace PD
open PySem PySem.Spec PyProof.Rows L2 Evl
end PD

/-! PD227: alike places have one mean (2) -/
namespace PD
open PySem PySem.Spec PyProof.Rows L2 Evl
end PD

/-! PD228: alike places: looks, rows of spans, live bars -/
namespace PD
open PySem PySem.Spec PyProof.Rows L2 Evl
end PD

/-! PD229: a, b = [], e -/
namespace PD
open PySem PySem.Spec PyProof.Rows L2 Evl
section
variable {c : Cn} {K : PySem.W.Frag} {ds : DS} {pl : List D} {E : EE} {ta : TE}
end
end PD

/-! PD230: plain devices of alike places; a comb twice as great as it need be -/
namespace PD
open PySem PySem.Spec PyProof.Rows L2 Evl
abbrev PlT (v : Dv) (s : Sv) (b : Dv) : Prop := Plain b.1 ∧ Plain b.2 ∧ (∀ n, caught b.1 n = caught v.1 (n + s.1)) ∧ ∀ n, caught b.2 n = caught v.2 (n + (s.1 - s.2))
theorem PlT.same {v w b e : Dv} {s t : Sv} (h : PlT v s b) (g : PlT w t e) (ak : AlkS v s w t) : e = b :=
  Prod.ext (g.1.uniq h.1 fun n => by rw [g.2.2.1, h.2.2.1, ak.1]) (g.2.1.uniq h.2.1 fun n => by rw [g.2.2.2, h.2.2.2, ak.2])
end PD
namespace PD
open PySem PySem.Spec PyProof.Rows L2 Evl
end PD

/-! PD231: texts -/
namespace PD
open PySem PySem.Spec PyProof.Rows L2 Evl
theorem RA.strs {G : Hp} {vs : List V} : ∀ {ys : List Str}, RA G vs (ys.map PyData.str) → vs = ys.map V.str := by
  intro ys
  induction ys generalizing vs with
  | nil => intro h; cases h; rfl
  | cons y ys ih =>
    intro h
    cases h with
    | cons a b =>
      cases a
      rw [List.map_cons, ih b]
theorem RA.of_strs {G : Hp} : ∀ (ys : List Str), RA G (ys.map V.str) (ys.map PyData.str)
  | [] => .nil
  | y :: ys => .cons (.str y) (RA.of_strs ys)
abbrev strsD (ys : List Str) : D := .list (ys.map PyData.str)
abbrev rJoin (K : PySem.W.Frag) : V → List V → Hp → VK → Prop := fun x xs H Q => ∃ a p, ∃ ys : List Str, x = .str a ∧ xs = [.ref p] ∧ (SqL K H p (ys.map V.str) ∨ SqT K H p (ys.map V.str)) ∧ (ys.map (·.length)).sum + ys.length * a.length ≤ 16777216 ∧ Q (.str (Txt.join a ys)) H
abbrev rSplit : V → List V → Hp → VK → Prop := fun x xs H Q => ∃ a b, x = .str a ∧ xs = [.str b] ∧ (b.length == 0) = false ∧ a.length + 2 ≤ sizeLine ∧ rNewStrs (Txt.split a b) H Q
abbrev rStarts : V → List V → Hp → VK → Prop := fun x xs H Q => ∃ a b, x = .str a ∧ xs = [.str b] ∧ Q (.bl (Txt.startswith a b)) H
abbrev rEnds : V → List V → Hp → VK → Prop := fun x xs H Q => ∃ a b, x = .str a ∧ xs = [.str b] ∧ Q (.bl (Txt.endswith a b)) H
abbrev rLenS : List V → Hp → VK → Prop := fun xs H Q => ∃ z : Str, xs = [.str z] ∧ z.length ≤ sizeLine ∧ Q (.int z.length) H
abbrev rIntS : List V → Hp → VK → Prop := fun xs H Q => ∃ (a : Str) (n : Int), xs = [.str a] ∧ PySem.intText? a = some n ∧ a.length ≤ 640 ∧ Q (.int n) H
abbrev rStrI : List V → Hp → VK → Prop := fun xs H Q => ∃ i : Int, xs = [.int i] ∧ i.natAbs.log2 < 1920 ∧ Q (.str (toString i)) H
abbrev rStrS : List V → Hp → VK → Prop := fun xs H Q => ∃ a : Str, xs = [.str a] ∧ Q (.str a) H
abbrev rAddS : R2 := fun x y H Q => ∃ i j : Str, x = .str i ∧ y = .str j ∧ i.length + j.length ≤ sizeLine ∧ Q (.str (i ++ j)) H
abbrev rInS : R2 := fun x y H Q => ∃ (c : Nat) (z : Str), x = .str ⟨#[c]⟩ ∧ y = .str z ∧ Q (.bl (decide (c ∈ z.cps.toList))) H
abbrev rNotInS : R2 := fun x y H Q => ∃ (c : Nat) (z : Str), x = .str ⟨#[c]⟩ ∧ y = .str z ∧ Q (.bl (!decide (c ∈ z.cps.toList))) H
abbrev rMulS : R2 := fun x y H Q => ∃ (i : Str) (n : Int), x = .str i ∧ y = .int n ∧ PySem.MulOk i n ∧ Q (.str (Txt.mul i n)) H
section
variable {X : Cx}
theorem op_addS : OpR X (binaryOp .Add) rAddS := op_add_str
theorem op_mulS : OpR X (binaryOp .Mult) rMulS := by
  intro pins s σ H x y v u Q I rx ry h
  obtain ⟨i, n, rfl, rfl, hz, q⟩ := h
  obtain ⟨t, rfl⟩ := rx
  obtain ⟨t', rfl⟩ := ry
  exact PySem.SB.mul hz fun t k => ⟨.str _, H, I.tok _, ⟨_, rfl⟩, q⟩
def tFs (ts : List TE) : TE := fun σ H Q => tJs ts Str.empty σ H fun out H1 => Q (.str out) H1
theorem pe_fs {v1 v2 : Expr} {rest : List Expr} {ts : List TE} {pos : Pos} (h : PJ X (v1 :: v2 :: rest) ts) : PE X (.JoinedStr (v1 :: v2 :: rest) pos) (tFs ts) := pe_joined h
end
section
variable {c : Cn} {K : PySem.W.Frag} {ds : DS} {pl : List D} {Φ : W → List D → Prop} {ta te to tl : TE} {tr : TA} {tt : TT}
/-! ### a.m(b) -/
def MtS (c : Cn) (r : V → List V → Hp → VK → Prop) (ds : DS) (a : Str) (y : D) (p2 : List D) (Φ : W → List D → Prop) : Prop := ∀ G σ H u, HS c G σ H ds p2 → R G u y → ∀ Q : VK, Co c ds G σ Φ Q → r (.str a) [u] H Q
theorem we_m1 {r : V → List V → Hp → VK → Prop} (h : WE c to ds pl (isD fun x p1 => ∃ a, x = .str a ∧ WE c te ds p1 (isD fun y p2 => MtS c r ds a y p2 Φ))) : WE c (tM1 r to te) ds pl Φ := fun G σ H hs Q q => h G σ H hs _ fun v G1 H1 w p1 h1 e1 f1 g1 => by
  match w, f1, g1 with
  | .d x, f1, ⟨a, ex, g1⟩ =>
    subst ex
    cases f1
    refine ⟨⟨a, rfl⟩, g1 G1 σ H1 h1 _ fun u G2 H2 w2 p2 h2 e2 f2 g2 => ?_⟩
    match w2, f2, g2 with
    | .d y, f2, g2 => exact g2 G2 σ H2 u h2 f2 Q fun z G3 H3 w3 p3 h3 e3 f3 g3 => q z G3 H3 w3 p3 h3 ((e1.trans e2).trans e3) f3 g3
theorem mts_join {a : Str} {ys : List Str} (hz : (ys.map (·.length)).sum + ys.length * a.length ≤ 16777216) (h : Φ (.d (.str (Txt.join a ys))) pl) : MtS c (rJoin K) ds a (.list (ys.map PyData.str)) pl Φ := fun G σ H u hs f Q q => by
  cases f with
  | lst a1 b1 =>
    rw [RA.strs b1] at a1
    exact ⟨a, _, ys, rfl, rfl, .inl (SqL.of (hs.sub _ _ a1)), hz, q _ G H (.d _) pl hs (Ex.refl _) (R.str _) h⟩
theorem mts_split {a b : Str} (hb : (b.length == 0) = false) (hz : a.length + 2 ≤ sizeLine) (h : Φ (.d (strsD (Txt.split a b))) pl) : MtS c rSplit ds a (.str b) pl Φ := fun G σ H u hs f Q q => by
  cases f
  exact ⟨a, b, rfl, rfl, hb, hz, fun p hp => q _ _ _ (.d _) pl (hs.newD hp) (Ex.new (hs.none_of hp).1) (show R _ (.ref p) (.list _) from .lst upd_same (RA.of_strs _)) h⟩
theorem mts_starts {a b : Str} (h : Φ (.d (.bool (Txt.startswith a b))) pl) : MtS c rStarts ds a (.str b) pl Φ := fun G σ H u hs f Q q => by
  cases f
  exact ⟨a, b, rfl, rfl, q _ G H (.d _) pl hs (Ex.refl _) (R.bl _) h⟩
theorem mts_ends {a b : Str} (h : Φ (.d (.bool (Txt.endswith a b))) pl) : MtS c rEnds ds a (.str b) pl Φ := fun G σ H u hs f Q q => by
  cases f
  exact ⟨a, b, rfl, rfl, q _ G H (.d _) pl hs (Ex.refl _) (R.bl _) h⟩
/-! ### built-ins -/
theorem cb_lenS {z : Str} (hz : z.length ≤ sizeLine) (h : Φ (.d (.int z.length)) pl) : CbS c rLenS ds [.str z] pl Φ := fun G σ H vs hs f Q q => by
  obtain ⟨v, rfl, a⟩ := ra1 f
  cases a
  exact ⟨z, rfl, hz, q _ G H (.d _) pl hs (Ex.refl _) (R.int _) h⟩
theorem cb_intS {a : Str} {n : Int} (hn : PySem.intText? a = some n) (hz : a.length ≤ 640) (h : Φ (.d (.int n)) pl) : CbS c rIntS ds [.str a] pl Φ := fun G σ H vs hs f Q q => by
  obtain ⟨v, rfl, b⟩ := ra1 f
  cases b
  exact ⟨a, n, rfl, hn, hz, q _ G H (.d _) pl hs (Ex.refl _) (R.int _) h⟩
theorem cb_strI {i : Int} (hi : i.natAbs.log2 < 1920) (h : Φ (.d (.str (toString i))) pl) : CbS c rStrI ds [.int i] pl Φ := fun G σ H vs hs f Q q => by
  obtain ⟨v, rfl, b⟩ := ra1 f
  cases b
  exact ⟨i, rfl, hi, q _ G H (.d _) pl hs (Ex.refl _) (R.str _) h⟩
/-! ### operators -/
theorem os_addS {a b : Str} {p2 : List D} (hz : a.length + b.length ≤ sizeLine) (h : Φ (.d (.str (a ++ b))) p2) : OpS c rAddS ds (.str a) (.str b) p2 Φ := fun G σ H v u hs hv hu Q q => by
  rw [hv.str, hu.str]
  exact ⟨a, b, rfl, rfl, hz, q _ G H (.d _) p2 hs (Ex.refl _) (R.str _) h⟩
theorem os_mulS {a : Str} {n : Int} {p2 : List D} (hz : PySem.MulOk a n) (h : Φ (.d (.str (Txt.mul a n))) p2) : OpS c rMulS ds (.str a) (.int n) p2 Φ := fun G σ H v u hs hv hu Q q => by
  rw [hv.str, hu.int]
  exact ⟨a, n, rfl, rfl, hz, q _ G H (.d _) p2 hs (Ex.refl _) (R.str _) h⟩
theorem os_inS {k : Nat} {z : Str} {p2 : List D} (h : Φ (.d (.bool (decide (k ∈ z.cps.toList)))) p2) : OpS c rInS ds (.str ⟨#[k]⟩) (.str z) p2 Φ := fun G σ H v u hs hv hu Q q => by
  rw [hv.str, hu.str]
  exact ⟨k, z, rfl, rfl, q _ G H (.d _) p2 hs (Ex.refl _) (R.bl _) h⟩
/-! ### slices -/
theorem we_sliceS {t1 t2 : TO} (ha : WE c ta ds pl (isD fun x p1 => ∃ z, x = .str z ∧ z.length ≤ sizeLine ∧ WO c t1 ds p1 fun lo p2 => WO c t2 ds p2 fun hi p3 => Φ (.d (.str (cutS z lo hi))) p3)) : WE c (tSl rSlS ta t1 t2) ds pl Φ := fun G σ H hs Q q =>
  ha G σ H hs _ fun v G1 H1 w p1 h1 e1 f1 g1 => by
    match w, f1, g1 with
    | .d x, f1, ⟨z, ex, hz, g1⟩ =>
      subst ex
      refine g1 G1 σ H1 h1 _ fun lo G2 H2 p2 h2 e2 g2 => g2 G2 σ H2 h2 _ fun hi G3 H3 p3 h3 e3 g3 => ?_
      cases f1
      exact ⟨z, rfl, hz, q _ G3 H3 (.d _) p3 h3 (e1.trans (e2.trans e3)) (R.str _) g3⟩
/-! ### f-strings -/
def WJ (c : Cn) (ts : List TE) (acc : Str) (ds : DS) (pl : List D) (Ψ : Str → List D → Prop) : Prop := ∀ G σ H, HS c G σ H ds pl → ∀ Q : Str → Hp → Prop, (∀ out G' H' pl', HS c G' σ H' ds pl' → Ex G G' → Ψ out pl' → Q out H') → tJs ts acc σ H Q
theorem we_fs {ts : List TE} (h : WJ c ts Str.empty ds pl fun out p1 => Φ (.d (.str out)) p1) : WE c (tFs ts) ds pl Φ := fun G σ H hs Q q => h G σ H hs _ fun out G1 H1 p1 h1 e1 g1 => q _ G1 H1 (.d _) p1 h1 e1 (R.str _) g1
theorem wj_nil {acc : Str} {Ψ : Str → List D → Prop} (h : Ψ acc pl) : WJ c [] acc ds pl Ψ := fun G σ H hs Q q => q acc G H pl hs (Ex.refl _) h
theorem wj_cons {t : TE} {ts : List TE} {acc : Str} {Ψ : Str → List D → Prop} (h : WE c t ds pl (isD fun x p1 => ∃ y, x = .str y ∧ (acc ++ y).length ≤ sizeLine ∧ WJ c ts (acc ++ y) ds p1 Ψ)) : WJ c (t :: ts) acc ds pl Ψ := fun G σ H hs Q q => h G σ H hs _ fun v G1 H1 w p1 h1 e1 f1 g1 => by
  match w, f1, g1 with
  | .d x, f1, ⟨y, ex, hz, g1⟩ =>
    subst ex
    cases f1
    exact ⟨y, rfl, hz, g1 G1 σ H1 h1 _ fun out G2 H2 p2 h2 e2 g2 => q out G2 H2 p2 h2 (e1.trans e2) g2⟩
theorem we_fmtI (h : WE c te ds pl (isI fun i p1 => i.natAbs.log2 < 1920 ∧ Φ (.d (.str (toString i))) p1)) : WE c (tFmt te) ds pl Φ := fun G σ H hs Q q => h G σ H hs _ fun v G1 H1 w p1 h1 e1 f1 g1 => by
  match w, f1, g1 with
  | .d (.int i), f1, g1 =>
    cases f1
    exact .inr ⟨i, rfl, g1.1, q _ G1 H1 (.d _) p1 h1 e1 (R.str _) g1.2⟩
theorem we_fmtS (h : WE c te ds pl (isD fun x p1 => ∃ y : Str, x = .str y ∧ y.length ≤ sizeLine ∧ Φ (.d (.str y)) p1)) : WE c (tFmt te) ds pl Φ := fun G σ H hs Q q => h G σ H hs _ fun v G1 H1 w p1 h1 e1 f1 g1 => by
  match w, f1, g1 with
  | .d x, f1, ⟨y, ex, hz, g1⟩ =>
    subst ex
    cases f1
    exact .inl ⟨y, rfl, hz, q _ G1 H1 (.d _) p1 h1 e1 (R.str _) g1⟩
/-! ### comprehensions over a text -/
theorem we_lcS {j : Nat} (J : Nat → List D → List D → Prop) (z : Str) (hj : ∀ (xs : List D), ds[j]? ≠ some (some (W.o xs))) (h : WE c tl ds pl (isD fun d p1 => d = .str z ∧ J 0 [] p1))
    (user : ∀ (i : Nat) k acc pl', z.cps[i]? = some k → J i acc pl' → ∀ pin, WT { c with pin := pin } tt ((wipeD ds [j]).set j (some (.d (.str ⟨#[k]⟩)))) pl' fun b p2 => if b = true then WE { c with pin := pin } te ((wipeD ds [j]).set j (some (.d (.str ⟨#[k]⟩)))) p2
      (isD fun y p3 => acc.length < sizeLine ∧ J (i + 1) (acc ++ [y]) p3) else J (i + 1) acc p2)
    (hq : ∀ acc pl', J z.cps.size acc pl' → Φ (.d (.list acc)) pl') : WE c (tLc (iStr tl) (gName j) tt te [j]) ds pl Φ := fun G σ H h0 Q q => h G σ H h0 _ fun v G1 H1 w p1 h1 e1 f1 g1 => by
  match w, f1, g1 with
  | .d d, f1, ⟨ed, g1⟩ =>
    subst ed
    cases f1
    refine ⟨z, rfl, fun Dl hD => ?_⟩
    have f := df_new h1 hD
    refine lc_it walk_str (PvC c σ ds G1 Dl J) (pv_start J h1 hD g1) (fun i H' _ _ => trivial) ?_ ?_
    · rintro i x H' _ hi p ⟨rfl, k, hk, rfl⟩
      exact ⟨wipe_set σ j _, lc_turnD J f hj p (fun G' e => R.str _) fun acc pl' hJ pin => user i k acc pl' hk hJ pin⟩
    · intro H' p
      exact pv_end f p hq fun v G' H' w pl' h2 e2 f2 g2 => q v G' H' w pl' h2 (e1.trans e2) f2 g2
end
end PD

/-! PD232: numbers as words; how words are read -/
namespace PD
open PySem PySem.Spec PyProof.Rows L2 Evl TL
abbrev numS (i : Int) : Str := Str.ofString (toString i)
theorem tl_nat (n : Nat) : tl (numS (n : Int)) = numL n := tl_num n
theorem tl_neg (n : Nat) (h : 0 < n) : tl (numS (-(n : Int))) = 45 :: numL n := by
  obtain ⟨m, rfl⟩ : ∃ m, n = m + 1 := ⟨n - 1, by omega⟩
  show tl (Str.ofString (toString (Int.negSucc m))) = _
  have e : toString (Int.negSucc m) = "-" ++ toString (m + 1) := rfl
  rw [e, tl_ofString, String.toList_append, List.map_append]
  have e2 := tl_num (m + 1)
  rw [tl_ofString] at e2
  show 45 :: (toString (m + 1)).toList.map Char.toNat = _
  congr 1
theorem numS_free {k : Nat} (hk : k ≠ 45 ∧ (k < 48 ∨ 57 < k)) (i : Int) : k ∉ tl (numS i) := PyProof.Rows.int_text_free' k hk i
theorem numS_ne (i : Int) : tl (numS i) ≠ [] := by
  rcases (show i < 0 ∨ 0 ≤ i by omega) with h | h
  · obtain ⟨n, rfl⟩ : ∃ n : Nat, i = -(n : Int) := ⟨(-i).toNat, by omega⟩
    rw [tl_neg n (by omega)]; simp
  · obtain ⟨n, rfl⟩ : ∃ n : Nat, i = (n : Int) := ⟨i.toNat, by omega⟩
    rw [tl_nat]; exact numL_ne n
theorem numS_len {i : Int} {k : Nat} (hk : 0 < k) (h : i.natAbs < 10 ^ k) : (numS i).length ≤ k + 1 := by
  rw [len_tl]
  rcases (show i < 0 ∨ 0 ≤ i by omega) with z | z
  · obtain ⟨n, rfl⟩ : ∃ n : Nat, i = -(n : Int) := ⟨(-i).toNat, by omega⟩
    rw [tl_neg n (by omega), List.length_cons]
    have := numL_len (n := n) hk (by rw [Int.natAbs_neg, Int.natAbs_natCast] at h; exact h)
    omega
  · obtain ⟨n, rfl⟩ : ∃ n : Nat, i = (n : Int) := ⟨i.toNat, by omega⟩
    rw [tl_nat]
    have := numL_len (n := n) hk (by rw [Int.natAbs_natCast] at h; exact h)
    omega
theorem numS_int {i : Int} (h : i.natAbs < 10 ^ 600) : intText? (numS i) = some i := by
  have hl := numS_len (k := 600) (by decide) h
  rcases (show i < 0 ∨ 0 ≤ i by omega) with z | z
  · obtain ⟨n, rfl⟩ : ∃ n : Nat, i = -(n : Int) := ⟨(-i).toNat, by omega⟩
    rw [intText_neg (tl_neg n (by omega)) (numL_digits n) (numL_ne n) (by omega), numL_val]
  · obtain ⟨n, rfl⟩ : ∃ n : Nat, i = (n : Int) := ⟨i.toNat, by omega⟩
    have e := intText_digits (x := numS (n : Int)) (by rw [show (numS (n : Int)).cps.toList = numL n from tl_nat n]; exact numL_digits n) (by rw [show (numS (n : Int)).cps.toList = numL n from tl_nat n]; exact numL_ne n) (by omega)
    rw [show (numS (n : Int)).cps.toList = numL n from tl_nat n, numL_val] at e
    exact e
/-! ### words -/
def digB (k : Nat) : Bool := decide (k ∈ (("0123456789" : Str)).cps.toList)
def isCount (w : Str) : Bool := if w = "" ∨ 40 < w.length then false else if (w.cps.toList[0]? = some 48) ∧ 1 < w.length then false else w.cps.toList.all digB
def valS (w : Str) : Int := (intText? w).getD 0
def isNum (w : Str) : Bool := if Txt.startswith w "-" = true then isCount (cutS w (some 1) none) && !decide (w = ("-0" : Str)) else isCount w
def isPitchW (w : Str) : Bool := Txt.endswith w ":" && (isCount (cutS w none (some (-1))) && (decide (1 ≤ valS (cutS w none (some (-1)))) && decide (valS (cutS w none (some (-1))) ≤ 24)))
def isToothW (w : Str) (ts : List Int) (p : Int) : Bool := if isCount w = false ∨ p ≤ valS w then false else decide (ts = []) || decide (ts.getLastD 0 < valS w)
def eatT (p : Int) : List Int → List Str → List Int
  | ts, [] => ts
  | ts, w :: ws => if isToothW w ts p = true then eatT p (ts ++ [valS w]) ws else ts
def readComb (ws : List Str) (i : Nat) : Except Nat (Comb × Nat) := match ws[i]? with
  | none => .error i
  | some w => if isPitchW w = true then (let p := valS (cutS w none (some (-1))); let ts := eatT p [] (ws.drop (i + 1)); if ts = [] then .error (i + 1) else .ok (⟨p, ts⟩, i + 1 + ts.length)) else .error i
def readDev (ws : List Str) : Except Nat Dv := match readComb ws 0 with
  | .error k => .error k
  | .ok (c, i) => if ws[i]? = some ("/" : Str) then (match readComb ws (i + 1) with
    | .error k => .error k
    | .ok (e, j) => if j < ws.length then .error j else .ok (c, e)) else .error i
def readMs : Nat → List Str → Except Nat (List Int)
  | _, [] => .ok []
  | i, w :: ws => if i = 40 ∨ isNum w = false ∨ w = ("0" : Str) then .error i else (match readMs (i + 1) ws with
    | .error k => .error k
    | .ok ms => .ok (valS w :: ms))
def readNum (ws : List Str) (i : Nat) : Except Nat Int := match ws[i]? with
  | none => .error i
  | some w => if isNum w = true then .ok (valS w) else .error i
/-! ### numbers are words -/
theorem digB_iff (k : Nat) : digB k = true ↔ 48 ≤ k ∧ k ≤ 57 := by
  have e : (("0123456789" : Str)).cps.toList = [48, 49, 50, 51, 52, 53, 54, 55, 56, 57] := by decide +kernel
  unfold digB
  rw [e, decide_eq_true_iff]
  simp only [List.mem_cons, List.not_mem_nil, or_false]
  omega
theorem empty_iff (w : Str) : w = "" ↔ tl w = [] := ⟨fun h => by rw [h]; rfl, fun h => ext_tl (by rw [h]; rfl)⟩
theorem isCount_tl {w : Str} {n : Nat} (h : tl w = numL n) (hn : n < 10 ^ 40) : isCount w = true := by
  have hl : w.length ≤ 40 := by rw [len_tl, h]; exact numL_len (by decide) hn
  unfold isCount
  rw [if_neg (by
    rintro (z | z)
    · rw [empty_iff, h] at z; exact numL_ne n z
    · omega)]
  rw [if_neg (by
    rintro ⟨z1, z2⟩
    rw [show w.cps.toList = numL n from h] at z1
    rw [len_tl, h] at z2
    by_cases d : n < 10
    · rw [numL_lt d] at z2; simp at z2
    · exact numL_head d z1)]
  rw [show w.cps.toList = numL n from h, List.all_eq_true]
  intro k hk
  exact (digB_iff k).mpr (numL_digits n k hk)
where
  numL_head {n : Nat} (d : ¬ n < 10) (z : (numL n)[0]? = some 48) : False := by
    induction n using Nat.strongRecOn with
    | _ n ih =>
      rw [numL_step (by omega)] at z
      by_cases d2 : n / 10 < 10
      · rw [numL_lt d2] at z
        have := Option.some.inj z
        omega
      · have ne := numL_ne (n / 10)
        cases q : numL (n / 10) with
        | nil => exact ne q
        | cons a r =>
          rw [q] at z
          refine ih (n / 10) (by omega) d2 ?_
          rw [q]
          exact z
theorem isCount_num {i : Int} (h0 : 0 ≤ i) (h : i < 10 ^ 40) : isCount (numS i) = true := by
  obtain ⟨n, rfl⟩ : ∃ n : Nat, i = (n : Int) := ⟨i.toNat, by omega⟩
  refine isCount_tl (tl_nat n) ?_
  exact_mod_cast h
theorem valS_num {i : Int} (h : i.natAbs < 10 ^ 600) : valS (numS i) = i := by
  unfold valS
  rw [numS_int h]
  rfl
end PD

/-! PD233: devices, moves and states as words, and read -/
namespace PD
open PySem PySem.Spec PyProof.Rows L2 Evl TL
theorem tl_cut (z : Str) (lo hi : Option Int) : tl (cutS z lo hi) = ((tl z).drop (HT.sIx z.length 0 lo)).take (HT.sIx z.length z.length hi - HT.sIx z.length 0 lo) := rfl
theorem cut_one (z : Str) : tl (cutS z (some 1) none) = (tl z).drop 1 := by
  rw [tl_cut, HT.sIx_none]
  have e : HT.sIx z.length 0 (some 1) = min 1 z.length := by unfold HT.sIx; simp <;> omega
  rw [e]
  by_cases h : 1 ≤ z.length
  · rw [show min 1 z.length = 1 by omega]
    exact List.take_of_length_le (by rw [List.length_drop, ← len_tl]; exact Nat.le_refl _)
  · have l0 : (tl z).length = 0 := by rw [← len_tl]; omega
    rw [List.length_eq_zero_iff.mp l0]; simp
theorem cut_butLast (a : Str) (c : Nat) {y : Str} (hy : tl y = [c]) : cutS (a ++ y) none (some (-1)) = a := by
  refine ext_tl ?_
  rw [tl_cut, HT.sIx_none, tl_append, hy]
  have l : (a ++ y).length = a.length + 1 := by rw [len_tl, tl_append, hy, List.length_append, ← len_tl]; rfl
  have e : HT.sIx (a ++ y).length (a ++ y).length (some (-1)) = a.length := by rw [l]; unfold HT.sIx; simp; omega
  rw [e, List.drop_zero, Nat.sub_zero, len_tl, List.take_left]
theorem starts_minus (w : Str) : Txt.startswith w "-" = decide ((tl w)[0]? = some 45) := by
  unfold Txt.startswith
  rw [StrLaws.subAt_eq, List.drop_zero]
  have e1 : (("-" : Str)).length = 1 := rfl
  have e2 : (("-" : Str)).cps.toList = [45] := rfl
  rw [e1, e2, len_tl]
  cases h : tl w with
  | nil => rw [show w.cps.toList = [] from h]; rfl
  | cons a r =>
    rw [show w.cps.toList = a :: r from h]
    show (decide (0 + 1 ≤ (a :: r).length) && ([a] == [45])) = decide (some a = some 45)
    rw [decide_eq_true (by simp), Bool.true_and]
    by_cases z : a = 45
    · rw [z]; rfl
    · rw [decide_eq_false (by simpa using z)]
      simpa using z
theorem numS_inj {i j : Int} (hi : i.natAbs < 10 ^ 600) (hj : j.natAbs < 10 ^ 600) (h : numS i = numS j) : i = j := by
  have a := numS_int hi
  rw [h, numS_int hj] at a
  exact (Option.some.inj a).symm
theorem isNum_num {i : Int} (h : i.natAbs < 10 ^ 40) : isNum (numS i) = true := by
  unfold isNum
  rw [starts_minus]
  rcases (show i < 0 ∨ 0 ≤ i by omega) with z | z
  · obtain ⟨n, rfl⟩ : ∃ n : Nat, i = -(n : Int) := ⟨(-i).toNat, by omega⟩
    have hn : n < 10 ^ 40 := by rw [Int.natAbs_neg, Int.natAbs_natCast] at h; exact h
    have t := tl_neg n (by omega)
    rw [t, if_pos (by rfl)]
    rw [isCount_tl (n := n) (by rw [cut_one, t]; rfl) hn, Bool.true_and]
    rw [decide_eq_false (fun e => by
      have e2 : tl (("-0" : Str)) = [45, 48] := rfl
      have e3 := congrArg tl e
      rw [t, e2] at e3
      have e4 : numL n = [48] := (List.cons.inj e3).2
      have e5 : numL n = numL 0 := e4.trans rfl
      have := numL_inj e5
      omega)]
    rfl
  · obtain ⟨n, rfl⟩ : ∃ n : Nat, i = (n : Int) := ⟨i.toNat, by omega⟩
    have hn : n < 10 ^ 40 := by rw [Int.natAbs_natCast] at h; exact h
    rw [tl_nat, decide_eq_false (fun e => by
      have := numL_digits n 45 (List.mem_of_getElem? e)
      omega), if_neg (by simp)]
    exact isCount_tl (tl_nat n) hn
/-! ### words -/
abbrev combW (c : Comb) : List Str := (numS c.p ++ (":" : Str)) :: c.ts.map numS
abbrev devW (v : Dv) : List Str := combW v.1 ++ ("/" : Str) :: combW v.2
abbrev numsT (ns : List Int) : Str := Txt.join " " (ns.map numS)
abbrev combT (c : Comb) : Str := Str.empty ++ numS c.p ++ (": " : Str) ++ numsT c.ts
abbrev devT (v : Dv) : Str := Str.empty ++ combT v.1 ++ (" / " : Str) ++ combT v.2
abbrev stateT (s : Sv) : Str := Str.empty ++ numS s.1 ++ (" " : Str) ++ numS s.2
theorem joinL_app (S : List Nat) : ∀ (A B : List (List Nat)), A ≠ [] → B ≠ [] → joinL S (A ++ B) = joinL S A ++ (S ++ joinL S B)
  | [], _, h, _ => absurd rfl h
  | [a], [], _, h => absurd rfl h
  | [a], b :: B, _, _ => rfl
  | a :: a2 :: A, B, _, hB => by
    have ih := joinL_app S (a2 :: A) B (by simp) hB
    show a ++ (S ++ joinL S ((a2 :: A) ++ B)) = a ++ (S ++ joinL S (a2 :: A)) ++ (S ++ joinL S B)
    rw [ih]
    simp only [List.append_assoc]
theorem tl_txt (y : Str) (ps : List Str) : tl (Txt.join y ps) = joinL (tl y) (ps.map tl) := by rw [join_eq, tl_join]
theorem space_tl : tl (" " : Str) = [32] := rfl
theorem joinL_cons (S p : List Nat) {r : List (List Nat)} (h : r ≠ []) : joinL S (p :: r) = p ++ (S ++ joinL S r) := by
  cases r with
  | nil => exact absurd rfl h
  | cons q r => rfl
theorem combT_tl {c : Comb} (ne : c.ts ≠ []) : tl (combT c) = joinL [32] ((combW c).map tl) := by
  have ne2 : (c.ts.map numS).map tl ≠ [] := fun e => ne (List.map_eq_nil_iff.mp (List.map_eq_nil_iff.mp e))
  rw [List.map_cons, joinL_cons _ _ ne2, tl_append, tl_append, tl_append, tl_txt, space_tl, tl_append]
  have e1 : tl (": " : Str) = [58, 32] := rfl
  have e2 : tl (":" : Str) = [58] := rfl
  have e3 : tl Str.empty = [] := rfl
  rw [e1, e2, e3, List.nil_append]
  simp only [List.append_assoc, List.cons_append, List.nil_append]
theorem devT_words {v : Dv} (ok : v.Ok) : devT v = Txt.join " " (devW v) := by
  refine ext_tl ?_
  rw [tl_txt, space_tl, List.map_append, joinL_app _ _ _ (by simp) (by simp), show (("/" : Str) :: combW v.2).map tl = tl ("/" : Str) :: (combW v.2).map tl from rfl, joinL_cons _ (tl ("/" : Str)) (by simp), tl_append, tl_append, tl_append, combT_tl ok.1.ne, combT_tl ok.2.ne]
  have e1 : tl (" / " : Str) = [32, 47, 32] := rfl
  have e2 : tl ("/" : Str) = [47] := rfl
  have e3 : tl Str.empty = [] := rfl
  rw [e1, e2, e3, List.nil_append]
  simp only [List.append_assoc, List.cons_append, List.nil_append]
theorem stateT_words (s : Sv) : stateT s = Txt.join " " [numS s.1, numS s.2] := by
  refine ext_tl ?_
  rw [tl_txt, tl_append, tl_append, tl_append, show tl Str.empty = [] from rfl, List.nil_append, List.append_assoc]
  rfl
theorem split_words {ws : List Str} (ne : ws ≠ []) (free : ∀ w ∈ ws, 32 ∉ tl w) : Txt.split (Txt.join " " ws) " " = ws := split_join (y := (" " : Str)) (s := 32) (S := []) rfl (by decide +kernel) ne free
theorem numS_sp (i : Int) : 32 ∉ tl (numS i) := numS_free ⟨by decide, by decide⟩ i
theorem combW_sp (c : Comb) : ∀ w ∈ combW c, 32 ∉ tl w := fun w hw => by
  rcases List.mem_cons.mp hw with rfl | hw
  · rw [tl_append]
    intro z
    rcases List.mem_append.mp z with z | z
    · exact numS_sp _ z
    · have e : tl (":" : Str) = [58] := rfl
      rw [e] at z
      simp at z
  · obtain ⟨i, _, rfl⟩ := List.mem_map.mp hw
    exact numS_sp i
theorem devW_sp (v : Dv) : ∀ w ∈ devW v, 32 ∉ tl w := fun w hw => by
  rcases List.mem_append.mp hw with hw | hw
  · exact combW_sp _ w hw
  · rcases List.mem_cons.mp hw with rfl | hw
    · intro z
      have e : tl ("/" : Str) = [47] := rfl
      rw [e] at z
      simp at z
    · exact combW_sp _ w hw
theorem devT_split {v : Dv} (ok : v.Ok) : Txt.split (devT v) " " = devW v := by rw [devT_words ok]; exact split_words (by simp) (devW_sp v)
theorem numsT_split {ns : List Int} (ne : ns ≠ []) : Txt.split (numsT ns) " " = ns.map numS := split_words (fun e => ne (List.map_eq_nil_iff.mp e)) fun w hw => by
  obtain ⟨i, _, rfl⟩ := List.mem_map.mp hw
  exact numS_sp i
theorem stateT_split (s : Sv) : Txt.split (stateT s) " " = [numS s.1, numS s.2] := by
  rw [stateT_words]
  refine split_words (by simp) fun w hw => ?_
  simp only [List.mem_cons, List.not_mem_nil, or_false] at hw
  rcases hw with rfl | rfl
  · exact numS_sp _
  · exact numS_sp _
/-! ### read back -/
theorem tooth_num {t p : Int} {ts : List Int} (t0 : 0 ≤ t) (tp : t < p) (p24 : p ≤ 24) (up : ∀ x ∈ ts, x < t) : isToothW (numS t) ts p = true := by
  unfold isToothW
  have v : valS (numS t) = t := valS_num (Nat.lt_of_le_of_lt (show t.natAbs ≤ 24 by omega) (by decide +kernel))
  have c : isCount (numS t) = true := isCount_num t0 (Int.lt_of_le_of_lt (show t ≤ 24 by omega) (by decide +kernel))
  rw [v, c, if_neg (by rintro (z | z); cases z; omega)]
  by_cases e : ts = []
  · rw [decide_eq_true e]; rfl
  · have l := up (ts.getLast e) (List.getLast_mem e)
    rw [List.getLastD_eq_getLast?, List.getLast?_eq_some_getLast e, Option.getD_some, decide_eq_true l, Bool.or_true]
theorem slash_no (ts : List Int) (p : Int) : isToothW ("/" : Str) ts p = false := by
  have c : isCount ("/" : Str) = false := by decide +kernel
  unfold isToothW
  rw [c, if_pos (.inl rfl)]
theorem eat_all {p : Int} (p24 : p ≤ 24) {rest : List Str} (hr : rest = [] ∨ ∃ r, rest = ("/" : Str) :: r) : ∀ (t2 t1 : List Int), (∀ t ∈ t2, 0 ≤ t ∧ t < p) → (t1 ++ t2).Pairwise (· < ·) → eatT p t1 (t2.map numS ++ rest) = t1 ++ t2
  | [], t1, _, _ => by
    rw [List.append_nil]
    rcases hr with rfl | ⟨r, rfl⟩
    · rfl
    · show (if isToothW ("/" : Str) t1 p = true then _ else t1) = t1
      rw [slash_no, if_neg (by simp)]
  | t :: t2, t1, b, up => by
    have b0 := b t (List.mem_cons_self ..)
    have up2 : ∀ x ∈ t1, x < t := fun x hx => (List.pairwise_append.mp up).2.2 x hx t (List.mem_cons_self ..)
    show (if isToothW (numS t) t1 p = true then eatT p (t1 ++ [valS (numS t)]) (t2.map numS ++ rest) else t1) = _
    rw [tooth_num b0.1 b0.2 p24 up2, if_pos rfl, valS_num (Nat.lt_of_le_of_lt (show t.natAbs ≤ 24 by omega) (by decide +kernel))]
    rw [eat_all p24 hr t2 (t1 ++ [t]) (fun x hx => b x (List.mem_cons_of_mem _ hx)) (by rw [List.append_assoc]; exact up), List.append_assoc]
    rfl
theorem pitch_word {c : Comb} (ok : c.Ok) : isPitchW (numS c.p ++ (":" : Str)) = true ∧ cutS (numS c.p ++ (":" : Str)) none (some (-1)) = numS c.p ∧ valS (numS c.p) = c.p := by
  have p1 := ok.p1
  have p24 := ok.p24
  have e : cutS (numS c.p ++ (":" : Str)) none (some (-1)) = numS c.p := cut_butLast _ 58 rfl
  have v : valS (numS c.p) = c.p := valS_num (Nat.lt_of_le_of_lt (show c.p.natAbs ≤ 24 by omega) (by decide +kernel))
  refine ⟨?_, e, v⟩
  unfold isPitchW
  rw [e, v, isCount_num (by omega) (Int.lt_of_le_of_lt (show c.p ≤ 24 by omega) (by decide +kernel)), decide_eq_true p1, decide_eq_true p24]
  show (Txt.endswith _ _ && true) = true
  rw [Bool.and_true]
  exact PySem.W.KT.ends_app _ _
theorem readComb_ok {c : Comb} (ok : c.Ok) (pre rest : List Str) (hr : rest = [] ∨ ∃ r, rest = ("/" : Str) :: r) : readComb (pre ++ combW c ++ rest) pre.length = .ok (c, pre.length + 1 + c.ts.length) := by
  obtain ⟨a1, a2, a3⟩ := pitch_word ok
  unfold readComb
  have g : (pre ++ combW c ++ rest)[pre.length]? = some (numS c.p ++ (":" : Str)) := by
    rw [List.append_assoc, List.getElem?_append_right (Nat.le_refl _), Nat.sub_self]
    rfl
  have d : (pre ++ combW c ++ rest).drop (pre.length + 1) = c.ts.map numS ++ rest := by
    rw [List.append_assoc, ← List.drop_drop, List.drop_left]
    rfl
  rw [g, d]
  show (if isPitchW (numS c.p ++ (":" : Str)) = true then _ else _) = _
  rw [if_pos a1, a2, a3]
  have e := eat_all (p := c.p) ok.p24 hr c.ts [] (fun t ht => ⟨ok.low t ht, ok.high t ht⟩) ok.up
  dsimp only
  rw [e, List.nil_append, if_neg ok.ne]
theorem readDev_ok {v : Dv} (ok : v.Ok) : readDev (devW v) = .ok v := by
  have h1 := readComb_ok ok.1 [] (("/" : Str) :: combW v.2) (.inr ⟨_, rfl⟩)
  have h2 := readComb_ok ok.2 (combW v.1 ++ [("/" : Str)]) [] (.inl rfl)
  have l1 : (combW v.1 ++ [("/" : Str)]).length = 1 + v.1.ts.length + 1 := by simp [combW]; omega
  rw [List.append_nil, l1] at h2
  rw [List.nil_append] at h1
  have e : combW v.1 ++ [("/" : Str)] ++ combW v.2 = devW v := by simp [devW]
  rw [e] at h2
  unfold readDev
  rw [show ([] : List Str).length = 0 from rfl, Nat.zero_add] at h1
  rw [show readComb (devW v) 0 = .ok (v.1, 1 + v.1.ts.length) from h1]
  have g : (devW v)[1 + v.1.ts.length]? = some ("/" : Str) := by
    have lc : (combW v.1).length = 1 + v.1.ts.length := by simp [combW]; omega
    rw [← lc, List.getElem?_append_right (Nat.le_refl _), Nat.sub_self]
    rfl
  show (if (devW v)[1 + v.1.ts.length]? = some ("/" : Str) then _ else _) = _
  rw [if_pos g, h2]
  show (if _ < (devW v).length then _ else _) = _
  rw [if_neg (by simp [devW, combW]; omega)]
theorem numS_zero : numS 0 = ("0" : Str) := rfl
theorem readMs_ok : ∀ (ms : List Int) (i : Nat), i + ms.length ≤ 40 → (∀ m ∈ ms, m ≠ 0 ∧ m.natAbs < 10 ^ 40) → readMs i (ms.map numS) = .ok ms
  | [], _, _, _ => rfl
  | m :: ms, i, hl, hm => by
    obtain ⟨m0, mb⟩ := hm m (List.mem_cons_self ..)
    rw [List.length_cons] at hl
    have ih := readMs_ok ms (i + 1) (by omega) fun x hx => hm x (List.mem_cons_of_mem _ hx)
    have mb6 : m.natAbs < 10 ^ 600 := Nat.lt_of_lt_of_le mb (by decide +kernel)
    show (if i = 40 ∨ isNum (numS m) = false ∨ numS m = ("0" : Str) then (Except.error i : Except Nat (List Int)) else (match readMs (i + 1) (ms.map numS) with
      | .error k => .error k
      | .ok ms => .ok (valS (numS m) :: ms))) = .ok (m :: ms)
    rw [if_neg (by
      rintro (z | z | z)
      · omega
      · rw [isNum_num mb] at z; cases z
      · exact m0 (numS_inj mb6 (by decide +kernel) (z.trans numS_zero.symm))), ih, valS_num mb6]
theorem readNum_ok {a : Int} {ws : List Str} {i : Nat} (h : ws[i]? = some (numS a)) (hb : a.natAbs < 10 ^ 40) : readNum ws i = .ok a := by
  unfold readNum
  rw [h]
  show (if isNum (numS a) = true then (Except.ok (valS (numS a)) : Except Nat Int) else _) = _
  rw [isNum_num hb, if_pos rfl, valS_num (Nat.lt_of_lt_of_le hb (by decide +kernel))]
end PD

/-! PD234: lengths of texts -/
namespace PD
open PySem PySem.Spec PyProof.Rows L2 Evl TL
theorem log2_num {i : Int} (h : i.natAbs < 10 ^ 150) : i.natAbs.log2 < 1920 := by
  by_cases z : i.natAbs = 0
  · rw [z]; decide
  · exact (Nat.log2_lt z).mpr (Nat.lt_trans h (by decide +kernel))
theorem joinL_len (S : List Nat) : ∀ ps : List (List Nat), (joinL S ps).length ≤ (ps.map (·.length)).sum + ps.length * S.length
  | [] => Nat.zero_le _
  | [p] => by simp [joinL]
  | p :: q :: r => by
    have ih := joinL_len S (q :: r)
    show (p ++ (S ++ joinL S (q :: r))).length ≤ _
    rw [List.length_append, List.length_append, List.map_cons, List.sum_cons, List.length_cons (a := p), Nat.add_mul]
    omega
theorem sum_le {ws : List Str} {B : Nat} (h : ∀ w ∈ ws, w.length ≤ B) : (ws.map (·.length)).sum ≤ ws.length * B := by
  induction ws with
  | nil => exact Nat.zero_le _
  | cons w ws ih =>
    have a := h w (List.mem_cons_self ..)
    have b := ih fun x hx => h x (List.mem_cons_of_mem _ hx)
    rw [List.map_cons, List.sum_cons, List.length_cons, Nat.add_mul]
    omega
theorem txt_len {y : Str} {ws : List Str} {B : Nat} (h : ∀ w ∈ ws, w.length ≤ B) : (Txt.join y ws).length ≤ ws.length * (B + y.length) := by
  rw [len_tl, tl_txt]
  have a := joinL_len (tl y) (ws.map tl)
  have b := sum_le h
  have e : ((ws.map tl).map (·.length)).sum = (ws.map (·.length)).sum := by
    rw [List.map_map]
    exact congrArg List.sum (List.map_congr_left fun w _ => (len_tl w).symm)
  rw [e, List.length_map, ← len_tl] at a
  rw [Nat.mul_add]
  exact Nat.le_trans a (Nat.add_le_add_right b _)
theorem numS_len150 {i : Int} (h : i.natAbs < 10 ^ 150) : (numS i).length ≤ 151 := numS_len (by decide) h
theorem nums_fit {ns : List Int} (l : ns.length ≤ 100) (b : ∀ n ∈ ns, n.natAbs < 10 ^ 150) : ((ns.map numS).map (·.length)).sum + (ns.map numS).length * (" " : Str).length ≤ 16777216 ∧ (numsT ns).length ≤ 15200 := by
  have hb : ∀ w ∈ ns.map numS, w.length ≤ 151 := fun w hw => by
    obtain ⟨n, hn, rfl⟩ := List.mem_map.mp hw
    exact numS_len150 (b n hn)
  have h1 := sum_le hb
  have h2 : (numsT ns).length ≤ _ := txt_len (y := (" " : Str)) hb
  have e : (" " : Str).length = 1 := rfl
  rw [e] at h2 ⊢
  rw [List.length_map] at h1 h2 ⊢
  have h3 : ns.length * 151 ≤ 100 * 151 := Nat.mul_le_mul_right _ l
  have h4 : ns.length * (151 + 1) ≤ 100 * 152 := Nat.mul_le_mul_right _ l
  exact ⟨by omega, by omega⟩
theorem app_len (a b : Str) : (a ++ b).length = a.length + b.length := PySem.Str.length_append ..
theorem combT_len {c : Comb} (ok : c.Ok) : (numsT c.ts).length ≤ 15200 ∧ c.ts.length ≤ 100 ∧ (∀ n ∈ c.ts, n.natAbs < 10 ^ 150) ∧ (numS c.p).length ≤ 151 ∧ (combT c).length ≤ 15400 := by
  have p1 := ok.p1
  have p24 := ok.p24
  have l := sorted_len ok.up ok.low ok.high
  have b : ∀ n ∈ c.ts, n.natAbs < 10 ^ 150 := fun n hn => by
    have := ok.low n hn
    have := ok.high n hn
    exact Nat.lt_of_le_of_lt (show n.natAbs ≤ 24 by omega) (by decide +kernel)
  have h := (nums_fit (show c.ts.length ≤ 100 by omega) b).2
  have q := numS_len150 (i := c.p) (Nat.lt_of_le_of_lt (show c.p.natAbs ≤ 24 by omega) (by decide +kernel))
  refine ⟨h, by omega, b, q, ?_⟩
  rw [app_len, app_len, app_len]
  have e1 : (": " : Str).length = 2 := rfl
  have e2 : Str.empty.length = 0 := rfl
  omega
theorem devT_len {v : Dv} (ok : v.Ok) : (devT v).length ≤ 31000 := by
  have a := (combT_len ok.1).2.2.2.2
  have b := (combT_len ok.2).2.2.2.2
  rw [app_len, app_len, app_len]
  have e1 : (" / " : Str).length = 3 := rfl
  have e2 : Str.empty.length = 0 := rfl
  omega
theorem stateT_len {s : Sv} (b1 : s.1.natAbs < 10 ^ 150) (b2 : s.2.natAbs < 10 ^ 150) : (stateT s).length ≤ 400 := by
  have a := numS_len150 b1
  have b := numS_len150 b2
  rw [app_len, app_len, app_len]
  have e1 : (" " : Str).length = 1 := rfl
  have e2 : Str.empty.length = 0 := rfl
  omega
abbrev WOk (ws : List Str) : Prop := ws.length < sizeLine ∧ ∀ w ∈ ws, w.length ≤ sizeLine
theorem nums_wok {ns : List Int} (l : ns.length ≤ 100) (b : ∀ n ∈ ns, n.natAbs < 10 ^ 150) : WOk (ns.map numS) := ⟨by rw [List.length_map]; exact Nat.lt_of_le_of_lt l (by decide), fun w hw => by
  obtain ⟨n, hn, rfl⟩ := List.mem_map.mp hw
  exact Nat.le_trans (numS_len150 (b n hn)) (by decide)⟩
theorem combW_wok {c : Comb} (ok : c.Ok) : (∀ w ∈ combW c, w.length ≤ sizeLine) ∧ (combW c).length ≤ 101 := by
  obtain ⟨h1, h2, h3, h4, _⟩ := combT_len ok
  refine ⟨fun w hw => ?_, by rw [List.length_cons, List.length_map]; omega⟩
  rcases List.mem_cons.mp hw with rfl | hw
  · rw [app_len]
    have e1 : (":" : Str).length = 1 := rfl
    exact Nat.le_trans (show _ ≤ 200 by omega) (by decide)
  · exact (nums_wok h2 h3).2 w hw
theorem devW_wok {v : Dv} (ok : v.Ok) : WOk (devW v) := by
  obtain ⟨a1, a2⟩ := combW_wok ok.1
  obtain ⟨b1, b2⟩ := combW_wok ok.2
  refine ⟨?_, fun w hw => ?_⟩
  · have e : (devW v).length = (combW v.1).length + ((combW v.2).length + 1) := by
      show (combW v.1 ++ ("/" : Str) :: combW v.2).length = _
      rw [List.length_append]
      rfl
    exact Nat.lt_of_le_of_lt (show _ ≤ 300 by omega) (by decide)
  · rcases List.mem_append.mp hw with hw | hw
    · exact a1 w hw
    · rcases List.mem_cons.mp hw with rfl | hw
      · exact Nat.le_trans (show ("/" : Str).length ≤ 1 from Nat.le_refl _) (by decide)
      · exact b1 w hw
end PD

/-! PD235: repr of data with texts of any length -/
namespace PD
open PySem PySem.Spec PyProof.Rows L2 Evl TL
def okL : Nat → D → Prop
  | _, .none => True
  | _, .bool _ => True
  | _, .int i => i.natAbs < 10 ^ 150
  | _, .str x => PyData.strOk x = true
  | n + 1, .list xs => ∀ x ∈ xs, okL n x
  | n + 1, .tuple xs => ∀ x ∈ xs, okL n x
  | 0, .list _ => False
  | 0, .tuple _ => False
  | _, .dict _ => False
mutual
def wg : D → Nat
  | .str x => 10 * x.length + 10
  | .list xs => wgA xs + 10
  | .tuple xs => wgA xs + 10
  | _ => 220
def wgA : List D → Nat
  | [] => 0
  | x :: xs => wg x + wgA xs
end
theorem okL_of : ∀ {n : Nat} {d : D}, okD n d → okL n d := by
  intro n
  induction n with
  | zero => intro d h; cases d <;> first | trivial | exact h | exact h.1 | exact h.elim
  | succ n ih => intro d h; cases d <;> first | trivial | exact h | exact h.1 | exact h.elim | exact fun x hx => ih (h x hx)
structure FineL (n : Nat) (d : D) : Prop where
  show_ : d.showable = true
  nodict : d.hasDict = false
  depth : d.depth ≤ n + 1
  lay : d.canLay0 = true
  len : d.shown.length + 2 ≤ wg d
structure FineLA (n : Nat) (ds : List D) : Prop where
  show_ : PyData.showableAll ds = true
  nodict : PyData.hasDictAll ds = false
  depth : PyData.depthAll ds ≤ n + 1
  lay : PyData.canLayAll0 ds = true
  len : ((PyData.shownAll ds).map (·.length)).sum + 2 * ds.length ≤ wgA ds
  same : (PyData.shownAll ds).length = ds.length
theorem fineLA_of {n : Nat} : ∀ {ds : List D}, (∀ x ∈ ds, FineL n x) → FineLA n ds
  | [], _ => ⟨rfl, rfl, Nat.zero_le _, rfl, Nat.zero_le _, rfl⟩
  | d :: ds, h => by
    have a := h d List.mem_cons_self
    have b := fineLA_of (ds := ds) fun x hx => h x (List.mem_cons_of_mem _ hx)
    refine ⟨?_, ?_, ?_, ?_, ?_, ?_⟩
    · simp only [PyData.showableAll, a.show_, b.show_, Bool.and_self]
    · simp only [PyData.hasDictAll, a.nodict, b.nodict, Bool.or_self]
    · simp only [PyData.depthAll]
      exact Nat.max_le.mpr ⟨a.depth, b.depth⟩
    · simp only [PyData.canLayAll0, a.lay, b.lay, Bool.and_self]
    · have e : wgA (d :: ds) = wg d + wgA ds := rfl
      have h1 := a.len
      have h2 := b.len
      rw [e]
      simp only [PyData.shownAll, List.map_cons, List.sum_cons, List.length_cons]
      omega
    · simp only [PyData.shownAll, List.length_cons, b.same]
theorem fineL_of : ∀ {n : Nat} {d : D}, okL n d → FineL n d := by
  intro n
  induction n with
  | zero =>
    intro d h
    cases d with
    | none => exact ⟨rfl, rfl, Nat.zero_le _, rfl, by decide⟩
    | bool b => exact ⟨rfl, rfl, Nat.zero_le _, rfl, by cases b <;> decide⟩
    | int i =>
      obtain ⟨a, b⟩ := int_shown (show i.natAbs < 10 ^ 150 from h)
      refine ⟨by simp only [PyData.showable, decide_eq_true_eq]; exact b, rfl, Nat.zero_le _, rfl, ?_⟩
      show (PyData.shown (.int i)).length + 2 ≤ 220
      omega
    | str x =>
      have a := (show PyData.strOk x = true from h)
      refine ⟨rfl, rfl, Nat.zero_le _, a, ?_⟩
      have h0 : ∀ c ∈ x.cps.toList, c < 16 ^ 8 := by
        intro c hc
        have a' : x.cps.all (· < 0x110000) = true := a
        have := (Array.all_eq_true_iff_forall_mem.mp a') c (Array.mem_toList_iff.mp hc)
        have e : (16 : Nat) ^ 8 = 4294967296 := by decide
        have q : c < 0x110000 := by simpa using this
        omega
      have := StrLaws.reprText_len x h0
      show (reprText x).length + 2 ≤ 10 * x.length + 10
      omega
    | list xs => exact (show False from h).elim
    | tuple xs => exact (show False from h).elim
    | dict _ => exact (show False from h).elim
  | succ n ih =>
    intro d h
    cases d with
    | none => exact ⟨rfl, rfl, Nat.zero_le _, rfl, by decide⟩
    | bool b => exact ⟨rfl, rfl, Nat.zero_le _, rfl, by cases b <;> decide⟩
    | int i =>
      obtain ⟨a, b⟩ := int_shown (show i.natAbs < 10 ^ 150 from h)
      refine ⟨by simp only [PyData.showable, decide_eq_true_eq]; exact b, rfl, Nat.zero_le _, rfl, ?_⟩
      show (PyData.shown (.int i)).length + 2 ≤ 220
      omega
    | str x =>
      have q := ih (d := .str x) (by cases n <;> exact h)
      exact ⟨q.show_, q.nodict, by have := q.depth; omega, q.lay, q.len⟩
    | list xs =>
      have a := fineLA_of fun x hx => ih ((show ∀ x ∈ xs, okL n x from h) x hx)
      refine ⟨by simp only [PyData.showable, a.show_], by simp only [PyData.hasDict, a.nodict], by simp only [PyData.depth]; have := a.depth; omega, by simp only [PyData.canLay0, a.lay], ?_⟩
      have e : wg (.list xs) = wgA xs + 10 := rfl
      have h1 := listText_len_le (PyData.shownAll xs)
      have h2 := a.len
      have h3 := a.same
      rw [e]
      simp only [PyData.shown]
      omega
    | tuple xs =>
      have a := fineLA_of fun x hx => ih ((show ∀ x ∈ xs, okL n x from h) x hx)
      refine ⟨by simp only [PyData.showable, a.show_], by simp only [PyData.hasDict, a.nodict], by simp only [PyData.depth]; have := a.depth; omega, by simp only [PyData.canLay0, a.lay], ?_⟩
      have e : wg (.tuple xs) = wgA xs + 10 := rfl
      have h1 := tupleText_len_le (PyData.shownAll xs)
      have h2 := a.len
      have h3 := a.same
      rw [e]
      simp only [PyData.shown]
      omega
    | dict _ => exact (show False from h).elim
def rReprL (K : PySem.W.Frag) : List V → Hp → VK → Prop := fun xs H Q => ∃ v d, xs = [v] ∧ Dp K H v d ∧ okL 20 d ∧ wg d ≤ sizeLine ∧ Q (.str d.shown) H
section
variable {X : Cx}
theorem call_reprL (hG : X.A.guards = some []) (hu : X.A.units + 64 < cLine) : CallR X (.builtin "repr") (rReprL X.K) := by
  intro pins s σ H xs us Q I r h
  obtain ⟨v, d, rfl, hd, ok, hc, q⟩ := h
  obtain ⟨u, rfl, ru⟩ := vals1 r
  obtain ⟨as, rd⟩ := Dp.reads I d v u hd ru
  have f := fineL_of ok
  have hz : d.shown.length ≤ sizeLine := by
    have := f.len
    omega
  cases hd with
  | non =>
    cases ru
    exact PySem.P.repr_of_none ⟨.str _, H, I.tok _, ⟨_, rfl⟩, q⟩
  | bl b =>
    cases ru
    refine PySem.P.repr_of_bool ⟨.str _, H, I.tok _, ⟨_, rfl⟩, ?_⟩
    exact q
  | int i =>
    obtain ⟨t, rfl⟩ := ru
    have b := f.show_
    simp only [PyData.showable, decide_eq_true_eq] at b
    exact PySem.P.repr_of_int b ⟨.str _, H, I.tok _, ⟨_, rfl⟩, q⟩
  | str x =>
    obtain ⟨t, rfl⟩ := ru
    exact PySem.P.repr_of_str ⟨.str _, H, I.tok _, ⟨_, rfl⟩, q⟩ hz
  | lst a b =>
    cases ru
    refine repr_of_reads' rd f.show_ (PyData.noDict_hsm f.nodict) hG (by have := f.depth; omega) (fun _ _ z => z) (fun h' u tk hk => ?_) hz
    exact ⟨.str _, H, I.kept hk, ⟨u, rfl⟩, q⟩
  | tup a b =>
    cases ru
    refine repr_of_reads' rd f.show_ (PyData.noDict_hsm f.nodict) hG (by have := f.depth; omega) (fun _ _ z => z) (fun h' u tk hk => ?_) hz
    exact ⟨.str _, H, I.kept hk, ⟨u, rfl⟩, q⟩
end
section
variable {c : Cn} {K : PySem.W.Frag} {ds : DS} {pl : List D} {Φ : W → List D → Prop}
theorem cb_reprL {d : D} (h1 : okL 20 d) (h2 : wg d ≤ sizeLine) (h : Φ (.d (.str d.shown)) pl) : CbS c (rReprL K) ds [d] pl Φ := fun G σ H vs hs f Q q => by
  obtain ⟨v, rfl, a⟩ := ra1 f
  exact ⟨v, d, rfl, R.dp _ _ (a.up hs.sub), h1, h2, q _ G H (.d _) pl hs (Ex.refl _) (R.str _) h⟩
end
theorem strOk_tl {x : Str} (h : ∀ k ∈ tl x, k < 128) : PyData.strOk x = true := by
  unfold PyData.strOk
  rw [Array.all_eq_true_iff_forall_mem]
  intro k hk
  have := h k (Array.mem_toList_iff.mpr hk)
  exact decide_eq_true (by omega)
end PD

/-! PD236: words that are read as numbers -/
namespace PD
open PySem PySem.Spec PyProof.Rows L2 Evl TL
theorem count_dig {w : Str} (h : isCount w = true) : w.length ≤ 40 ∧ tl w ≠ [] ∧ NumText.AllDigits (tl w) := by
  unfold isCount at h
  by_cases z : w = "" ∨ 40 < w.length
  · rw [if_pos z] at h; cases h
  · rw [if_neg z] at h
    by_cases z2 : w.cps.toList[0]? = some 48 ∧ 1 < w.length
    · rw [if_pos z2] at h; cases h
    · rw [if_neg z2, List.all_eq_true] at h
      exact ⟨by omega, fun e => z (.inl ((empty_iff w).mpr e)), fun k hk => (digB_iff k).mp (h k hk)⟩
theorem count_int {w : Str} (h : isCount w = true) : ∃ n : Int, intText? w = some n ∧ w.length ≤ 40 := by
  obtain ⟨l, ne, dg⟩ := count_dig h
  exact ⟨_, intText_digits dg ne (by omega), l⟩
theorem pitch_int {w : Str} (h : isPitchW w = true) : ∃ n : Int, intText? (cutS w none (some (-1))) = some n ∧ (cutS w none (some (-1))).length ≤ 40 := by
  unfold isPitchW at h
  rw [Bool.and_eq_true, Bool.and_eq_true] at h
  exact count_int h.2.1
theorem num_int {w : Str} (h : isNum w = true) : ∃ n : Int, intText? w = some n ∧ w.length ≤ 41 := by
  unfold isNum at h
  rw [starts_minus] at h
  by_cases z : (tl w)[0]? = some 45
  · rw [decide_eq_true z, if_pos rfl, Bool.and_eq_true] at h
    obtain ⟨l, ne, dg⟩ := count_dig h.1
    rw [cut_one] at ne dg
    rw [len_tl, cut_one, List.length_drop] at l
    cases q : tl w with
    | nil => rw [q] at z; cases z
    | cons a r =>
      rw [q] at z ne dg
      have ea : a = 45 := Option.some.inj z
      subst ea
      have l2 : w.length ≤ 41 := by rw [len_tl]; rw [q] at l ⊢; simp only [List.length_cons] at l ⊢; omega
      exact ⟨_, intText_neg (cs := r) q dg ne (by omega), l2⟩
  · rw [decide_eq_false z, if_neg (by simp)] at h
    obtain ⟨n, h1, h2⟩ := count_int h
    exact ⟨n, h1, by omega⟩
theorem eat_step {p : Int} {ts : List Int} {w : Str} {ws : List Str} (h : isToothW w ts p = true) : eatT p ts (w :: ws) = eatT p (ts ++ [valS w]) ws := by
  show (if isToothW w ts p = true then eatT p (ts ++ [valS w]) ws else ts) = _
  rw [if_pos h]
theorem eat_stop {p : Int} {ts : List Int} {w : Str} {ws : List Str} (h : isToothW w ts p = false) : eatT p ts (w :: ws) = ts := by
  show (if isToothW w ts p = true then eatT p (ts ++ [valS w]) ws else ts) = _
  rw [if_neg (by rw [h]; simp)]
theorem tooth_count {w : Str} {ts : List Int} {p : Int} (h : isToothW w ts p = true) : isCount w = true := by
  cases z : isCount w with
  | true => rfl
  | false =>
    unfold isToothW at h
    rw [if_pos (.inl z)] at h
    cases h
end PD

/-! PD237: owned lists lent to an expression that tells a number, a truth value, a text -/
namespace PD
open PySem PySem.Spec PyProof.Rows L2 Evl
def sca : D → Bool
  | .none => true
  | .bool _ => true
  | .int _ => true
  | .str _ => true
  | _ => false
theorem sca_R {x : D} (h : sca x = true) {G G' : Hp} {v : V} (r : R G v x) : R G' v x := by
  cases x with
  | none => cases r; exact .non
  | bool b => cases r; exact .bl b
  | int i => cases r; exact .int i
  | str s => cases r; exact .str s
  | list _ => cases h
  | tuple _ => cases h
  | dict _ => cases h
section
variable {c : Cn} {K : PySem.W.Frag} {ds : DS} {pl : List D} {Φ : W → List D → Prop}
theorem we_lendN {te : TE} {Φ : W → List D → Prop} {i : Nat} {xs : List D} (hi : ds[i]? = some (some (.o xs))) (only : ∀ (j : Nat) (ys : List D), ds[j]? = some (some (W.o ys)) → j = i) (h : WE c te (ds.set i (some (.d (.list xs)))) pl fun w p1 => ((∃ n, Pk n p1) ∨ c.pool = none) ∧ ∃ x : D, w = .d x ∧ sca x = true ∧ Φ (.d x) p1) : WE c te ds pl Φ := fun G σ H hs Q q => by
  obtain ⟨v, e1, p, vs, rfl, b1, b2, b3, b4, b5, b6, b7⟩ := hs.slots i _ hi
  have s2 : Ex G (upd G p (.lst vs)) := Ex.new b3
  have hlt : i < ds.length := (List.getElem?_eq_some_iff.mp hi).1
  have hs2 : HS c (upd G p (.lst vs)) σ H (ds.set i (some (.d (.list xs)))) pl := by
    refine ⟨fun a o q => ?_, fun a q => ?_, fun a q => ?_, fun a o q => ?_, hs.keep, fun q z => ?_, hs.pin, hs.hid, by rw [List.length_set]; exact hs.len, fun j w q => ?_, fun j k p' xs' ys q1 => ?_⟩
    · by_cases z : a = p
      · subst z; rw [upd_same] at q; cases q; exact b1
      · rw [upd_ne z] at q; exact hs.sub a o q
    · rw [upd_ne (fun z : a = p => b7 (z ▸ q))]; exact hs.gh a q
    · rw [upd_ne (fun z : a = p => b6 (z ▸ q))]; exact hs.gq a q
    · rw [upd_ne (fun z : a = p => by rw [z, b5] at q; cases q)]; exact hs.gn a o q
    · obtain ⟨c1, c2, vs', c3, c4⟩ := hs.pl q z
      exact ⟨c1, c2, vs', c3, c4.up s2⟩
    · by_cases e : i = j
      · subst e
        rw [List.getElem?_set_self hlt] at q
        cases q
        exact ⟨_, e1, R.lst upd_same (b2.up s2)⟩
      · rw [List.getElem?_set_ne e] at q
        obtain ⟨v, d1, d2⟩ := hs.slots j w q
        refine ⟨v, d1, ?_⟩
        cases w with
        | d x => exact R.up d2 s2
        | v x => exact d2
        | o ys => exact absurd (only j ys q).symm e
    · by_cases e : i = j
      · subst e; rw [List.getElem?_set_self hlt] at q1; cases q1
      · rw [List.getElem?_set_ne e] at q1; exact absurd (only j xs' q1).symm e
  refine h _ σ H hs2 _ ?_
  rintro y G' H' w p1 h1 e3 f3 ⟨g1, x, rfl, sx, g2⟩
  refine q y G H' (.d x) p1 ⟨(s2.trans e3).trans h1.sub, hs.gh, hs.gq, hs.gn, h1.keep, fun p' z => ?_, h1.pin, h1.hid, hs.len, fun j w qj => ?_, hs.own⟩ (Ex.refl _) (sca_R sx f3) g2
  · obtain ⟨c1, c2, us, c3, c4⟩ := h1.pl p' z
    rcases g1 with ⟨n, g1⟩ | g1
    · exact ⟨c1, c2, us, c3, ra_flat g1 c4⟩
    · rw [g1] at z; cases z
  · by_cases e : i = j
    · subst e
      rw [hi] at qj
      cases qj
      exact ⟨_, e1, p, vs, rfl, h1.sub _ _ (e3 _ _ upd_same), b2, b3, b4, b5, b6, b7⟩
    · obtain ⟨v, d1, d2⟩ := hs.slots j w qj
      refine ⟨v, d1, ?_⟩
      cases w with
      | d x => exact d2
      | v x => exact d2
      | o ys => exact absurd (only j ys qj).symm e
end
end PD

/-! PD238: moves read, step by step -/
namespace PD
open PySem PySem.Spec PyProof.Rows L2 Evl TL
theorem readMs_step {i : Nat} {w : Str} {ws : List Str} {r : List Int} (h : readMs i (w :: ws) = .ok r) : i ≠ 40 ∧ isNum w = true ∧ w ≠ ("0" : Str) ∧ ∃ r', readMs (i + 1) ws = .ok r' ∧ r = valS w :: r' := by
  have h' : (if i = 40 ∨ isNum w = false ∨ w = ("0" : Str) then (Except.error i : Except Nat (List Int)) else (match readMs (i + 1) ws with
    | .error k => .error k
    | .ok ms => .ok (valS w :: ms))) = .ok r := h
  by_cases z : i = 40 ∨ isNum w = false ∨ w = ("0" : Str)
  · rw [if_pos z] at h'; cases h'
  · rw [if_neg z] at h'
    have c2 : isNum w = true := by
      cases q : isNum w with
      | true => rfl
      | false => exact absurd (.inr (.inl q)) z
    refine ⟨fun e => z (.inl e), c2, fun e => z (.inr (.inr e)), ?_⟩
    cases q : readMs (i + 1) ws with
    | error e => rw [q] at h'; cases h'
    | ok r' => rw [q] at h'; cases h'; exact ⟨r', rfl, rfl⟩
end PD

/-! PD239: texts that can be shown -/
namespace PD
open PySem PySem.Spec PyProof.Rows L2 Evl TL
def Asc (w : Str) : Prop := ∀ k ∈ tl w, k < 128
theorem Asc.ok {w : Str} (h : Asc w) : PyData.strOk w = true := strOk_tl h
theorem Asc.app {a b : Str} (h : Asc a) (g : Asc b) : Asc (a ++ b) := fun k hk => by
  rw [tl_append] at hk
  rcases List.mem_append.mp hk with z | z
  · exact h k z
  · exact g k z
theorem asc_num (i : Int) : Asc (numS i) := fun k hk => by
  rcases (show i < 0 ∨ 0 ≤ i by omega) with z | z
  · obtain ⟨n, rfl⟩ : ∃ n : Nat, i = -(n : Int) := ⟨(-i).toNat, by omega⟩
    rw [tl_neg n (by omega)] at hk
    rcases List.mem_cons.mp hk with rfl | hk
    · decide
    · have := numL_digits n k hk; omega
  · obtain ⟨n, rfl⟩ : ∃ n : Nat, i = (n : Int) := ⟨i.toNat, by omega⟩
    rw [tl_nat] at hk
    have := numL_digits n k hk
    omega
theorem asc_joinL {S : List Nat} (hS : ∀ k ∈ S, k < 128) : ∀ {ps : List (List Nat)}, (∀ p ∈ ps, ∀ k ∈ p, k < 128) → ∀ k ∈ joinL S ps, k < 128
  | [], _, k, hk => nomatch hk
  | [p], h, k, hk => h p (List.mem_singleton.mpr rfl) k hk
  | p :: q :: r, h, k, hk => by
    have hk' : k ∈ p ++ (S ++ joinL S (q :: r)) := hk
    rcases List.mem_append.mp hk' with z | z
    · exact h p (List.mem_cons_self ..) k z
    · rcases List.mem_append.mp z with z | z
      · exact hS k z
      · exact asc_joinL hS (fun x hx => h x (List.mem_cons_of_mem _ hx)) k z
theorem asc_join {y : Str} (hy : Asc y) {ws : List Str} (h : ∀ w ∈ ws, Asc w) : Asc (Txt.join y ws) := fun k hk => by
  rw [tl_txt] at hk
  refine asc_joinL hy (fun p hp => ?_) k hk
  obtain ⟨w, hw, rfl⟩ := List.mem_map.mp hp
  exact h w hw
theorem asc_lit {s : Str} (h : (tl s).all (fun k => decide (k < 128)) = true) : Asc s := fun k hk => of_decide_eq_true (List.all_eq_true.mp h k hk)
theorem asc_nums (ns : List Int) : Asc (numsT ns) := asc_join (asc_lit (by decide +kernel)) fun w hw => by
  obtain ⟨n, _, rfl⟩ := List.mem_map.mp hw
  exact asc_num n
theorem asc_empty : Asc Str.empty := asc_lit (by decide +kernel)
theorem asc_comb (c : Comb) : Asc (combT c) := ((asc_empty.app (asc_num _)).app (asc_lit (by decide +kernel))).app (asc_nums _)
theorem asc_dev (v : Dv) : Asc (devT v) := ((asc_empty.app (asc_comb _)).app (asc_lit (by decide +kernel))).app (asc_comb _)
theorem asc_state (s : Sv) : Asc (stateT s) := ((asc_empty.app (asc_num _)).app (asc_lit (by decide +kernel))).app (asc_num _)
theorem wgA_ints : ∀ ns : List Int, wgA (ns.map PyData.int) = 220 * ns.length
  | [] => rfl
  | n :: ns => by
    show 220 + wgA (ns.map PyData.int) = 220 * (ns.length + 1)
    rw [wgA_ints ns]
    omega
theorem wg_ints (ns : List Int) : wg (.list (ns.map PyData.int)) = 220 * ns.length + 10 := by
  show wgA (ns.map PyData.int) + 10 = _
  rw [wgA_ints]
theorem wg_comb {c : Comb} (ok : c.Ok) : wg c.d ≤ 12000 := by
  have l := sorted_len ok.up ok.low ok.high
  have p24 := ok.p24
  show 220 + (wg (.list (c.ts.map PyData.int)) + 0) + 10 ≤ _
  rw [wg_ints]
  omega
theorem wg_dev {v : Dv} (ok : v.Ok) : wg v.d ≤ 24100 := by
  have a := wg_comb ok.1
  have b := wg_comb ok.2
  show wg v.1.d + (wg v.2.d + 0) + 10 ≤ _
  omega
theorem okL_int {n : Nat} {z : Int} (h : z.natAbs < 10 ^ 150) : okL n (.int z) := by cases n <;> exact h
theorem okL_str {n : Nat} {w : Str} (h : Asc w) : okL n (.str w) := by cases n <;> exact h.ok
theorem okL_ints {n : Nat} {ns : List Int} (h : ∀ m ∈ ns, m.natAbs < 10 ^ 150) : okL (n + 1) (.list (ns.map PyData.int)) := fun x hx => by
  obtain ⟨m, hm, rfl⟩ := List.mem_map.mp hx
  exact okL_int (h m hm)
abbrev txD (d : D) (t : Str) : D := .tuple [d, .str t]
end PD

/-! PD240: k44's texts -/
namespace PD
open PySem PySem.Spec PyProof.Rows L2 Evl TL
def rigs44 : List (Dv × Str) := [((⟨10, [0, 3]⟩, ⟨5, [0]⟩), "10: 0 3 / 5: 0"), ((⟨1, [0]⟩, ⟨1, [0]⟩), "1: 0 / 1: 0"), ((⟨24, [0, 7, 23]⟩, ⟨2, [0, 1]⟩), "24: 0 7 23 / 2: 0 1"), ((⟨2, [1]⟩, ⟨10, [9]⟩), "2: 1 / 10: 9"), ((⟨11, [10]⟩, ⟨3, [0, 1, 2]⟩), "11: 10 / 3: 0 1 2")]
def lists44 : List (List Int × Str) := [([], ""), ([7, -7], "7 -7"), ([-10], "-10"), ([100, 20, -3], "100 20 -3"), ([10 ^ 39, -1], "1" ++ Txt.mul "0" 39 ++ " -1"), (List.replicate 40 1, Txt.mul "1 " 39 ++ "1")]
def pairs44 : List (Sv × Str) := [((0, 0), "0 0"), ((3, -20), "3 -20"), ((-7, 100), "-7 100"), ((10 ^ 39, 5), "1" ++ Txt.mul "0" 39 ++ " 5"), ((4, -1), "4 -1"), ((-10, -1), "-10 -1")]
theorem rigs44_ok : ∀ q ∈ rigs44, q.1.Ok ∧ devT q.1 = q.2 := by
  have c : ∀ {c : Comb}, (decide (1 ≤ c.p) && (decide (c.p ≤ 24) && (decide (c.ts ≠ []) && (c.ts.all (fun t => decide (0 ≤ t)) && (c.ts.all (fun t => decide (t < c.p)) && decide (c.ts.Pairwise (· < ·))))))) = true → c.Ok := fun {c} h => by
    simp only [Bool.and_eq_true, decide_eq_true_eq, List.all_eq_true] at h
    exact ⟨h.1, h.2.1, h.2.2.1, h.2.2.2.1, h.2.2.2.2.1, h.2.2.2.2.2⟩
  intro q hq
  simp only [rigs44, List.mem_cons, List.not_mem_nil, or_false] at hq
  rcases hq with rfl | rfl | rfl | rfl | rfl
  · exact ⟨⟨c (by decide), c (by decide)⟩, by decide +kernel⟩
  · exact ⟨⟨c (by decide), c (by decide)⟩, by decide +kernel⟩
  · exact ⟨⟨c (by decide), c (by decide)⟩, by decide +kernel⟩
  · exact ⟨⟨c (by decide), c (by decide)⟩, by decide +kernel⟩
  · exact ⟨⟨c (by decide), c (by decide)⟩, by decide +kernel⟩
theorem lists44_ok : ∀ q ∈ lists44, numsT q.1 = q.2 ∧ q.1.length ≤ 40 ∧ ∀ m ∈ q.1, m ≠ 0 ∧ m.natAbs < 10 ^ 40 := by
  have c : ∀ {ms : List Int}, (ms.all fun m => decide (m ≠ 0) && decide (m.natAbs < 10 ^ 40)) = true → ∀ m ∈ ms, m ≠ 0 ∧ m.natAbs < 10 ^ 40 := fun {ms} h m hm => by
    have := List.all_eq_true.mp h m hm
    rw [Bool.and_eq_true, decide_eq_true_eq, decide_eq_true_eq] at this
    exact this
  intro q hq
  simp only [lists44, List.mem_cons, List.not_mem_nil, or_false] at hq
  rcases hq with rfl | rfl | rfl | rfl | rfl | rfl
  all_goals exact ⟨by decide +kernel, by decide +kernel, c (by decide +kernel)⟩
theorem pairs44_ok : ∀ q ∈ pairs44, stateT q.1 = q.2 ∧ q.1.1.natAbs < 10 ^ 40 ∧ q.1.2.natAbs < 10 ^ 40 ∧ held (⟨10, [0, 3]⟩, ⟨5, [0]⟩) q.1 = true := by
  intro q hq
  simp only [pairs44, List.mem_cons, List.not_mem_nil, or_false] at hq
  rcases hq with rfl | rfl | rfl | rfl | rfl | rfl
  all_goals exact ⟨by decide +kernel, by decide +kernel, by decide +kernel, by decide +kernel⟩
end PD

/-! PD241: f() -/
namespace PD
open PySem PySem.Spec PyProof.Rows L2 Evl
section
variable {X : Cx} {k : Nat} {ps : List Str} {sp : Sp} {E : XK} {x : Str} {p pos : Pos}
theorem pe_callD0 (F : Df X.prog X.w X.K X.mg X.base k x ps sp) (hG : X.A.guards = some []) (hr : Room k X.A) (hg : Gl X x)
    (hdb : (x == ("__debug__" : Str)) = false := by decide) : PE X (.Call (.Name x p) [] [] pos) (tCall sp [] E0 tNil) := by
  obtain ⟨f, fd, G, m, kp, b, _⟩ := F
  refine ⟨fun pins s σ H Q I h => ?_⟩
  refine wpAny_Call_Name_kw (ld_glob I hg m ?_ hdb)
  exact PySem.W.callWith_K0 I.kIn kp (fg_run (us := []) (vs := []) hG G hr b I .nil h)
end
end PD

/-! PD242: the same is not unlike -/
namespace PD
theorem ne_self {α : Type} [DecidableEq α] (a : α) : (!decide (a = a)) = false := by simp
end PD

namespace K
open PySem PySem.Spec PyProof.Rows L2 Evl PD
/-! ### the text of the program and of the law, by places -/
def topS (i : Nat) : Stmt := PySem.Challenge.pw_twocombs_k44_written_texts.main.body.getD i (.Pass ⟨0, 0, 0, 0⟩)
abbrev s_is_whole : Stmt := topS 5
theorem sc_is_whole : FnScope ["value"] ["value"] (defScope s_is_whole) := ⟨rfl, rfl, rfl, by decide +kernel, rfl, by decide +kernel, by decide +kernel⟩
abbrev s_is_pair : Stmt := topS 6
theorem sc_is_pair : FnScope ["value"] ["value"] (defScope s_is_pair) := ⟨rfl, rfl, rfl, by decide +kernel, rfl, by decide +kernel, by decide +kernel⟩
abbrev s_catches : Stmt := topS 9
theorem sc_catches : FnScope ["comb", "number", "pitch", "teeth"] ["comb", "number"] (defScope s_catches) := ⟨rfl, rfl, rfl, by decide +kernel, rfl, by decide +kernel, by decide +kernel⟩
abbrev s_is_pitch : Stmt := topS 10
theorem sc_is_pitch : FnScope ["value"] ["value"] (defScope s_is_pitch) := ⟨rfl, rfl, rfl, by decide +kernel, rfl, by decide +kernel, by decide +kernel⟩
abbrev s_are_teeth : Stmt := topS 11
theorem sc_are_teeth : FnScope ["value", "pitch", "low", "high", "tooth"] ["value", "pitch"] (defScope s_are_teeth) := ⟨rfl, rfl, rfl, by decide +kernel, rfl, by decide +kernel, by decide +kernel⟩
abbrev s_check_device : Stmt := topS 12
theorem sc_check_device : FnScope ["device", "index", "comb"] ["device"] (defScope s_check_device) := ⟨rfl, rfl, rfl, by decide +kernel, rfl, by decide +kernel, by decide +kernel⟩
abbrev s_is_comb : Stmt := topS 13
theorem sc_is_comb : FnScope ["value"] ["value"] (defScope s_is_comb) := ⟨rfl, rfl, rfl, by decide +kernel, rfl, by decide +kernel, by decide +kernel⟩
abbrev s_is_held : Stmt := topS 16
theorem sc_is_held : FnScope ["device", "height", "hand", "ground", "grip"] ["device", "height", "hand"] (defScope s_is_held) := ⟨rfl, rfl, rfl, by decide +kernel, rfl, by decide +kernel, by decide +kernel⟩
abbrev s_numbers_text : Stmt := topS 20
theorem sc_numbers_text : FnScope ["numbers", "number"] ["numbers"] (defScope s_numbers_text) := ⟨rfl, rfl, rfl, by decide +kernel, rfl, by decide +kernel, by decide +kernel⟩
abbrev s_comb_text : Stmt := topS 21
theorem sc_comb_text : FnScope ["comb", "pitch", "teeth"] ["comb"] (defScope s_comb_text) := ⟨rfl, rfl, rfl, by decide +kernel, rfl, by decide +kernel, by decide +kernel⟩
abbrev s_format_device : Stmt := topS 22
theorem sc_format_device : FnScope ["device", "ground", "grip"] ["device"] (defScope s_format_device) := ⟨rfl, rfl, rfl, by decide +kernel, rfl, by decide +kernel, by decide +kernel⟩
abbrev s_format_moves : Stmt := topS 23
theorem sc_format_moves : FnScope ["moves"] ["moves"] (defScope s_format_moves) := ⟨rfl, rfl, rfl, by decide +kernel, rfl, by decide +kernel, by decide +kernel⟩
abbrev s_format_state : Stmt := topS 24
theorem sc_format_state : FnScope ["state", "height", "hand"] ["state"] (defScope s_format_state) := ⟨rfl, rfl, rfl, by decide +kernel, rfl, by decide +kernel, by decide +kernel⟩
abbrev s_is_count : Stmt := topS 25
theorem sc_is_count : FnScope ["word", "sign"] ["word"] (defScope s_is_count) := ⟨rfl, rfl, rfl, by decide +kernel, rfl, by decide +kernel, by decide +kernel⟩
abbrev s_is_number : Stmt := topS 26
theorem sc_is_number : FnScope ["word"] ["word"] (defScope s_is_number) := ⟨rfl, rfl, rfl, by decide +kernel, rfl, by decide +kernel, by decide +kernel⟩
abbrev s_is_pitch_word : Stmt := topS 27
theorem sc_is_pitch_word : FnScope ["word"] ["word"] (defScope s_is_pitch_word) := ⟨rfl, rfl, rfl, by decide +kernel, rfl, by decide +kernel, by decide +kernel⟩
abbrev s_is_tooth_word : Stmt := topS 28
theorem sc_is_tooth_word : FnScope ["word", "teeth", "pitch"] ["word", "teeth", "pitch"] (defScope s_is_tooth_word) := ⟨rfl, rfl, rfl, by decide +kernel, rfl, by decide +kernel, by decide +kernel⟩
abbrev s_read_comb : Stmt := topS 29
theorem sc_read_comb : FnScope ["words", "at", "pitch", "place", "teeth"] ["words", "at"] (defScope s_read_comb) := ⟨rfl, rfl, rfl, by decide +kernel, rfl, by decide +kernel, by decide +kernel⟩
abbrev s_read_device : Stmt := topS 30
theorem sc_read_device : FnScope ["words", "ground", "at", "grip", "end"] ["words"] (defScope s_read_device) := ⟨rfl, rfl, rfl, by decide +kernel, rfl, by decide +kernel, by decide +kernel⟩
abbrev s_read_moves : Stmt := topS 31
theorem sc_read_moves : FnScope ["words", "moves", "index", "word"] ["words"] (defScope s_read_moves) := ⟨rfl, rfl, rfl, by decide +kernel, rfl, by decide +kernel, by decide +kernel⟩
abbrev s_read_number : Stmt := topS 32
theorem sc_read_number : FnScope ["words", "at"] ["words", "at"] (defScope s_read_number) := ⟨rfl, rfl, rfl, by decide +kernel, rfl, by decide +kernel, by decide +kernel⟩
abbrev s_text_words : Stmt := topS 33
theorem sc_text_words : FnScope ["text"] ["text"] (defScope s_text_words) := ⟨rfl, rfl, rfl, by decide +kernel, rfl, by decide +kernel, by decide +kernel⟩
abbrev s_parse_device : Stmt := topS 34
theorem sc_parse_device : FnScope ["text"] ["text"] (defScope s_parse_device) := ⟨rfl, rfl, rfl, by decide +kernel, rfl, by decide +kernel, by decide +kernel⟩
abbrev s_parse_moves : Stmt := topS 35
theorem sc_parse_moves : FnScope ["text", "words"] ["text"] (defScope s_parse_moves) := ⟨rfl, rfl, rfl, by decide +kernel, rfl, by decide +kernel, by decide +kernel⟩
abbrev s_parse_state : Stmt := topS 36
theorem sc_parse_state : FnScope ["device", "text", "words", "height", "hand"] ["device", "text"] (defScope s_parse_state) := ⟨rfl, rfl, rfl, by decide +kernel, rfl, by decide +kernel, by decide +kernel⟩
abbrev s__law_rigs : Stmt := topS 38
theorem sc__law_rigs : FnScope ["found"] [] (defScope s__law_rigs) := ⟨rfl, rfl, rfl, by decide +kernel, rfl, by decide +kernel, by decide +kernel⟩
abbrev s__law_lists : Stmt := topS 39
theorem sc__law_lists : FnScope ["found"] [] (defScope s__law_lists) := ⟨rfl, rfl, rfl, by decide +kernel, rfl, by decide +kernel, by decide +kernel⟩
abbrev s__law_pairs : Stmt := topS 40
theorem sc__law_pairs : FnScope ["found"] [] (defScope s__law_pairs) := ⟨rfl, rfl, rfl, by decide +kernel, rfl, by decide +kernel, by decide +kernel⟩
abbrev s_law : Stmt := topS 41
theorem sc_law : FnScope ["script", "rig", "written", "rows", "pair"] ["script"] (defScope s_law) := ⟨rfl, rfl, rfl, by decide +kernel, rfl, by decide +kernel, by decide +kernel⟩
structure Tx (K : PySem.W.Frag) (mg : Str → Option Value) : Prop where
  n_all : mg "all" = none
  n_bool : mg "bool" = none
  n_enumerate : mg "enumerate" = none
  n_int : mg "int" = none
  n_isinstance : mg "isinstance" = none
  n_len : mg "len" = none
  n_list : mg "list" = none
  n_repr : mg "repr" = none
  n_str : mg "str" = none
  n_tuple : mg "tuple" = none
  n_zip : mg "zip" = none
  c_DIGITS : ∃ t, mg "DIGITS" = some (.str "0123456789" t)
  c_MOST_DIGITS : ∃ t, mg "MOST_DIGITS" = some (.int 40 t)
  c_MOST_MOVES : ∃ t, mg "MOST_MOVES" = some (.int 40 t)
  c_MOST_PITCH : ∃ t, mg "MOST_PITCH" = some (.int 24 t)
  k_parse_state_kw_text_device : KwOk K mg "parse_state" ["device", "text"] ["text", "device"] [1, 0]
  k_format_state_kw_state : KwOk K mg "format_state" ["state"] ["state"] [0]
  k_parse_moves_kw_text : KwOk K mg "parse_moves" ["text"] ["text"] [0]
  k_format_moves_kw_moves : KwOk K mg "format_moves" ["moves"] ["moves"] [0]
  k_parse_device_kw_text : KwOk K mg "parse_device" ["text"] ["text"] [0]
  k_format_device_kw_device : KwOk K mg "format_device" ["device"] ["device"] [0]

abbrev F_is_whole := det (fun d : D => [d]) (fun _ => True) (fun d => .bool (isWhole d))
abbrev D_is_whole_ (P : Program) (w : World) (K : PySem.W.Frag) (mg : Str → Option Value) (base : Heap) := Df P w K mg base 1 "is_whole" ["value"] (spP F_is_whole)

abbrev F_is_pair := det (fun d : D => [d]) (fun _ => True) (fun d => .bool (isPair d))
abbrev D_is_pair_ (P : Program) (w : World) (K : PySem.W.Frag) (mg : Str → Option Value) (base : Heap) := Df P w K mg base 1 "is_pair" ["value"] (spP F_is_pair)

abbrev F_catches := det (fun a : Comb × Int => [a.1.d, .int a.2]) (fun a => 0 < a.1.p) (fun a => .bool (caught a.1 a.2))
abbrev D_catches_ (P : Program) (w : World) (K : PySem.W.Frag) (mg : Str → Option Value) (base : Heap) := Df P w K mg base 1 "catches" ["comb", "number"] (spP F_catches)

abbrev F_numbers_text := det (fun ns : List Int => [.list (ns.map PyData.int)]) (fun ns => ns.length ≤ 100 ∧ ∀ n ∈ ns, n.natAbs < 10 ^ 150) (fun ns => .str (numsT ns))
abbrev D_numbers_text_ (P : Program) (w : World) (K : PySem.W.Frag) (mg : Str → Option Value) (base : Heap) := Df P w K mg base 1 "numbers_text" ["numbers"] (spP F_numbers_text)

abbrev F_format_state := det (fun s : Sv => [s.d]) (fun s => s.1.natAbs < 10 ^ 150 ∧ s.2.natAbs < 10 ^ 150) (fun s => .str (stateT s))
abbrev D_format_state_ (P : Program) (w : World) (K : PySem.W.Frag) (mg : Str → Option Value) (base : Heap) := Df P w K mg base 1 "format_state" ["state"] (spP F_format_state)

abbrev F_is_count := det (fun w : Str => [.str w]) (fun w => w.length ≤ sizeLine) (fun w => .bool (isCount w))
abbrev D_is_count_ (P : Program) (w : World) (K : PySem.W.Frag) (mg : Str → Option Value) (base : Heap) := Df P w K mg base 1 "is_count" ["word"] (spP F_is_count)

abbrev F_text_words := det (fun t : Str => [.str t]) (fun t => t.length + 2 ≤ sizeLine) (fun t => strsD (Txt.split t " "))
abbrev D_text_words_ (P : Program) (w : World) (K : PySem.W.Frag) (mg : Str → Option Value) (base : Heap) := Df P w K mg base 1 "text_words" ["text"] (spP F_text_words)

abbrev F__law_rigs := det (fun _ : Unit => []) (fun _ => True) (fun _ => .list (rigs44.map fun q => txD q.1.d q.2))
abbrev D__law_rigs_ (P : Program) (w : World) (K : PySem.W.Frag) (mg : Str → Option Value) (base : Heap) := Df P w K mg base 1 "_law_rigs" [] (spP F__law_rigs)

abbrev F__law_lists := det (fun _ : Unit => []) (fun _ => True) (fun _ => .list (lists44.map fun q => txD (.list (q.1.map PyData.int)) q.2))
abbrev D__law_lists_ (P : Program) (w : World) (K : PySem.W.Frag) (mg : Str → Option Value) (base : Heap) := Df P w K mg base 1 "_law_lists" [] (spP F__law_lists)

abbrev F__law_pairs := det (fun _ : Unit => []) (fun _ => True) (fun _ => .list (pairs44.map fun q => txD q.1.d q.2))
abbrev D__law_pairs_ (P : Program) (w : World) (K : PySem.W.Frag) (mg : Str → Option Value) (base : Heap) := Df P w K mg base 1 "_law_pairs" [] (spP F__law_pairs)

abbrev F_is_pitch := det (fun d : D => [d]) (fun _ => True) (fun d => .bool (isPitch d))
abbrev D_is_pitch_ (P : Program) (w : World) (K : PySem.W.Frag) (mg : Str → Option Value) (base : Heap) := Df P w K mg base 2 "is_pitch" ["value"] (spP F_is_pitch)

abbrev F_are_teeth := det (fun c : Comb => [.list (c.ts.map PyData.int), .int c.p]) Comb.Ok (fun _ => .bool true)
abbrev D_are_teeth_ (P : Program) (w : World) (K : PySem.W.Frag) (mg : Str → Option Value) (base : Heap) := Df P w K mg base 2 "are_teeth" ["value", "pitch"] (spP F_are_teeth)

abbrev F_is_held := det (fun a : Dv × Sv => [a.1.d, .int a.2.1, .int a.2.2]) (fun a => a.1.Ok) (fun a => .bool (held a.1 a.2))
abbrev D_is_held_ (P : Program) (w : World) (K : PySem.W.Frag) (mg : Str → Option Value) (base : Heap) := Df P w K mg base 2 "is_held" ["device", "height", "hand"] (spP F_is_held)

abbrev F_comb_text := det (fun cb : Comb => [cb.d]) Comb.Ok (fun cb => .str (combT cb))
abbrev D_comb_text_ (P : Program) (w : World) (K : PySem.W.Frag) (mg : Str → Option Value) (base : Heap) := Df P w K mg base 2 "comb_text" ["comb"] (spP F_comb_text)

abbrev F_format_moves := det (fun ns : List Int => [.list (ns.map PyData.int)]) (fun ns => ns.length ≤ 100 ∧ ∀ n ∈ ns, n.natAbs < 10 ^ 150) (fun ns => .str (numsT ns))
abbrev D_format_moves_ (P : Program) (w : World) (K : PySem.W.Frag) (mg : Str → Option Value) (base : Heap) := Df P w K mg base 2 "format_moves" ["moves"] (spP F_format_moves)

abbrev F_is_number := det (fun w : Str => [.str w]) (fun w => w.length ≤ sizeLine) (fun w => .bool (isNum w))
abbrev D_is_number_ (P : Program) (w : World) (K : PySem.W.Frag) (mg : Str → Option Value) (base : Heap) := Df P w K mg base 2 "is_number" ["word"] (spP F_is_number)

abbrev F_is_pitch_word := det (fun w : Str => [.str w]) (fun w => w.length ≤ sizeLine) (fun w => .bool (isPitchW w))
abbrev D_is_pitch_word_ (P : Program) (w : World) (K : PySem.W.Frag) (mg : Str → Option Value) (base : Heap) := Df P w K mg base 2 "is_pitch_word" ["word"] (spP F_is_pitch_word)

abbrev F_is_tooth_word := det (fun a : Str × List Int × Int => [.str a.1, .list (a.2.1.map PyData.int), .int a.2.2]) (fun a => a.1.length ≤ sizeLine) (fun a => .bool (isToothW a.1 a.2.1 a.2.2))
abbrev D_is_tooth_word_ (P : Program) (w : World) (K : PySem.W.Frag) (mg : Str → Option Value) (base : Heap) := Df P w K mg base 2 "is_tooth_word" ["word", "teeth", "pitch"] (spP F_is_tooth_word)

abbrev F_is_comb := det (fun c : Comb => [c.d]) Comb.Ok (fun _ => .bool true)
abbrev D_is_comb_ (P : Program) (w : World) (K : PySem.W.Frag) (mg : Str → Option Value) (base : Heap) := Df P w K mg base 3 "is_comb" ["value"] (spP F_is_comb)

abbrev F_format_device := det (fun v : Dv => [v.d]) Dv.Ok (fun v => .str (devT v))
abbrev D_format_device_ (P : Program) (w : World) (K : PySem.W.Frag) (mg : Str → Option Value) (base : Heap) := Df P w K mg base 3 "format_device" ["device"] (spP F_format_device)

abbrev F_read_comb := rel (fun a : List Str × Nat => [strsD a.1, .int (a.2 : Int)]) (fun a => WOk a.1 ∧ a.2 ≤ a.1.length ∧ ∃ r, readComb a.1 a.2 = .ok r) (fun a d => ∃ cb i, readComb a.1 a.2 = .ok (cb, i) ∧ d = .tuple [cb.d, .int (i : Int)])
abbrev D_read_comb_ (P : Program) (w : World) (K : PySem.W.Frag) (mg : Str → Option Value) (base : Heap) := Df P w K mg base 3 "read_comb" ["words", "at"] (spP F_read_comb)

abbrev F_read_moves := rel (fun ws : List Str => [strsD ws]) (fun ws => WOk ws ∧ ∃ ms, readMs 0 ws = .ok ms) (fun ws d => ∃ ms : List Int, readMs 0 ws = .ok ms ∧ d = .list (ms.map PyData.int))
abbrev D_read_moves_ (P : Program) (w : World) (K : PySem.W.Frag) (mg : Str → Option Value) (base : Heap) := Df P w K mg base 3 "read_moves" ["words"] (spP F_read_moves)

abbrev F_read_number := rel (fun a : List Str × Nat => [strsD a.1, .int (a.2 : Int)]) (fun a => WOk a.1 ∧ a.2 ≤ a.1.length ∧ ∃ n, readNum a.1 a.2 = .ok n) (fun a d => ∃ n : Int, readNum a.1 a.2 = .ok n ∧ d = .int n)
abbrev D_read_number_ (P : Program) (w : World) (K : PySem.W.Frag) (mg : Str → Option Value) (base : Heap) := Df P w K mg base 3 "read_number" ["words", "at"] (spP F_read_number)

abbrev F_check_device := det (fun v : Dv => [v.d]) Dv.Ok (fun _ => .none)
abbrev D_check_device_ (P : Program) (w : World) (K : PySem.W.Frag) (mg : Str → Option Value) (base : Heap) := Df P w K mg base 4 "check_device" ["device"] (spP F_check_device)

abbrev F_read_device := rel (fun ws : List Str => [strsD ws]) (fun ws => WOk ws ∧ ∃ v, readDev ws = .ok v) (fun ws d => ∃ v : Dv, readDev ws = .ok v ∧ d = v.d)
abbrev D_read_device_ (P : Program) (w : World) (K : PySem.W.Frag) (mg : Str → Option Value) (base : Heap) := Df P w K mg base 4 "read_device" ["words"] (spP F_read_device)

abbrev F_parse_moves := rel (fun t : Str => [.str t]) (fun t => t.length + 2 ≤ sizeLine ∧ (t ≠ "" → WOk (Txt.split t " ") ∧ ∃ ms, readMs 0 (Txt.split t " ") = .ok ms)) (fun t d => ∃ ms : List Int, (if t = "" then ms = [] else readMs 0 (Txt.split t " ") = .ok ms) ∧ d = .list (ms.map PyData.int))
abbrev D_parse_moves_ (P : Program) (w : World) (K : PySem.W.Frag) (mg : Str → Option Value) (base : Heap) := Df P w K mg base 4 "parse_moves" ["text"] (spP F_parse_moves)

abbrev F_parse_device := rel (fun t : Str => [.str t]) (fun t => t.length + 2 ≤ sizeLine ∧ WOk (Txt.split t " ") ∧ ∃ v, readDev (Txt.split t " ") = .ok v) (fun t d => ∃ v : Dv, readDev (Txt.split t " ") = .ok v ∧ d = v.d)
abbrev D_parse_device_ (P : Program) (w : World) (K : PySem.W.Frag) (mg : Str → Option Value) (base : Heap) := Df P w K mg base 5 "parse_device" ["text"] (spP F_parse_device)

abbrev F_parse_state := rel (fun a : Dv × Str => [a.1.d, .str a.2]) (fun a => a.1.Ok ∧ a.2.length + 2 ≤ sizeLine ∧ ∃ x y : Int, Txt.split a.2 " " = [numS x, numS y] ∧ x.natAbs < 10 ^ 40 ∧ y.natAbs < 10 ^ 40 ∧ held a.1 (x, y) = true) (fun a d => ∃ x y : Int, Txt.split a.2 " " = [numS x, numS y] ∧ x.natAbs < 10 ^ 40 ∧ y.natAbs < 10 ^ 40 ∧ d = Sv.d (x, y))
abbrev D_parse_state_ (P : Program) (w : World) (K : PySem.W.Frag) (mg : Str → Option Value) (base : Heap) := Df P w K mg base 5 "parse_state" ["device", "text"] (spP F_parse_state)

local macro_rules | `(tactic| walk_at "nz") => `(tactic| try dsimp only [nox_K, blk_K, slotsD, slotsO, wipeD, List.map, List.length_cons, List.length_nil, Nat.reduceAdd, Nat.reduceSub, List.replicate_succ, List.replicate_zero, List.cons_append, List.nil_append, List.set_cons_zero, List.set_cons_succ, isD, isI, isB, isS, rtD, rtN, rtO])
local macro_rules | `(tactic| walk_at "pd") => `(tactic| first
  | ((with_reducible refine ws_seq ?_); walk_at "nz")
  | ((with_reducible refine ws_ret ?_); walk_at "nz")
  | ((with_reducible refine ws_if ?_); walk_at "nz")
  | (with_reducible refine ws_next ?_)
  | ((with_reducible refine ws_app (xs := ?wvar) ?hvar ?_); (case hvar => rfl))
  | (with_reducible refine ws_drop ?_)
  | ((with_reducible refine ws_unpN ?hunp ?_); (case hunp => rfl))
  | ((with_reducible refine ws_set ?_); walk_at "nz")
  | (with_reducible refine wt_and ?_)
  | (with_reducible refine wt_or ?_)
  | (with_reducible refine wt_not ?_)
  | (with_reducible refine wt_T ?_)
  | (with_reducible refine wt_B ?_)
  | (with_reducible refine wt_tru ?_)
  | (with_reducible refine wt_yes ?_)
  | ((with_reducible refine we_isi ?hisi ?_); (case hisi => decide))
  | (with_reducible refine we_andV ?_)
  | (with_reducible refine we_orV ?_)
  | (with_reducible refine we_notV ?_)
  | (with_reducible refine we_if ?_)
  | ((with_reducible refine we_var (w := ?wvar) ?hvar ?_); (case hvar => rfl))
  | (with_reducible refine we_int ?_)
  | (with_reducible refine we_bl ?_)
  | (with_reducible refine we_non ?_)
  | (with_reducible refine we_str ?_)
  | (with_reducible refine we_neg ?_)
  | ((with_reducible refine we_ixS (a := ?sa) (ns := ?sns) ?hS ?hvar ?_); (case hS => assumption); (case hvar => rfl))
  | ((with_reducible refine we_lenS (a := ?sa) (ns := ?sns) ?hS ?hvar ?_); (case hS => assumption); (case hvar => rfl))
  | ((with_reducible refine we_ixP (p := ?pp) ?hvar ?hpp ?_); (case hvar => rfl); (case hpp => assumption))
  | ((with_reducible refine ws_setP (p := ?pp) ?hvar ?hpp ?_); (case hvar => rfl); (case hpp => assumption))
  | ((with_reducible refine we_opV (xs := ?wvar) ?hvar ?_); (case hvar => rfl))
  | (with_reducible refine we_op ?_)
  | ((with_reducible refine we_lenO (xs := ?wvar) ?hvar ?_); (case hvar => rfl))
  | (with_reducible refine we_cb ?_)
  | (with_reducible refine wa_cons ?_)
  | (with_reducible refine wa_nil ?_)
  | (with_reducible refine we_tup ?_)
  | (with_reducible refine cb_lenT ?_)
  | (with_reducible refine cb_lenL ?_)
  | (with_reducible refine cb_max2 ?_)
  | (with_reducible refine cb_min2 ?_)
  | (with_reducible refine cb_abs ?_)
  | (with_reducible refine cb_int ?_)
  | (with_reducible refine cb_intB ?_)
  | (with_reducible refine os_eqI ?_)
  | (with_reducible refine os_neI ?_)
  | (with_reducible refine os_addI ?_)
  | (with_reducible refine os_sub ?_)
  | (with_reducible refine os_lt ?_)
  | (with_reducible refine os_le ?_)
  | (with_reducible refine os_gt ?_)
  | (with_reducible refine os_ge ?_)
  | (with_reducible refine os_t0 ?_)
  | (with_reducible refine os_t1 ?_)
  | (with_reducible refine os_l0 ?_)
  | (with_reducible refine os_l1 ?_)
  | ((with_reducible refine iteV ?iteh ?_); (case iteh => rfl))
  | ((with_reducible refine iteN ?iteh ?_); (case iteh => rfl))
  | ((with_reducible refine And.intro ?hand ?_); (case hand => first | rfl | decide | (simp only [List.length_cons, List.length_nil]; decide)))
  | ((with_reducible refine ⟨?wx, ?wy, ?hex, ?_⟩); (case hex => rfl)))
local macro_rules | `(tactic| walk_at "go") => `(tactic| repeat walk_at "pd")

section
variable {P : Program} {w : World} {K : PySem.W.Frag} {mg : Str → Option Value} {base : Heap}
theorem ok_is_whole (T : Tx K mg) {f : Addr} {fd : FuncData} (F : Here K mg "is_whole" s_is_whole ["value"] f fd) : D_is_whole_ P w K mg base := by
  refine F.df (fgP F.1 sc_is_whole (fun ds k h => ?_) fun cdv B fr s H E hg hr => ⟨_, ((pss_one (ps_ret (pe_and (pe_callB (r := rIsi K) call_isi (by rfl) T.n_isinstance (by decide +kernel) (pa_cons (pv 0) (pa_cons (pe_bltn (v := .ty "int") (u := .type "int") (by rfl) T.n_int (by decide +kernel) rfl) pa_nil))) (pe_one (pe_not (pe_callB (r := rIsi K) call_isi (by rfl) T.n_isinstance (by decide +kernel) (pa_cons (pv 0) (pa_cons (pe_bltn (v := .ty "bool") (u := .type "bool") (by rfl) T.n_bool (by decide +kernel) rfl) pa_nil))))))))), ?_⟩)
  · obtain ⟨a, rfl, _⟩ := h; rfl
  · intro c ds k hc h
    obtain ⟨d, rfl, _, h⟩ := h
    cases d <;> (walk_at "go"; first | exact h | (refine iteT ?_; walk_at "go"; exact h) | (refine iteF ?_; walk_at "go"; exact h))

theorem ok_is_pair (T : Tx K mg) {f : Addr} {fd : FuncData} (F : Here K mg "is_pair" s_is_pair ["value"] f fd) : D_is_pair_ P w K mg base := by
  refine F.df (fgP F.1 sc_is_pair (fun ds k h => ?_) fun cdv B fr s H E hg hr => ⟨_, ((pss_one (ps_ret (pe_and (pe_callB (r := rIsi K) call_isi (by rfl) T.n_isinstance (by decide +kernel) (pa_cons (pv 0) (pa_cons (pe_bltn (v := .ty "tuple") (u := .type "tuple") (by rfl) T.n_tuple (by decide +kernel) rfl) pa_nil))) (pe_one (pe_cmpR (r := rEqU K) (op_eqU hr.units) (pe_callB (r := rLenQ K) call_len_seq (by rfl) T.n_len (by decide +kernel) (pa_cons (pv 0) pa_nil)) pe_int (nomark _))))))), ?_⟩)
  · obtain ⟨a, rfl, _⟩ := h; rfl
  · intro c ds k hc h
    obtain ⟨d, rfl, _, h⟩ := h
    cases d with
    | tuple xs =>
      walk_at "go"
      match xs, h with
      | [], h => exact h
      | [_], h => exact h
      | [_, _], h => exact h
      | a :: b :: c :: r, h =>
        have e : decide (((a :: b :: c :: r).length : Int) = 2) = false := decide_eq_false (by simp only [List.length_cons]; omega)
        show k (.bool (decide (((a :: b :: c :: r).length : Int) = 2)))
        rw [e]
        exact h
    | _ => walk_at "go"; exact h

theorem ok_catches (T : Tx K mg) {f : Addr} {fd : FuncData} (F : Here K mg "catches" s_catches ["comb", "number"] f fd) : D_catches_ P w K mg base := by
  refine F.df (fgP F.1 sc_catches (fun ds k h => ?_) fun cdv B fr s H E hg hr => ⟨_, ((pss_cons (ps_asg (pv 0) (pg_tup (n := 2) rfl (pgs_cons (pg_name (i := 2) sc_catches.nd rfl (.inl rfl)) (pgs_cons (pg_name (i := 3) sc_catches.nd rfl (.inl rfl)) pgs_nil))))
      (pss_one (ps_ret (pe_cmpR (r := rIn K false) op_in_seq (pe_op op_mod (pv 1) (pv 2)) (pv 3) (by rfl)))))), ?_⟩)
  · obtain ⟨a, rfl, _⟩ := h; rfl
  · intro c ds k hc h
    obtain ⟨⟨cb, n⟩, rfl, hp, h⟩ := h
    walk_at "go"
    refine os_mod hp ?_
    walk_at "go"
    exact os_in h


theorem ok_numbers_text (T : Tx K mg)  {f : Addr} {fd : FuncData} (F : Here K mg "numbers_text" s_numbers_text ["numbers"] f fd) : D_numbers_text_ P w K mg base := by
  refine F.df (fgP F.1 sc_numbers_text (fun ds k h => ?_) fun cdv B fr s H E hg hr => ⟨_, ((pss_one (ps_ret (pe_m1 (r := rJoin _) PySem.F.slot_str_join PySem.F.type_str_join mt_join pe_str (pe_lc (own := [("number", 1)]) rfl sc_numbers_text.nd (pi_list (pv 0)) (blkOk_by (N := ["numbers", "number"]) (sc := defScope s_numbers_text) (by decide +kernel)) (fun _ _ _ _ _ => (pg_name (i := 1) sc_numbers_text.nd rfl (Or.inl rfl) (Or.inr rfl))) (fun _ _ _ _ _ => pts_nil) (fun _ _ _ _ _ => (pe_callTy (r := rStrI) call_str_int (by rfl) T.n_str (by decide +kernel) (pa_cons (pv 1) pa_nil)))))))), ?_⟩)
  · obtain ⟨a, rfl, _⟩ := h; rfl
  · intro c ds k hc h
    obtain ⟨ns, rfl, ⟨l, b⟩, h⟩ := h
    have l' : ns.length ≤ 100 := l
    have b' : ∀ n ∈ ns, n.natAbs < 10 ^ 150 := b
    walk_at "nz"
    refine ws_ret (we_m1 (we_str ⟨(" " : Str), rfl, ?_⟩))
    refine we_lcM ns PyData.int (fun n => PyData.str (numS n)) (Nat.lt_of_le_of_lt l' (by decide)) (no_of rfl _) ?_ ?_
    · refine we_var rfl ⟨rfl, ?_⟩
      rw [show (ns.map fun n => PyData.str (numS n)) = (ns.map numS).map PyData.str by rw [List.map_map]; rfl]
      exact mts_join (nums_fit l' b').1 h
    · intro p' n hn pin
      walk_at "nz"
      exact we_cb (wa_cons (we_var rfl (wa_nil (cb_strI (log2_num (b' n hn)) ⟨rfl, rfl⟩))))

theorem ok_format_state (T : Tx K mg)  {f : Addr} {fd : FuncData} (F : Here K mg "format_state" s_format_state ["state"] f fd) : D_format_state_ P w K mg base := by
  refine F.df (fgP F.1 sc_format_state (fun ds k h => ?_) fun cdv B fr s H E hg hr => ⟨_, ((pss_cons (ps_asg (pv 0) (pg_tup (n := 2) rfl (pgs_cons (pg_name (i := 1) sc_format_state.nd rfl (.inl rfl)) (pgs_cons (pg_name (i := 2) sc_format_state.nd rfl (.inl rfl)) pgs_nil))))
      (pss_one (ps_ret (pe_fs (PJ.cons (pe_fmt (pv 1)) (PJ.cons pe_str (PJ.cons (pe_fmt (pv 2)) PJ.nil)))))))), ?_⟩)
  · obtain ⟨a, rfl, _⟩ := h; rfl
  · intro c ds k hc h
    obtain ⟨s, rfl, ⟨b1, b2⟩, h⟩ := h
    have l1 := numS_len150 b1
    have l3 := stateT_len b1 b2
    have fin : k (.str (stateT s)) := h
    walk_at "nz"
    refine ws_seq (ws_unpN rfl (we_var rfl ⟨_, _, rfl, ?_⟩))
    walk_at "nz"
    refine ws_ret (we_fs (wj_cons (we_fmtI (we_var rfl ⟨log2_num b1, numS s.1, rfl, ?_, ?_⟩))))
    · rw [app_len]
      exact Nat.le_trans (show _ ≤ 200 by show 0 + _ ≤ _; omega) (by decide)
    refine wj_cons (we_str ⟨_, rfl, ?_, ?_⟩)
    · rw [app_len, app_len]
      exact Nat.le_trans (show _ ≤ 200 by show 0 + _ + 1 ≤ _; omega) (by decide)
    refine wj_cons (we_fmtI (we_var rfl ⟨log2_num b2, numS s.2, rfl, Nat.le_trans l3 (by decide), ?_⟩))
    exact wj_nil fin

theorem ok_is_count (T : Tx K mg)  {f : Addr} {fd : FuncData} (F : Here K mg "is_count" s_is_count ["word"] f fd) : D_is_count_ P w K mg base := by
  refine F.df (fgP F.1 sc_is_count (fun ds k h => ?_) fun cdv B fr s H E hg hr => ⟨_, ((pss_cons (ps_if (PW.pt (pw_or (pt_cmpR (r := rEqU K) (op_eqU hr.units) (pv 0) pe_str (nomark _)) (pw_or1 (pt_cmpR op_gt (pe_callB (r := rLenS) call_len_str (by rfl) T.n_len (by decide +kernel) (pa_cons (pv 0) pa_nil)) (pe_glob (v := .int 40) (by rfl) T.c_MOST_DIGITS.choose_spec ⟨_, rfl⟩) (nomark _))))) (pss_one (ps_ret pe_bl)) pss_nil)
      (pss_cons (ps_if (PW.pt (pw_and (pt_cmpR (r := rEqU K) (op_eqU hr.units) (pe_ix (r := rIx K) ix_seq (pv 0) pe_int (fun _ _ => rfl)) pe_str (nomark _)) (pw_and1 (pt_cmpR op_gt (pe_callB (r := rLenS) call_len_str (by rfl) T.n_len (by decide +kernel) (pa_cons (pv 0) pa_nil)) pe_int (nomark _))))) (pss_one (ps_ret pe_bl)) pss_nil)
      (pss_one (ps_ret (pe_callB (r := rAll K) (cr_all rfl) (by rfl) T.n_all (by decide +kernel) (pa_cons (pe_lc (own := [("sign", 1)]) rfl sc_is_count.nd (pi_str (pv 0)) (blkOk_by (N := ["word", "sign"]) (sc := defScope s_is_count) (by decide +kernel)) (fun _ _ _ _ _ => (pg_name (i := 1) sc_is_count.nd rfl (Or.inl rfl) (Or.inr rfl))) (fun _ _ _ _ _ => pts_nil) (fun _ _ _ _ _ => (pe_cmpR (r := rInS) op_in_sign (pv 1) (pe_glob (v := .str "0123456789") (by rfl) T.c_DIGITS.choose_spec ⟨_, rfl⟩) rfl))) pa_nil))))))), ?_⟩)
  · obtain ⟨a, rfl, _⟩ := h; rfl
  · intro c ds k hc h
    obtain ⟨w, rfl, l, h⟩ := h
    have l' : w.length ≤ sizeLine := l
    have h' : k (.bool (isCount w)) := h
    unfold isCount at h'
    walk_at "nz"
    refine ws_seq (ws_if (wt_or (wt_B (we_op (we_var rfl (we_str (os_eqT ?_)))))))
    walk_at "nz"
    by_cases z1 : w = ""
    · refine iteV (decide_eq_true z1) ?_
      rw [if_pos (.inl z1)] at h'
      walk_at "nz"
      exact ws_ret (we_bl h')
    refine iteN (decide_eq_false z1) ?_
    refine wt_B (we_op (we_cb (wa_cons (we_var rfl (wa_nil (cb_lenS l' ?_))))))
    refine we_int (os_gt ?_)
    walk_at "nz"
    by_cases z2 : 40 < w.length
    · refine iteV (decide_eq_true (by omega)) ?_
      rw [if_pos (.inr z2)] at h'
      walk_at "nz"
      exact ws_ret (we_bl h')
    refine iteN (decide_eq_false (by omega)) ?_
    rw [if_neg (by rintro (z | z); exact z1 z; exact z2 z)] at h'
    refine ws_next ?_
    have ne : w.cps.toList ≠ [] := fun e => z1 ((empty_iff w).mpr e)
    obtain ⟨a, r, ar⟩ : ∃ a r, w.cps.toList = a :: r := by
      cases q : w.cps.toList with
      | nil => exact absurd q ne
      | cons a r => exact ⟨a, r, rfl⟩
    have i0 : ixD (.str w) 0 = some (.str ⟨#[a]⟩) := by
      show (if w.length ≤ sizeLine then (atI w.cps.toList 0).map fun k => PyData.str ⟨#[k]⟩ else none) = _
      rw [if_pos l', show atI w.cps.toList 0 = some a from atI_nat (j := 0) (by rw [ar]; rfl)]
      rfl
    have e2 : decide ((⟨#[a]⟩ : Str) = "0") = decide (a = 48) := by
      refine decide_eq_decide.mpr ⟨fun e => ?_, fun e => by rw [e]; rfl⟩
      have e' := congrArg (fun s : Str => s.cps.toList) e
      exact (List.cons.inj (show [a] = [48] from e')).1
    have all : ∀ b : Bool, b = w.cps.toList.all digB → (if w.cps.toList[0]? = some 48 ∧ 1 < w.length then k (.bool false) else k (.bool b)) := fun b e => by
      rw [e]
      split
      · next z => rw [if_pos z] at h'; exact h'
      · next z => rw [if_neg z] at h'; exact h'
    have h0 : w.cps.toList[0]? = some 48 ↔ a = 48 := by rw [ar]; exact ⟨fun e => Option.some.inj e, fun e => by rw [e]; rfl⟩
    have rest : ¬ (w.cps.toList[0]? = some 48 ∧ 1 < w.length) → WE c (tCB (rAll K) (tCons (tLc (iStr (tVar 0)) (gName 1) tYes (tOp rInS (tVar 1) (tC (.str "0123456789"))) [1]) tNil)) [some (.d (.str w)), none] [] (isD fun d p => k d) := fun hz => by
      have h2 := all _ rfl
      rw [if_neg hz] at h2
      refine we_cb (wa_cons (we_lcS (fun i acc p => acc = (w.cps.toList.take i).map (fun q => PyData.bool (digB q)) ∧ p = []) w (fun xs z => by cases z) ?_ ?_ ?_))
      · exact we_var rfl ⟨rfl, rfl, rfl⟩
      · rintro i q acc p' hq ⟨rfl, rfl⟩ pin
        refine wt_yes ?_
        walk_at "nz"
        refine iteV rfl ?_
        refine we_op (we_var rfl (we_str (os_inS ?_)))
        have hq' : w.cps.toList[i]? = some q := by rw [Array.getElem?_toList]; exact hq
        refine ⟨?_, ?_, rfl⟩
        · rw [List.length_map, List.length_take]
          exact Nat.lt_of_le_of_lt (show _ ≤ 40 by have : w.cps.toList.length = w.length := Array.length_toList; omega) (by decide)
        · rw [List.take_add_one, hq', List.map_append]
          rfl
      · rintro acc p' ⟨rfl, rfl⟩
        rw [← Array.length_toList, List.take_length]
        rw [show (w.cps.toList.map fun q => PyData.bool (digB q)) = (w.cps.toList.map digB).map PyData.bool by rw [List.map_map]; rfl]
        refine wa_nil (cb_all ?_)
        rw [show (w.cps.toList.map digB).all id = w.cps.toList.all digB by rw [List.all_map]; rfl]
        exact h2
    walk_at "nz"
    refine ws_seq (ws_if (wt_and (wt_B (we_op (we_op (we_var rfl (we_int (os_ix i0 (we_str (os_eqT ?_))))))))))
    rw [e2]
    walk_at "nz"
    by_cases z3 : a = 48
    · refine iteV (decide_eq_true z3) ?_
      refine wt_B (we_op (we_cb (wa_cons (we_var rfl (wa_nil (cb_lenS l' ?_))))))
      refine we_int (os_gt ?_)
      walk_at "nz"
      by_cases z4 : 1 < w.length
      · refine iteV (decide_eq_true (by omega)) ?_
        rw [if_pos ⟨h0.mpr z3, z4⟩] at h'
        walk_at "nz"
        exact ws_ret (we_bl h')
      · refine iteN (decide_eq_false (by omega)) ?_
        refine ws_next ?_
        walk_at "nz"
        exact ws_ret (rest (fun z => z4 z.2))
    · refine iteN (decide_eq_false z3) ?_
      refine ws_next ?_
      walk_at "nz"
      exact ws_ret (rest (fun z => z3 (h0.mp z.1)))

theorem ok_text_words (T : Tx K mg)  {f : Addr} {fd : FuncData} (F : Here K mg "text_words" s_text_words ["text"] f fd) : D_text_words_ P w K mg base := by
  refine F.df (fgP F.1 sc_text_words (fun ds k h => ?_) fun cdv B fr s H E hg hr => ⟨_, ((pss_cons (ps_if (pt_not (pt_val (pe_callB (r := rIsi K) call_isi (by rfl) T.n_isinstance (by decide +kernel) (pa_cons (pv 0) (pa_cons (pe_bltn (v := .ty "str") (u := .type "str") (by rfl) T.n_str (by decide +kernel) rfl) pa_nil))))) (pss_one ps_never) pss_nil)
      (pss_one (ps_ret (pe_m1 (r := rSplit) PySem.F.slot_str_split PySem.F.type_str_split mt_split (pv 0) pe_str))))), ?_⟩)
  · obtain ⟨a, rfl, _⟩ := h; rfl
  · intro c ds k hc h
    obtain ⟨t, rfl, l, h⟩ := h
    have l' : t.length + 2 ≤ sizeLine := l
    walk_at "nz"
    refine ws_seq (ws_if (wt_not (wt_T ?_)))
    refine we_isi (by decide) (we_var rfl ?_)
    walk_at "nz"
    refine iteN rfl ?_
    refine ws_next ?_
    walk_at "nz"
    refine ws_ret (we_m1 (we_var rfl ⟨t, rfl, we_str ?_⟩))
    exact mts_split (by decide +kernel) l' h

theorem ok__law_rigs (T : Tx K mg)  {f : Addr} {fd : FuncData} (F : Here K mg "_law_rigs" s__law_rigs [] f fd) : D__law_rigs_ P w K mg base := by
  refine F.df (fgP F.1 sc__law_rigs (fun ds k h => ?_) fun cdv B fr s H E hg hr => ⟨_, ((pss_cons (ps_set (i := 0) sc__law_rigs.nd rfl (.inl rfl) (pe_lst (pa_cons (pe_tup (pa_cons (pe_tup (pa_cons (pe_tup (pa_cons pe_int (pa_cons (pe_lst (pa_cons pe_int (pa_cons pe_int pa_nil))) pa_nil))) (pa_cons (pe_tup (pa_cons pe_int (pa_cons (pe_lst (pa_cons pe_int pa_nil)) pa_nil))) pa_nil))) (pa_cons pe_str pa_nil))) (pa_cons (pe_tup (pa_cons (pe_tup (pa_cons (pe_tup (pa_cons pe_int (pa_cons (pe_lst (pa_cons pe_int pa_nil)) pa_nil))) (pa_cons (pe_tup (pa_cons pe_int (pa_cons (pe_lst (pa_cons pe_int pa_nil)) pa_nil))) pa_nil))) (pa_cons pe_str pa_nil))) pa_nil))))
      (pss_cons (ps_expr (pe_bm PySem.F.plainAttrs_list PySem.F.slot_list_append PySem.F.type_list_append mt_append (pv 0) (pa_cons (pe_tup (pa_cons (pe_tup (pa_cons (pe_tup (pa_cons pe_int (pa_cons (pe_lst (pa_cons pe_int (pa_cons pe_int (pa_cons pe_int pa_nil)))) pa_nil))) (pa_cons (pe_tup (pa_cons pe_int (pa_cons (pe_lst (pa_cons pe_int (pa_cons pe_int pa_nil))) pa_nil))) pa_nil))) (pa_cons pe_str pa_nil))) pa_nil)))
      (pss_one (ps_ret (pe_op op_addU (pv 0) (pe_lst (pa_cons (pe_tup (pa_cons (pe_tup (pa_cons (pe_tup (pa_cons pe_int (pa_cons (pe_lst (pa_cons pe_int pa_nil)) pa_nil))) (pa_cons (pe_tup (pa_cons pe_int (pa_cons (pe_lst (pa_cons pe_int pa_nil)) pa_nil))) pa_nil))) (pa_cons pe_str pa_nil))) (pa_cons (pe_tup (pa_cons (pe_tup (pa_cons (pe_tup (pa_cons pe_int (pa_cons (pe_lst (pa_cons pe_int pa_nil)) pa_nil))) (pa_cons (pe_tup (pa_cons pe_int (pa_cons (pe_lst (pa_cons pe_int (pa_cons pe_int (pa_cons pe_int pa_nil)))) pa_nil))) pa_nil))) (pa_cons pe_str pa_nil))) pa_nil))))))))), ?_⟩)
  · obtain ⟨a, rfl, _⟩ := h; rfl
  · intro c ds k hc h
    obtain ⟨_, rfl, _, h⟩ := h
    have fin : k (.list (rigs44.map fun q => txD q.1.d q.2)) := h
    have T39 : (10 : Int) ^ (39 : Int).toNat = 10 ^ 39 := by decide +kernel
    walk_at "nz"
    refine ws_seq (ws_setO ?_)
    repeat (first | walk_at "pd" | with_reducible refine we_lst ?_)
    exact os_addL (by show 3 + 2 ≤ sizeLine; decide) fin

theorem ok__law_lists (T : Tx K mg)  {f : Addr} {fd : FuncData} (F : Here K mg "_law_lists" s__law_lists [] f fd) : D__law_lists_ P w K mg base := by
  refine F.df (fgP F.1 sc__law_lists (fun ds k h => ?_) fun cdv B fr s H E hg hr => ⟨_, ((pss_cons (ps_set (i := 0) sc__law_lists.nd rfl (.inl rfl) (pe_lst (pa_cons (pe_tup (pa_cons (pe_lst pa_nil) (pa_cons pe_str pa_nil))) (pa_cons (pe_tup (pa_cons (pe_lst (pa_cons pe_int (pa_cons (pe_un un_neg pe_int) pa_nil))) (pa_cons pe_str pa_nil))) (pa_cons (pe_tup (pa_cons (pe_lst (pa_cons (pe_un un_neg pe_int) pa_nil)) (pa_cons pe_str pa_nil))) (pa_cons (pe_tup (pa_cons (pe_lst (pa_cons pe_int (pa_cons pe_int (pa_cons (pe_un un_neg pe_int) pa_nil)))) (pa_cons pe_str pa_nil))) pa_nil))))))
      (pss_one (ps_ret (pe_op op_addU (pv 0) (pe_lst (pa_cons (pe_tup (pa_cons (pe_lst (pa_cons (pe_op op_powW pe_int pe_int) (pa_cons (pe_un un_neg pe_int) pa_nil))) (pa_cons (pe_op op_addS (pe_op op_addS pe_str (pe_op op_mulS pe_str pe_int)) pe_str) pa_nil))) (pa_cons (pe_tup (pa_cons (pe_op op_mulU (pe_lst (pa_cons pe_int pa_nil)) pe_int) (pa_cons (pe_op op_addS (pe_op op_mulS pe_str pe_int) pe_str) pa_nil))) pa_nil)))))))), ?_⟩)
  · obtain ⟨a, rfl, _⟩ := h; rfl
  · intro c ds k hc h
    obtain ⟨_, rfl, _, h⟩ := h
    have fin : k (.list (lists44.map fun q => txD (.list (q.1.map PyData.int)) q.2)) := h
    have T39 : (10 : Int) ^ (39 : Int).toNat = 10 ^ 39 := by decide +kernel
    walk_at "nz"
    refine ws_seq (ws_setO ?_)
    repeat (first | walk_at "pd" | with_reducible refine we_lst ?_)
    refine os_pow (poww (by decide) (by decide) (by decide +kernel) (by decide +kernel)) ?_
    rw [T39]
    repeat (first | walk_at "pd" | with_reducible refine we_lst ?_)
    refine os_mulS (by unfold PySem.MulOk; decide +kernel) ?_
    repeat (first | walk_at "pd" | with_reducible refine we_lst ?_)
    refine os_addS (by decide +kernel) ?_
    repeat (first | walk_at "pd" | with_reducible refine we_lst ?_)
    refine os_addS (by decide +kernel) ?_
    repeat (first | walk_at "pd" | with_reducible refine we_lst ?_)
    refine os_mulL (k := 40) (by decide) (by decide) ?_
    repeat (first | walk_at "pd" | with_reducible refine we_lst ?_)
    refine os_mulS (by unfold PySem.MulOk; decide +kernel) ?_
    repeat (first | walk_at "pd" | with_reducible refine we_lst ?_)
    refine os_addS (by decide +kernel) ?_
    repeat (first | walk_at "pd" | with_reducible refine we_lst ?_)
    exact os_addL (by show 4 + 2 ≤ sizeLine; decide) fin

theorem ok__law_pairs (T : Tx K mg)  {f : Addr} {fd : FuncData} (F : Here K mg "_law_pairs" s__law_pairs [] f fd) : D__law_pairs_ P w K mg base := by
  refine F.df (fgP F.1 sc__law_pairs (fun ds k h => ?_) fun cdv B fr s H E hg hr => ⟨_, ((pss_cons (ps_set (i := 0) sc__law_pairs.nd rfl (.inl rfl) (pe_lst (pa_cons (pe_tup (pa_cons (pe_tup (pa_cons pe_int (pa_cons pe_int pa_nil))) (pa_cons pe_str pa_nil))) (pa_cons (pe_tup (pa_cons (pe_tup (pa_cons pe_int (pa_cons (pe_un un_neg pe_int) pa_nil))) (pa_cons pe_str pa_nil))) (pa_cons (pe_tup (pa_cons (pe_tup (pa_cons (pe_un un_neg pe_int) (pa_cons pe_int pa_nil))) (pa_cons pe_str pa_nil))) (pa_cons (pe_tup (pa_cons (pe_tup (pa_cons (pe_op op_powW pe_int pe_int) (pa_cons pe_int pa_nil))) (pa_cons (pe_op op_addS (pe_op op_addS pe_str (pe_op op_mulS pe_str pe_int)) pe_str) pa_nil))) pa_nil))))))
      (pss_one (ps_ret (pe_op op_addU (pv 0) (pe_lst (pa_cons (pe_tup (pa_cons (pe_tup (pa_cons pe_int (pa_cons (pe_un un_neg pe_int) pa_nil))) (pa_cons pe_str pa_nil))) (pa_cons (pe_tup (pa_cons (pe_tup (pa_cons (pe_un un_neg pe_int) (pa_cons (pe_un un_neg pe_int) pa_nil))) (pa_cons pe_str pa_nil))) pa_nil)))))))), ?_⟩)
  · obtain ⟨a, rfl, _⟩ := h; rfl
  · intro c ds k hc h
    obtain ⟨_, rfl, _, h⟩ := h
    have fin : k (.list (pairs44.map fun q => txD q.1.d q.2)) := h
    have T39 : (10 : Int) ^ (39 : Int).toNat = 10 ^ 39 := by decide +kernel
    walk_at "nz"
    refine ws_seq (ws_setO ?_)
    repeat (first | walk_at "pd" | with_reducible refine we_lst ?_)
    refine os_pow (poww (by decide) (by decide) (by decide +kernel) (by decide +kernel)) ?_
    rw [T39]
    repeat (first | walk_at "pd" | with_reducible refine we_lst ?_)
    refine os_mulS (by unfold PySem.MulOk; decide +kernel) ?_
    repeat (first | walk_at "pd" | with_reducible refine we_lst ?_)
    refine os_addS (by decide +kernel) ?_
    repeat (first | walk_at "pd" | with_reducible refine we_lst ?_)
    refine os_addS (by decide +kernel) ?_
    repeat (first | walk_at "pd" | with_reducible refine we_lst ?_)
    exact os_addL (by show 4 + 2 ≤ sizeLine; decide) fin

theorem ok_is_pitch (T : Tx K mg) (D_is_whole : D_is_whole_ P w K mg base) {f : Addr} {fd : FuncData} (F : Here K mg "is_pitch" s_is_pitch ["value"] f fd) : D_is_pitch_ P w K mg base := by
  refine F.df (fgP F.1 sc_is_pitch (fun ds k h => ?_) fun cdv B fr s H E hg hr => ⟨_, ((pss_one (ps_ret (pe_and (pe_callD D_is_whole hg (hr.mono (by decide)) (by rfl) (pa_cons (pv 0) pa_nil)) (pe_one (pe_chain op_le op_le pe_int (pv 0) (pe_glob (v := .int 24) (by rfl) T.c_MOST_PITCH.choose_spec ⟨_, rfl⟩))))))), ?_⟩)
  · obtain ⟨a, rfl, _⟩ := h; rfl
  · intro c ds k hc h
    obtain ⟨d, rfl, _, h⟩ := h
    walk_at "go"
    refine we_det d ?_
    walk_at "go"
    cases d with
    | int i =>
      walk_at "go"
      refine we_chain (a := 1) (b := i) (c' := 24) ?_ ?_ ?_ ?_
      · walk_at "go"; rfl
      · walk_at "go"; rfl
      · walk_at "go"; rfl
      · have e : (decide ((1 : Int) ≤ i) && decide (i ≤ 24)) = isPitch (.int i) := by
          unfold isPitch
          by_cases h1 : (1 : Int) ≤ i <;> by_cases h2 : i ≤ 24 <;> simp [h1, h2]
        rw [e]
        exact h
    | _ => walk_at "go"; exact h

theorem ok_are_teeth (T : Tx K mg) (D_is_whole : D_is_whole_ P w K mg base) {f : Addr} {fd : FuncData} (F : Here K mg "are_teeth" s_are_teeth ["value", "pitch"] f fd) : D_are_teeth_ P w K mg base := by
  refine F.df (fgP F.1 sc_are_teeth (fun ds k h => ?_) fun cdv B fr s H E hg hr => ⟨_, ((pss_cons (ps_if (PW.pt (pw_or (pt_not (pt_val (pe_callB (r := rIsi K) call_isi (by rfl) T.n_isinstance (by decide +kernel) (pa_cons (pv 0) (pa_cons (pe_bltn (v := .ty "list") (u := .type "list") (by rfl) T.n_list (by decide +kernel) rfl) pa_nil))))) (pw_or1 (pt_cmpR (r := rEqU K) (op_eqU hr.units) (pe_callB (r := rLenQ K) call_len_seq (by rfl) T.n_len (by decide +kernel) (pa_cons (pv 0) pa_nil)) pe_int (nomark _))))) (pss_one (ps_ret pe_bl)) pss_nil)
      (pss_cons (ps_if (pt_not (pt_val (pe_callB (r := rAll K) (cr_all rfl) (by rfl) T.n_all (by decide +kernel) (pa_cons (pe_lc (own := [("tooth", 4)]) rfl sc_are_teeth.nd (pi_list (pv 0)) (blkOk_by (N := ["value", "pitch", "low", "high", "tooth"]) (sc := defScope s_are_teeth) (by decide +kernel)) (fun _ _ _ _ _ => (pg_name (i := 4) sc_are_teeth.nd rfl (Or.inl rfl) (Or.inr rfl))) (fun _ _ _ _ _ => pts_nil) (fun _ _ _ _ _ => (pe_callD D_is_whole hg (hr.mono (by decide)) (by rfl) (pa_cons (pv 4) pa_nil)))) pa_nil)))) (pss_one (ps_ret pe_bl)) pss_nil)
      (pss_cons (ps_if (PW.pt (pw_or (pt_cmpR op_lt (pe_ix (r := rIx K) ix_seq (pv 0) pe_int (fun _ _ => rfl)) pe_int (nomark _)) (pw_or1 (pt_cmpR op_ge (pe_ix (r := rIx K) ix_seq (pv 0) (pe_un un_neg pe_int) (fun _ _ => rfl)) (pv 1) (nomark _))))) (pss_one (ps_ret pe_bl)) pss_nil)
      (pss_one (ps_ret (pe_callB (r := rAll K) (cr_all rfl) (by rfl) T.n_all (by decide +kernel) (pa_cons (pe_lc (g := (gTup K 2 (gCons (gName 2) (gCons (gName 3) gNil)))) (own := [("low", 2), ("high", 3)]) rfl sc_are_teeth.nd (pi_zip (by rfl) T.n_zip (pa_cons (pv 0) (pa_cons (pe_slice (r := rSlL K) sl_list (pv 0) (po_some pe_int) po_none) pa_nil))) (blkOk_by (N := ["value", "pitch", "low", "high", "tooth"]) (sc := defScope s_are_teeth) (by decide +kernel)) (fun _ _ _ _ _ => (pg_tup (n := 2) rfl (pgs_cons (pg_name (i := 2) sc_are_teeth.nd rfl (Or.inl rfl) (Or.inr rfl)) (pgs_cons (pg_name (i := 3) sc_are_teeth.nd rfl (Or.inl rfl) (Or.inr rfl)) pgs_nil)))) (fun _ _ _ _ _ => pts_nil) (fun _ _ _ _ _ => (pe_cmpR op_lt (pv 2) (pv 3) (nomark _)))) pa_nil)))))))), ?_⟩)
  · obtain ⟨a, rfl, _⟩ := h; rfl
  · intro c ds k hc h
    obtain ⟨cb, rfl, ok, h⟩ := h
    walk_at "go"
    have hne := Comb.Ok.ne ok
    have hlen : decide (((cb.ts.map PyData.int).length : Int) = 0) = false := decide_eq_false (by
      rw [List.length_map]
      have := List.length_pos_iff.mpr hne
      omega)
    rw [hlen]
    walk_at "go"
    refine we_lcL (fun i acc _ => acc = (List.replicate i true).map PyData.bool ∧ i ≤ cb.ts.length) (cb.ts.map PyData.int) (fun xs q => by cases q) ?_ ?_ ?_
    · walk_at "go"
      exact Nat.zero_le _
    · intro i x acc pl' hx hJ pin
      obtain ⟨t, ht, rfl⟩ := ints_at hx
      obtain ⟨rfl, hi⟩ := hJ
      have hlt := (List.getElem?_eq_some_iff.mp ht).1
      walk_at "go"
      refine we_det (.int t) ?_
      walk_at "go"
      refine ⟨?_, ?_, hlt⟩
      · rw [List.length_map, List.length_replicate]
        exact Nat.lt_of_le_of_lt (Nat.le_trans hi ok.len) (by decide)
      · rw [List.replicate_succ', List.map_append]
        rfl
    · intro acc pl' hJ
      obtain ⟨rfl, _⟩ := hJ
      walk_at "go"
      refine cb_all ?_
      have e : (List.replicate (cb.ts.map PyData.int).length true).all id = true := by simp
      rw [e]
      walk_at "go"
      obtain ⟨t0, r0, ht0⟩ : ∃ t r, cb.ts = t :: r := by
        cases hq : cb.ts with
        | nil => exact absurd hq hne
        | cons a r => exact ⟨a, r, rfl⟩
      refine os_ln (n := 0) (x := .int t0) (by rw [ht0]; rfl) ?_
      walk_at "go"
      have e0 : decide (t0 < 0) = false := decide_eq_false (by have := ok.low t0 (by rw [ht0]; exact List.mem_cons_self); omega)
      rw [e0]
      walk_at "go"
      refine os_ix (ix_last hne) ?_
      walk_at "go"
      have e1 : decide (cb.p ≤ cb.ts.getLastD 0) = false := decide_eq_false (by have := ok.high _ (last_mem hne); omega)
      rw [e1]
      walk_at "go"
      refine we_lcZ (fun i acc _ => acc = (List.replicate i true).map PyData.bool ∧ i ≤ cb.ts.length) (cb.ts.map PyData.int) (cb.ts.tail.map PyData.int) (by rw [List.length_map, List.length_map, List.length_tail]; omega) (fun xs => ⟨fun q => (by cases q), fun q => (by cases q)⟩) ?_ ?_ ?_
      · walk_at "go"
        refine we_slice ?_
        walk_at "go"
        refine ⟨_, rfl, ?_⟩
        refine wo_some ?_
        walk_at "go"
        refine wo_none ?_
        walk_at "go"
        refine ⟨?_, rfl, Nat.zero_le _⟩
        rw [cut_tail]
      · intro i x y acc pl' hx hy hJ pin
        obtain ⟨tx, htx, rfl⟩ := ints_at hx
        obtain ⟨ty, hty, rfl⟩ := ints_at hy
        obtain ⟨rfl, hi⟩ := hJ
        have hlt := (List.getElem?_eq_some_iff.mp htx).1
        walk_at "go"
        have e2 : decide (tx < ty) = true := decide_eq_true (asc_next ok.up htx (by rw [← List.drop_one, List.getElem?_drop, Nat.add_comm] at hty; exact hty))
        refine ⟨?_, ?_, hlt⟩
        · rw [List.length_map, List.length_replicate]
          exact Nat.lt_of_le_of_lt (Nat.le_trans hi ok.len) (by decide)
        · rw [List.replicate_succ', List.map_append, e2]
          rfl
      · intro acc pl' hJ
        obtain ⟨rfl, _⟩ := hJ
        walk_at "go"
        refine cb_all ?_
        have e3 : (List.replicate (cb.ts.tail.map PyData.int).length true).all id = true := by simp
        rw [e3]
        exact h

theorem ok_is_held (T : Tx K mg) (D_catches : D_catches_ P w K mg base) {f : Addr} {fd : FuncData} (F : Here K mg "is_held" s_is_held ["device", "height", "hand"] f fd) : D_is_held_ P w K mg base := by
  refine F.df (fgP F.1 sc_is_held (fun ds k h => ?_) fun cdv B fr s H E hg hr => ⟨_, ((pss_cons (ps_asg (pv 0) (pg_tup (n := 2) rfl (pgs_cons (pg_name (i := 3) sc_is_held.nd rfl (.inl rfl)) (pgs_cons (pg_name (i := 4) sc_is_held.nd rfl (.inl rfl)) pgs_nil))))
      (pss_one (ps_ret (pe_or (pe_callD D_catches hg (hr.mono (by decide)) (by rfl) (pa_cons (pv 3) (pa_cons (pv 1) pa_nil))) (pe_one (pe_callD D_catches hg (hr.mono (by decide)) (by rfl) (pa_cons (pv 4) (pa_cons (pe_op op_sub (pv 1) (pv 2)) pa_nil))))))))), ?_⟩)
  · obtain ⟨a, rfl, _⟩ := h; rfl
  · intro c ds k hc h
    obtain ⟨⟨v, s⟩, rfl, ok, h⟩ := h
    have ok' : v.Ok := ok
    have p1 : 0 < v.1.p := by have := Comb.Ok.p1 ok'.1; omega
    have p2 : 0 < v.2.p := by have := Comb.Ok.p1 ok'.2; omega
    walk_at "go"
    refine we_det (v.1, s.1) ?_
    walk_at "go"
    refine ⟨p1, ?_⟩
    have h' : k (.bool (held v s)) := h
    unfold held at h'
    cases hq : caught v.1 s.1 with
    | true =>
      rw [hq] at h'
      walk_at "go"
      exact h'
    | false =>
      rw [hq] at h'
      walk_at "go"
      refine we_det (v.2, s.1 - s.2) ?_
      walk_at "go"
      exact ⟨p2, h'⟩

theorem ok_comb_text (T : Tx K mg) (D_numbers_text : D_numbers_text_ P w K mg base) {f : Addr} {fd : FuncData} (F : Here K mg "comb_text" s_comb_text ["comb"] f fd) : D_comb_text_ P w K mg base := by
  refine F.df (fgP F.1 sc_comb_text (fun ds k h => ?_) fun cdv B fr s H E hg hr => ⟨_, ((pss_cons (ps_asg (pv 0) (pg_tup (n := 2) rfl (pgs_cons (pg_name (i := 1) sc_comb_text.nd rfl (.inl rfl)) (pgs_cons (pg_name (i := 2) sc_comb_text.nd rfl (.inl rfl)) pgs_nil))))
      (pss_one (ps_ret (pe_fs (PJ.cons (pe_fmt (pv 1)) (PJ.cons pe_str (PJ.cons (pe_fmt (pe_callD D_numbers_text hg (hr.mono (by decide)) (by rfl) (pa_cons (pv 2) pa_nil))) PJ.nil)))))))), ?_⟩)
  · obtain ⟨a, rfl, _⟩ := h; rfl
  · intro c ds k hc h
    obtain ⟨cb, rfl, ok, h⟩ := h
    have ok' : cb.Ok := ok
    obtain ⟨h1, h2, h3, h4, h5⟩ := combT_len ok'
    have p1 := ok'.p1
    have p24 := ok'.p24
    have fin : k (.str (combT cb)) := h
    walk_at "nz"
    refine ws_seq (ws_unpN rfl (we_var rfl ⟨_, _, rfl, ?_⟩))
    walk_at "nz"
    refine ws_ret (we_fs (wj_cons (we_fmtI (we_var rfl ⟨log2_num (Nat.lt_of_le_of_lt (show cb.p.natAbs ≤ 24 by omega) (by decide +kernel)), numS cb.p, rfl, ?_, ?_⟩))))
    · rw [app_len]
      exact Nat.le_trans (show _ ≤ 200 by show 0 + _ ≤ _; omega) (by decide)
    refine wj_cons (we_str ⟨_, rfl, ?_, ?_⟩)
    · rw [app_len, app_len]
      exact Nat.le_trans (show _ ≤ 200 by show 0 + _ + 2 ≤ _; omega) (by decide)
    refine wj_cons (we_fmtS (we_det cb.ts (wa_cons (we_var rfl (wa_nil ⟨rfl, ⟨h2, h3⟩, numsT cb.ts, rfl, Nat.le_trans h1 (by decide), numsT cb.ts, rfl, Nat.le_trans h5 (by decide), ?_⟩)))))
    exact wj_nil fin

theorem ok_format_moves (T : Tx K mg) (D_numbers_text : D_numbers_text_ P w K mg base) {f : Addr} {fd : FuncData} (F : Here K mg "format_moves" s_format_moves ["moves"] f fd) : D_format_moves_ P w K mg base := by
  refine F.df (fgP F.1 sc_format_moves (fun ds k h => ?_) fun cdv B fr s H E hg hr => ⟨_, ((pss_one (ps_ret (pe_callD D_numbers_text hg (hr.mono (by decide)) (by rfl) (pa_cons (pv 0) pa_nil))))), ?_⟩)
  · obtain ⟨a, rfl, _⟩ := h; rfl
  · intro c ds k hc h
    obtain ⟨ns, rfl, pre, h⟩ := h
    walk_at "nz"
    refine ws_ret (we_det ns (wa_cons (we_var rfl (wa_nil ⟨rfl, pre, ?_⟩))))
    exact h

theorem ok_is_number (T : Tx K mg) (D_is_count : D_is_count_ P w K mg base) {f : Addr} {fd : FuncData} (F : Here K mg "is_number" s_is_number ["word"] f fd) : D_is_number_ P w K mg base := by
  refine F.df (fgP F.1 sc_is_number (fun ds k h => ?_) fun cdv B fr s H E hg hr => ⟨_, ((pss_cons (ps_if (pt_val (pe_m1 (r := rStarts) PySem.F.slot_str_startswith PySem.F.type_str_startswith mt_startswith (pv 0) pe_str)) (pss_one (ps_ret (pe_and (pe_callD D_is_count hg (hr.mono (by decide)) (by rfl) (pa_cons (pe_slice sl_str (pv 0) (po_some pe_int) po_none) pa_nil)) (pe_one (pe_cmpR (r := rNeU K) (op_neU hr.units) (pv 0) pe_str (nomark _)))))) pss_nil)
      (pss_one (ps_ret (pe_callD D_is_count hg (hr.mono (by decide)) (by rfl) (pa_cons (pv 0) pa_nil)))))), ?_⟩)
  · obtain ⟨a, rfl, _⟩ := h; rfl
  · intro c ds k hc h
    obtain ⟨w, rfl, l, h⟩ := h
    have l' : w.length ≤ sizeLine := l
    have h' : k (.bool (isNum w)) := h
    unfold isNum at h'
    have lc : (cutS w (some 1) none).length ≤ sizeLine := Nat.le_trans (cutS_length ..) l'
    walk_at "nz"
    refine ws_seq (ws_if (wt_T (we_m1 (we_var rfl ⟨w, rfl, we_str (mts_starts ?_)⟩))))
    walk_at "nz"
    cases z : Txt.startswith w "-" with
    | true =>
      rw [z, if_pos rfl] at h'
      refine iteV rfl ?_
      walk_at "nz"
      refine ws_ret (we_andV (we_det (cutS w (some 1) none) (wa_cons (we_sliceS (we_var rfl ⟨w, rfl, l', wo_some (we_int (wo_none ?_))⟩)))))
      refine wa_nil ⟨rfl, lc, ?_⟩
      cases z2 : isCount (cutS w (some 1) none) with
      | true =>
        rw [z2, Bool.true_and] at h'
        refine iteV rfl ?_
        exact we_op (we_var rfl (we_str (os_neT h')))
      | false =>
        rw [z2, Bool.false_and] at h'
        refine iteN rfl ?_
        exact h'
    | false =>
      rw [z, if_neg (by simp)] at h'
      refine iteN rfl ?_
      refine ws_next ?_
      walk_at "nz"
      refine ws_ret (we_det w (wa_cons (we_var rfl (wa_nil ⟨rfl, l', ?_⟩))))
      exact h'

theorem ok_is_pitch_word (T : Tx K mg) (D_is_count : D_is_count_ P w K mg base) {f : Addr} {fd : FuncData} (F : Here K mg "is_pitch_word" s_is_pitch_word ["word"] f fd) : D_is_pitch_word_ P w K mg base := by
  refine F.df (fgP F.1 sc_is_pitch_word (fun ds k h => ?_) fun cdv B fr s H E hg hr => ⟨_, ((pss_one (ps_ret (pe_and (pe_m1 (r := rEnds) PySem.F.slot_str_endswith PySem.F.type_str_endswith mt_endswith (pv 0) pe_str) (pe_and (pe_callD D_is_count hg (hr.mono (by decide)) (by rfl) (pa_cons (pe_slice sl_str (pv 0) po_none (po_some (pe_un un_neg pe_int))) pa_nil)) (pe_one (pe_chain op_le op_le pe_int (pe_callTy (r := rIntS) call_int_str (by rfl) T.n_int (by decide +kernel) (pa_cons (pe_slice sl_str (pv 0) po_none (po_some (pe_un un_neg pe_int))) pa_nil)) (pe_glob (v := .int 24) (by rfl) T.c_MOST_PITCH.choose_spec ⟨_, rfl⟩)))))))), ?_⟩)
  · obtain ⟨a, rfl, _⟩ := h; rfl
  · intro c ds k hc h
    obtain ⟨w, rfl, l, h⟩ := h
    have l' : w.length ≤ sizeLine := l
    have h' : k (.bool (isPitchW w)) := h
    unfold isPitchW at h'
    have lc : (cutS w none (some (-1))).length ≤ sizeLine := Nat.le_trans (cutS_length ..) l'
    walk_at "nz"
    refine ws_ret (we_andV (we_m1 (we_var rfl ⟨w, rfl, we_str (mts_ends ?_)⟩)))
    walk_at "nz"
    cases z : Txt.endswith w ":" with
    | false =>
      rw [z, Bool.false_and] at h'
      refine iteN rfl ?_
      exact h'
    | true =>
    rw [z, Bool.true_and] at h'
    refine iteV rfl ?_
    refine we_andV (we_det (cutS w none (some (-1))) (wa_cons (we_sliceS (we_var rfl ⟨w, rfl, l', wo_none (wo_some (we_neg (we_int ?_)))⟩))))
    refine wa_nil ⟨rfl, lc, ?_⟩
    cases z2 : isCount (cutS w none (some (-1))) with
    | false =>
      rw [z2, Bool.false_and] at h'
      refine iteN rfl ?_
      exact h'
    | true =>
    rw [z2, Bool.true_and] at h'
    refine iteV rfl ?_
    obtain ⟨n, hn, l40⟩ := count_int z2
    have v : valS (cutS w none (some (-1))) = n := by unfold valS; rw [hn]; rfl
    rw [v] at h'
    refine we_chain (a := 1) (b := n) (c' := 24) ?_ ?_ ?_ ?_
    · exact we_int ⟨rfl, rfl⟩
    · refine we_cb (wa_cons (we_sliceS (we_var rfl ⟨w, rfl, l', wo_none (wo_some (we_neg (we_int ?_)))⟩)))
      exact wa_nil (cb_intS hn (by omega) ⟨rfl, rfl⟩)
    · exact we_int ⟨rfl, rfl⟩
    · exact h'

theorem ok_is_tooth_word (T : Tx K mg) (D_is_count : D_is_count_ P w K mg base) {f : Addr} {fd : FuncData} (F : Here K mg "is_tooth_word" s_is_tooth_word ["word", "teeth", "pitch"] f fd) : D_is_tooth_word_ P w K mg base := by
  refine F.df (fgP F.1 sc_is_tooth_word (fun ds k h => ?_) fun cdv B fr s H E hg hr => ⟨_, ((pss_cons (ps_if (PW.pt (pw_or (pt_not (pt_val (pe_callD D_is_count hg (hr.mono (by decide)) (by rfl) (pa_cons (pv 0) pa_nil)))) (pw_or1 (pt_cmpR op_ge (pe_callTy (r := rIntS) call_int_str (by rfl) T.n_int (by decide +kernel) (pa_cons (pv 0) pa_nil)) (pv 2) (nomark _))))) (pss_one (ps_ret pe_bl)) pss_nil)
      (pss_one (ps_ret (pe_or (pe_cmpR (r := rEqU K) (op_eqU hr.units) (pe_callB (r := rLenQ K) call_len_seq (by rfl) T.n_len (by decide +kernel) (pa_cons (pv 1) pa_nil)) pe_int (nomark _)) (pe_one (pe_cmpR op_gt (pe_callTy (r := rIntS) call_int_str (by rfl) T.n_int (by decide +kernel) (pa_cons (pv 0) pa_nil)) (pe_ix (r := rIx K) ix_seq (pv 1) (pe_un un_neg pe_int) (fun _ _ => rfl)) (nomark _)))))))), ?_⟩)
  · obtain ⟨a, rfl, _⟩ := h; rfl
  · intro c ds k hc h
    obtain ⟨⟨w, ts, p⟩, rfl, l, h⟩ := h
    have l' : w.length ≤ sizeLine := l
    have h' : k (.bool (isToothW w ts p)) := h
    unfold isToothW at h'
    walk_at "nz"
    refine ws_seq (ws_if (wt_or (wt_not (wt_T (we_det w (wa_cons (we_var rfl (wa_nil ⟨rfl, l', ?_⟩))))))))
    walk_at "nz"
    cases z2 : isCount w with
    | false =>
      rw [if_pos (.inl z2)] at h'
      refine iteV rfl ?_
      walk_at "nz"
      exact ws_ret (we_bl h')
    | true =>
    obtain ⟨n, hn, l40⟩ := count_int z2
    have v : valS w = n := by unfold valS; rw [hn]; rfl
    rw [v, z2] at h'
    refine iteN rfl ?_
    refine wt_B (we_op (we_cb (wa_cons (we_var rfl (wa_nil (cb_intS hn (by omega) ?_))))))
    refine we_var rfl (os_ge ?_)
    walk_at "nz"
    by_cases z3 : p ≤ n
    · rw [if_pos (.inr z3)] at h'
      refine iteV (decide_eq_true z3) ?_
      walk_at "nz"
      exact ws_ret (we_bl h')
    rw [if_neg (by rintro (z | z); cases z; exact z3 z)] at h'
    refine iteN (decide_eq_false z3) ?_
    refine ws_next ?_
    walk_at "nz"
    refine ws_ret (we_orV (we_op (we_cb (wa_cons (we_var rfl (wa_nil (cb_lenL ?_)))))))
    refine we_int (os_eqI ?_)
    rw [List.length_map]
    walk_at "nz"
    by_cases z4 : ts = []
    · subst z4
      refine iteV rfl ?_
      exact h'
    · have ln : ¬ (ts.length : Int) = 0 := fun e => z4 (List.length_eq_zero_iff.mp (by omega))
      rw [decide_eq_false z4, Bool.false_or] at h'
      refine iteN (decide_eq_false ln) ?_
      refine we_op (we_cb (wa_cons (we_var rfl (wa_nil (cb_intS hn (by omega) ?_)))))
      obtain ⟨r, m, rfl⟩ : ∃ r m, ts = r ++ [m] := ⟨ts.dropLast, ts.getLast z4, (List.dropLast_concat_getLast z4).symm⟩
      rw [List.getLastD_eq_getLast?, List.getLast?_append] at h'
      rw [List.map_append]
      refine we_op (we_var rfl (we_neg (we_int (os_ix (ix_lastD _ _) (os_gt ?_)))))
      exact h'

theorem ok_is_comb (T : Tx K mg) (D_are_teeth : D_are_teeth_ P w K mg base) (D_is_pair : D_is_pair_ P w K mg base) (D_is_pitch : D_is_pitch_ P w K mg base) {f : Addr} {fd : FuncData} (F : Here K mg "is_comb" s_is_comb ["value"] f fd) : D_is_comb_ P w K mg base := by
  refine F.df (fgP F.1 sc_is_comb (fun ds k h => ?_) fun cdv B fr s H E hg hr => ⟨_, ((pss_one (ps_ret (pe_and (pe_callD D_is_pair hg (hr.mono (by decide)) (by rfl) (pa_cons (pv 0) pa_nil)) (pe_and (pe_callD D_is_pitch hg (hr.mono (by decide)) (by rfl) (pa_cons (pe_ix (r := rIx K) ix_seq (pv 0) pe_int (fun _ _ => rfl)) pa_nil)) (pe_one (pe_callD D_are_teeth hg (hr.mono (by decide)) (by rfl) (pa_cons (pe_ix (r := rIx K) ix_seq (pv 0) pe_int (fun _ _ => rfl)) (pa_cons (pe_ix (r := rIx K) ix_seq (pv 0) pe_int (fun _ _ => rfl)) pa_nil))))))))), ?_⟩)
  · obtain ⟨a, rfl, _⟩ := h; rfl
  · intro c ds k hc h
    obtain ⟨cb, rfl, ok, h⟩ := h
    walk_at "go"
    refine we_det cb.d ?_
    walk_at "go"
    refine we_det (.int cb.p) ?_
    walk_at "go"
    have e : isPitch (.int cb.p) = true := decide_eq_true ⟨Comb.Ok.p1 ok, Comb.Ok.p24 ok⟩
    rw [e]
    walk_at "go"
    refine we_det cb ?_
    walk_at "go"
    exact ⟨ok, h⟩

theorem ok_format_device (T : Tx K mg) (D_comb_text : D_comb_text_ P w K mg base) {f : Addr} {fd : FuncData} (F : Here K mg "format_device" s_format_device ["device"] f fd) : D_format_device_ P w K mg base := by
  refine F.df (fgP F.1 sc_format_device (fun ds k h => ?_) fun cdv B fr s H E hg hr => ⟨_, ((pss_cons (ps_asg (pv 0) (pg_tup (n := 2) rfl (pgs_cons (pg_name (i := 1) sc_format_device.nd rfl (.inl rfl)) (pgs_cons (pg_name (i := 2) sc_format_device.nd rfl (.inl rfl)) pgs_nil))))
      (pss_one (ps_ret (pe_fs (PJ.cons (pe_fmt (pe_callD D_comb_text hg (hr.mono (by decide)) (by rfl) (pa_cons (pv 1) pa_nil))) (PJ.cons pe_str (PJ.cons (pe_fmt (pe_callD D_comb_text hg (hr.mono (by decide)) (by rfl) (pa_cons (pv 2) pa_nil))) PJ.nil)))))))), ?_⟩)
  · obtain ⟨a, rfl, _⟩ := h; rfl
  · intro c ds k hc h
    obtain ⟨v, rfl, ok, h⟩ := h
    have ok' : v.Ok := ok
    have l1 := (combT_len ok'.1).2.2.2.2
    have l2 := (combT_len ok'.2).2.2.2.2
    have l3 := devT_len ok'
    have fin : k (.str (devT v)) := h
    walk_at "nz"
    refine ws_seq (ws_unpN rfl (we_var rfl ⟨_, _, rfl, ?_⟩))
    walk_at "nz"
    refine ws_ret (we_fs (wj_cons (we_fmtS (we_det v.1 (wa_cons (we_var rfl (wa_nil ⟨rfl, ok'.1, combT v.1, rfl, Nat.le_trans l1 (by decide), combT v.1, rfl, ?_, ?_⟩)))))))
    · rw [app_len]
      exact Nat.le_trans (show _ ≤ 15400 by show 0 + _ ≤ _; omega) (by decide)
    refine wj_cons (we_str ⟨_, rfl, ?_, ?_⟩)
    · rw [app_len, app_len]
      exact Nat.le_trans (show _ ≤ 15403 by show 0 + _ + 3 ≤ _; omega) (by decide)
    refine wj_cons (we_fmtS (we_det v.2 (wa_cons (we_var rfl (wa_nil ⟨rfl, ok'.2, combT v.2, rfl, Nat.le_trans l2 (by decide), combT v.2, rfl, Nat.le_trans l3 (by decide), ?_⟩)))))
    exact wj_nil fin

theorem ok_read_comb (T : Tx K mg) (D_is_pitch_word : D_is_pitch_word_ P w K mg base) (D_is_tooth_word : D_is_tooth_word_ P w K mg base) {f : Addr} {fd : FuncData} (F : Here K mg "read_comb" s_read_comb ["words", "at"] f fd) : D_read_comb_ P w K mg base := by
  refine F.df (fgP F.1 sc_read_comb (fun ds k h => ?_) fun cdv B fr s H E hg hr => ⟨_, ((pss_cons (ps_if (PW.pt (pw_or (pt_cmpR (r := rEqU K) (op_eqU hr.units) (pv 1) (pe_callB (r := rLenQ K) call_len_seq (by rfl) T.n_len (by decide +kernel) (pa_cons (pv 0) pa_nil)) (nomark _)) (pw_or1 (pt_not (pt_val (pe_callD D_is_pitch_word hg (hr.mono (by decide)) (by rfl) (pa_cons (pe_ix (r := rIx K) ix_seq (pv 0) (pv 1) (fun _ _ => rfl)) pa_nil))))))) (pss_one ps_never) pss_nil)
      (pss_cons (ps_set (i := 2) sc_read_comb.nd rfl (.inl rfl) (pe_callTy (r := rIntS) call_int_str (by rfl) T.n_int (by decide +kernel) (pa_cons (pe_slice sl_str (pe_ix (r := rIx K) ix_seq (pv 0) (pv 1) (fun _ _ => rfl)) po_none (po_some (pe_un un_neg pe_int))) pa_nil)))
      (pss_cons (ps_set (i := 3) sc_read_comb.nd rfl (.inl rfl) (pe_op op_addU (pv 1) pe_int))
      (pss_cons (ps_set (i := 4) sc_read_comb.nd rfl (.inl rfl) (pe_lst pa_nil))
      (pss_cons (ps_while PassesOwn.never (PW.pt (pw_and (pt_cmpR op_lt (pv 3) (pe_callB (r := rLenQ K) call_len_seq (by rfl) T.n_len (by decide +kernel) (pa_cons (pv 0) pa_nil)) (nomark _)) (pw_and1 (pt_val (pe_callD D_is_tooth_word hg (hr.mono (by decide)) (by rfl) (pa_cons (pe_ix (r := rIx K) ix_seq (pv 0) (pv 3) (fun _ _ => rfl)) (pa_cons (pv 4) (pa_cons (pv 2) pa_nil)))))))) (pss_cons (ps_expr (pe_bm PySem.F.plainAttrs_list PySem.F.slot_list_append PySem.F.type_list_append mt_append (pv 4) (pa_cons (pe_callTy (r := rIntS) call_int_str (by rfl) T.n_int (by decide +kernel) (pa_cons (pe_ix (r := rIx K) ix_seq (pv 0) (pv 3) (fun _ _ => rfl)) pa_nil)) pa_nil)))
      (pss_one (ps_set (i := 3) sc_read_comb.nd rfl (.inl rfl) (pe_op op_addU (pv 3) pe_int)))))
      (pss_cons (ps_if (pt_cmpR (r := rEqU K) (op_eqU hr.units) (pe_callB (r := rLenQ K) call_len_seq (by rfl) T.n_len (by decide +kernel) (pa_cons (pv 4) pa_nil)) pe_int (nomark _)) (pss_one ps_never) pss_nil)
      (pss_one (ps_ret (pe_tup (pa_cons (pe_tup (pa_cons (pv 2) (pa_cons (pv 4) pa_nil))) (pa_cons (pv 3) pa_nil)))))))))))), ?_⟩)
  · obtain ⟨a, rfl, _⟩ := h; rfl
  · intro c ds k hc h
    obtain ⟨⟨ws, i⟩, rfl, ⟨wok, hi, r, hr⟩, h⟩ := h
    have wok' : WOk ws := wok
    have hi' : i ≤ ws.length := hi
    have hr' : readComb ws i = .ok r := hr
    have fin : ∀ cb j, readComb ws i = .ok (cb, j) → k (.tuple [cb.d, .int (j : Int)]) := fun cb j e => h _ ⟨cb, j, e, rfl⟩
    have hL := wok'.1
    unfold readComb at hr' fin
    cases hw : ws[i]? with
    | none => rw [hw] at hr'; cases hr'
    | some w =>
    rw [hw] at hr' fin
    have hlt := (List.getElem?_eq_some_iff.mp hw).1
    have lw : w.length ≤ sizeLine := wok'.2 w (List.mem_of_getElem? hw)
    cases zp : isPitchW w with
    | false => dsimp only at hr'; rw [zp, if_neg (by simp)] at hr'; cases hr'
    | true =>
    dsimp only at hr' fin
    rw [zp, if_pos rfl] at hr' fin
    obtain ⟨n, hn, l40⟩ := pitch_int zp
    have lc : (cutS w none (some (-1))).length ≤ sizeLine := Nat.le_trans (cutS_length ..) lw
    have v : valS (cutS w none (some (-1))) = n := by unfold valS; rw [hn]; rfl
    rw [v] at hr' fin
    obtain ⟨L9, hL9⟩ : ∃ z : Int, (ws.length : Int) = z := ⟨_, rfl⟩
    have ixw : ∀ (j : Nat) (x : Str), ws[j]? = some x → ixD (strsD ws) (j : Int) = some (.str x) := fun j x e => atI_nat (j := j) (by rw [List.getElem?_map, e]; rfl)
    obtain ⟨i9, hi9⟩ : ∃ z : Int, (i : Int) = z := ⟨_, rfl⟩
    have ixi : ixD (strsD ws) i9 = some (.str w) := by rw [← hi9]; exact ixw i w hw
    walk_at "nz"
    rw [hi9]
    refine ws_seq (ws_if (wt_or (wt_B (we_op (we_var rfl (we_cb (wa_cons (we_var rfl (wa_nil (cb_lenL ?_))))))))))
    rw [List.length_map, hL9]
    refine os_eqI ?_
    walk_at "nz"
    refine iteN (decide_eq_false (by omega)) ?_
    refine wt_not (wt_T (we_det w (wa_cons (we_op (we_var rfl (we_var rfl (os_ix ixi ?_)))))))
    refine wa_nil ⟨rfl, lw, ?_⟩
    rw [zp]
    walk_at "nz"
    refine iteN rfl ?_
    refine ws_next ?_
    walk_at "nz"
    refine ws_seq (ws_set (we_cb (wa_cons (we_sliceS (we_op (we_var rfl (we_var rfl (os_ix ixi ⟨w, rfl, lw, wo_none (wo_some (we_neg (we_int ?_)))⟩))))))))
    refine wa_nil (cb_intS hn (by omega) ?_)
    walk_at "nz"
    refine ws_seq (ws_set (we_op (we_var rfl (we_int (os_addI ?_)))))
    walk_at "nz"
    refine ws_seq (ws_setO (wa_nil ⟨Nat.zero_le _, ?_⟩))
    walk_at "nz"
    refine ws_seqJ (fun ds' p' => ∃ ts : List Int, eatT n [] (ws.drop (i + 1)) = ts ∧ i + 1 + ts.length ≤ ws.length ∧ ds' = [some (.d (strsD ws)), some (.d (.int i9)), some (.d (.int n)), some (.d (.int ((i + 1 + ts.length : Nat) : Int))), some (.o (ts.map PyData.int))] ∧ p' = []) ?_ ?_
    · refine ws_while (fun m ds' pl' => ∃ (ts : List Int), m = ws.length - (i + 1 + ts.length) ∧ i + 1 + ts.length ≤ ws.length ∧ eatT n ts (ws.drop (i + 1 + ts.length)) = eatT n [] (ws.drop (i + 1)) ∧ ds' = [some (.d (strsD ws)), some (.d (.int i9)), some (.d (.int n)), some (.d (.int ((i + 1 + ts.length : Nat) : Int))), some (.o (ts.map PyData.int))] ∧ pl' = []) (ws.length - (i + 1)) ⟨[], rfl, hlt, rfl, ?_, rfl⟩ ?_
      · rw [← hi9]; rfl
      rintro m ds' pl' ⟨ts, rfl, jl, he, rfl, rfl⟩
      obtain ⟨j, hj⟩ : ∃ j : Nat, i + 1 + ts.length = j := ⟨_, rfl⟩
      rw [hj] at jl he ⊢
      obtain ⟨j9, hj9⟩ : ∃ z : Int, (j : Int) = z := ⟨_, rfl⟩
      rw [hj9]
      refine wt_and (wt_B (we_op (we_var rfl (we_cb (wa_cons (we_var rfl (wa_nil (cb_lenL ?_))))))))
      rw [List.length_map, hL9]
      refine os_lt ?_
      walk_at "nz"
      by_cases lt : j < ws.length
      · refine iteV (decide_eq_true (by omega)) ?_
        obtain ⟨w2, hw2⟩ : ∃ w2, ws[j]? = some w2 := ⟨ws[j], List.getElem?_eq_getElem lt⟩
        have dj : ws.drop j = w2 :: ws.drop (j + 1) := by
          rw [List.drop_eq_getElem_cons lt]
          rw [List.getElem?_eq_getElem lt] at hw2
          rw [Option.some.inj hw2]
        have lw2 : w2.length ≤ sizeLine := wok'.2 w2 (List.mem_of_getElem? hw2)
        have ixj : ixD (strsD ws) j9 = some (.str w2) := by rw [← hj9]; exact ixw j w2 hw2
        rw [dj] at he
        refine wt_T (we_lendN (i := 4) (xs := ts.map PyData.int) rfl (fun a ys q => by
          match a, q with
          | 0, q => cases q
          | 1, q => cases q
          | 2, q => cases q
          | 3, q => cases q
          | 4, q => rfl
          | a + 5, q => simp at q) ?_)
        walk_at "nz"
        refine we_det (w2, ts, n) (wa_cons (we_op (we_var rfl (we_var rfl (os_ix ixj ?_)))))
        refine wa_cons (we_var rfl (wa_cons (we_var rfl (wa_nil ⟨rfl, lw2, .inr hc, _, rfl, rfl, ?_⟩))))
        walk_at "nz"
        cases zt : isToothW w2 ts n with
        | true =>
          refine iteV rfl ?_
          rw [eat_step zt] at he
          obtain ⟨t, ht, l4⟩ := count_int (tooth_count zt)
          have vt : valS w2 = t := by unfold valS; rw [ht]; rfl
          rw [vt] at he
          walk_at "nz"
          refine ws_seq (ws_app rfl (we_cb (wa_cons (we_op (we_var rfl (we_var rfl (os_ix ixj ?_)))))))
          refine wa_nil (cb_intS ht (by omega) ⟨?_, ?_⟩)
          · rw [List.length_map]; omega
          walk_at "nz"
          refine ws_set (we_op (we_var rfl (we_int (os_addI ?_))))
          refine ⟨ws.length - (j + 1), by omega, ts ++ [t], ?_, ?_, ?_, ?_, rfl⟩
          · rw [List.length_append, List.length_singleton, ← Nat.add_assoc, hj]
          · rw [List.length_append, List.length_singleton, ← Nat.add_assoc, hj]; omega
          · rw [List.length_append, List.length_singleton, ← Nat.add_assoc, hj]; exact he
          · rw [List.length_append, List.length_singleton, ← Nat.add_assoc, hj, List.map_append]
            rw [show ((j + 1 : Nat) : Int) = j9 + 1 by omega]
            rfl
        | false =>
          refine iteN rfl ?_
          rw [eat_stop zt] at he
          refine ⟨ts, he.symm, by omega, ?_, rfl⟩
          rw [hj, hj9]
      · refine iteN (decide_eq_false (by omega)) ?_
        rw [List.drop_of_length_le (by omega)] at he
        refine ⟨ts, he.symm, by omega, ?_, rfl⟩
        rw [hj, hj9]
    rintro ds' p' ⟨ts, et, jl, rfl, rfl⟩
    rw [et] at hr' fin
    walk_at "nz"
    refine ws_seq (ws_if (wt_B (we_op (we_lenO rfl (we_int (os_eqI ?_))))))
    rw [List.length_map]
    walk_at "nz"
    by_cases z0 : ts = []
    · rw [if_pos z0] at hr'; cases hr'
    rw [if_neg z0] at fin
    refine iteN (decide_eq_false (fun e => z0 (List.length_eq_zero_iff.mp (by omega)))) ?_
    refine ws_next ?_
    refine ws_frz (i := 4) rfl ?_
    walk_at "nz"
    refine ws_ret (we_tup (wa_cons (we_tup (wa_cons (we_var rfl (wa_cons (we_var rfl (wa_nil ⟨by show 2 ≤ sizeLine; decide, ?_⟩))))))))
    refine wa_cons (we_var rfl (wa_nil ⟨by show 2 ≤ sizeLine; decide, ?_⟩))
    exact fin ⟨n, ts⟩ _ rfl

theorem ok_read_moves (T : Tx K mg) (D_is_number : D_is_number_ P w K mg base) {f : Addr} {fd : FuncData} (F : Here K mg "read_moves" s_read_moves ["words"] f fd) : D_read_moves_ P w K mg base := by
  refine F.df (fgP F.1 sc_read_moves (fun ds k h => ?_) fun cdv B fr s H E hg hr => ⟨_, ((pss_cons (ps_set (i := 1) sc_read_moves.nd rfl (.inl rfl) (pe_lst pa_nil))
      (pss_cons (ps_for PassesOwn.never rfl (pi_enum (by rfl) T.n_enumerate (pa_cons (pv 0) pa_nil)) (pg_tup (n := 2) rfl (pgs_cons (pg_name (i := 2) sc_read_moves.nd rfl (.inl rfl)) (pgs_cons (pg_name (i := 3) sc_read_moves.nd rfl (.inl rfl)) pgs_nil))) (pss_cons (ps_if (PW.pt (pw_or (pt_cmpR (r := rEqU K) (op_eqU hr.units) (pv 2) (pe_glob (v := .int 40) (by rfl) T.c_MOST_MOVES.choose_spec ⟨_, rfl⟩) (nomark _)) (pw_or (pt_not (pt_val (pe_callD D_is_number hg (hr.mono (by decide)) (by rfl) (pa_cons (pv 3) pa_nil)))) (pw_or1 (pt_cmpR (r := rEqU K) (op_eqU hr.units) (pv 3) pe_str (nomark _)))))) (pss_one ps_never) pss_nil)
      (pss_one (ps_expr (pe_bm PySem.F.plainAttrs_list PySem.F.slot_list_append PySem.F.type_list_append mt_append (pv 1) (pa_cons (pe_callTy (r := rIntS) call_int_str (by rfl) T.n_int (by decide +kernel) (pa_cons (pv 3) pa_nil)) pa_nil))))))
      (pss_one (ps_ret (pv 1)))))), ?_⟩)
  · obtain ⟨a, rfl, _⟩ := h; rfl
  · intro c ds k hc h
    obtain ⟨ws, rfl, ⟨wok, ms, hr⟩, h⟩ := h
    have wok' : WOk ws := wok
    have hr' : readMs 0 ws = .ok ms := hr
    have fin : k (.list (ms.map PyData.int)) := h _ ⟨ms, hr', rfl⟩
    have hL := wok'.1
    walk_at "nz"
    refine ws_seq (ws_setO (wa_nil ⟨Nat.zero_le _, ?_⟩))
    walk_at "nz"
    refine ws_seq ?_
    refine ws_forEL (fun i ds' pl' => ∃ (ns : List Int) (b2 b3 : Option W), ds' = [some (.d (strsD ws)), some (.o (ns.map PyData.int)), b2, b3] ∧ pl' = [] ∧ ns.length = i ∧ ∃ r, readMs i (ws.drop i) = .ok r ∧ ms = ns ++ r) (ws.map PyData.str) ?_ ?_ ?_
    · exact wa_cons (we_var rfl (wa_nil ⟨rfl, [], _, _, rfl, rfl, rfl, ms, hr', rfl⟩))
    · rintro i x ds' pl' hx ⟨ns, b2, b3, rfl, rfl, nl, r, h1, h2⟩
      rw [List.getElem?_map] at hx
      cases hw : ws[i]? with
      | none => rw [hw] at hx; cases hx
      | some w =>
      rw [hw] at hx
      cases hx
      have hlt := (List.getElem?_eq_some_iff.mp hw).1
      have lw : w.length ≤ sizeLine := wok'.2 w (List.mem_of_getElem? hw)
      have di : ws.drop i = w :: ws.drop (i + 1) := by
        rw [List.drop_eq_getElem_cons hlt]
        rw [List.getElem?_eq_getElem hlt] at hw
        rw [Option.some.inj hw]
      rw [di] at h1
      obtain ⟨c1, c2, c3, r', h3, rfl⟩ := readMs_step h1
      obtain ⟨m, hm, l40⟩ := num_int c2
      have v : valS w = m := by unfold valS; rw [hm]; rfl
      rw [v] at h2
      walk_at "nz"
      obtain ⟨i9, hi9⟩ : ∃ z : Int, (i : Int) = z := ⟨_, rfl⟩
      rw [hi9]
      refine ws_seq (ws_if (wt_or (wt_B (we_op (we_var rfl (we_int (os_eqI ?_)))))))
      walk_at "nz"
      refine iteN (decide_eq_false (by omega)) ?_
      refine wt_or (wt_not (wt_T (we_det w (wa_cons (we_var rfl (wa_nil ⟨rfl, lw, ?_⟩))))))
      rw [c2]
      walk_at "nz"
      refine iteN rfl ?_
      refine wt_B (we_op (we_var rfl (we_str (os_eqT ?_))))
      walk_at "nz"
      refine iteN (decide_eq_false c3) ?_
      refine ws_next ?_
      walk_at "nz"
      refine ws_app rfl (we_cb (wa_cons (we_var rfl ?_)))
      refine wa_nil (cb_intS hm (by omega) ⟨?_, ?_⟩)
      · rw [List.length_map, nl]; omega
      refine ⟨ns ++ [m], some (.d (.int i9)), some (.d (.str w)), ?_, rfl, by rw [List.length_append, nl]; rfl, r', h3, by rw [List.append_assoc]; exact h2⟩
      rw [List.map_append]
      rfl
    · rintro ds' pl' ⟨ns, b2, b3, rfl, rfl, nl, r, h1, h2⟩
      rw [List.length_map] at h1
      rw [List.drop_of_length_le (Nat.le_refl _)] at h1
      cases h1
      rw [List.append_nil] at h2
      subst h2
      walk_at "nz"
      exact ws_retO rfl fin

theorem ok_read_number (T : Tx K mg) (D_is_number : D_is_number_ P w K mg base) {f : Addr} {fd : FuncData} (F : Here K mg "read_number" s_read_number ["words", "at"] f fd) : D_read_number_ P w K mg base := by
  refine F.df (fgP F.1 sc_read_number (fun ds k h => ?_) fun cdv B fr s H E hg hr => ⟨_, ((pss_cons (ps_if (PW.pt (pw_or (pt_cmpR (r := rEqU K) (op_eqU hr.units) (pv 1) (pe_callB (r := rLenQ K) call_len_seq (by rfl) T.n_len (by decide +kernel) (pa_cons (pv 0) pa_nil)) (nomark _)) (pw_or1 (pt_not (pt_val (pe_callD D_is_number hg (hr.mono (by decide)) (by rfl) (pa_cons (pe_ix (r := rIx K) ix_seq (pv 0) (pv 1) (fun _ _ => rfl)) pa_nil))))))) (pss_one ps_never) pss_nil)
      (pss_one (ps_ret (pe_callTy (r := rIntS) call_int_str (by rfl) T.n_int (by decide +kernel) (pa_cons (pe_ix (r := rIx K) ix_seq (pv 0) (pv 1) (fun _ _ => rfl)) pa_nil)))))), ?_⟩)
  · obtain ⟨a, rfl, _⟩ := h; rfl
  · intro c ds k hc h
    obtain ⟨⟨ws, i⟩, rfl, ⟨wok, hi, n, hr⟩, h⟩ := h
    have wok' : WOk ws := wok
    have hr' : readNum ws i = .ok n := hr
    have fin : k (.int n) := h _ ⟨n, hr', rfl⟩
    unfold readNum at hr'
    cases hw : ws[i]? with
    | none => rw [hw] at hr'; cases hr'
    | some w =>
    rw [hw] at hr'
    have hlt := (List.getElem?_eq_some_iff.mp hw).1
    have lw : w.length ≤ sizeLine := wok'.2 w (List.mem_of_getElem? hw)
    cases zp : isNum w with
    | false => dsimp only at hr'; rw [zp, if_neg (by simp)] at hr'; cases hr'
    | true =>
    dsimp only at hr'
    rw [zp, if_pos rfl] at hr'
    cases hr'
    obtain ⟨m, hm, l40⟩ := num_int zp
    have v : valS w = m := by unfold valS; rw [hm]; rfl
    rw [v] at fin
    obtain ⟨L9, hL9⟩ : ∃ z : Int, (ws.length : Int) = z := ⟨_, rfl⟩
    obtain ⟨i9, hi9⟩ : ∃ z : Int, (i : Int) = z := ⟨_, rfl⟩
    have ixi : ixD (strsD ws) i9 = some (.str w) := by rw [← hi9]; exact atI_nat (j := i) (by rw [List.getElem?_map, hw]; rfl)
    walk_at "nz"
    rw [hi9]
    refine ws_seq (ws_if (wt_or (wt_B (we_op (we_var rfl (we_cb (wa_cons (we_var rfl (wa_nil (cb_lenL ?_))))))))))
    rw [List.length_map, hL9]
    refine os_eqI ?_
    walk_at "nz"
    refine iteN (decide_eq_false (by omega)) ?_
    refine wt_not (wt_T (we_det w (wa_cons (we_op (we_var rfl (we_var rfl (os_ix ixi ?_)))))))
    refine wa_nil ⟨rfl, lw, ?_⟩
    rw [zp]
    walk_at "nz"
    refine iteN rfl ?_
    refine ws_next ?_
    walk_at "nz"
    refine ws_ret (we_cb (wa_cons (we_op (we_var rfl (we_var rfl (os_ix ixi ?_))))))
    exact wa_nil (cb_intS hm (by omega) fin)

theorem ok_check_device (T : Tx K mg) (D_is_comb : D_is_comb_ P w K mg base) (D_is_pair : D_is_pair_ P w K mg base) {f : Addr} {fd : FuncData} (F : Here K mg "check_device" s_check_device ["device"] f fd) : D_check_device_ P w K mg base := by
  refine F.df (fgP F.1 sc_check_device (fun ds k h => ?_) fun cdv B fr s H E hg hr => ⟨_, ((pss_cons (ps_if (pt_not (pt_val (pe_callD D_is_pair hg (hr.mono (by decide)) (by rfl) (pa_cons (pv 0) pa_nil)))) (pss_one ps_never) pss_nil)
      (pss_one (ps_for PassesOwn.never rfl (pi_enumT (by rfl) T.n_enumerate (pa_cons (pv 0) pa_nil)) (pg_tup (n := 2) rfl (pgs_cons (pg_name (i := 1) sc_check_device.nd rfl (.inl rfl)) (pgs_cons (pg_name (i := 2) sc_check_device.nd rfl (.inl rfl)) pgs_nil))) (pss_one (ps_if (pt_not (pt_val (pe_callD D_is_comb hg (hr.mono (by decide)) (by rfl) (pa_cons (pv 2) pa_nil)))) (pss_one ps_never) pss_nil)))))), ?_⟩)
  · obtain ⟨a, rfl, _⟩ := h; rfl
  · intro c ds k hc h
    obtain ⟨⟨g, r⟩, rfl, ok, h⟩ := h
    walk_at "go"
    refine we_det (Dv.d (g, r)) ?_
    walk_at "go"
    refine ws_forET (fun i ds' pl' => ∃ a b, ds' = [some (.d (Dv.d (g, r))), a, b]) [g.d, r.d] ?_ ?_ ?_
    · walk_at "go"
      exact ⟨_, _, rfl⟩
    · rintro i x ds' pl' hx ⟨a, b, rfl⟩
      have hx2 : ∃ cb : Comb, cb.Ok ∧ x = cb.d := by
        match i, hx with
        | 0, hx => exact ⟨g, ok.1, (Option.some.inj hx).symm⟩
        | 1, hx => exact ⟨r, ok.2, (Option.some.inj hx).symm⟩
        | i + 2, hx => simp at hx
      obtain ⟨cb, okc, rfl⟩ := hx2
      walk_at "go"
      refine we_det cb ?_
      walk_at "go"
      refine ⟨okc, ?_⟩
      walk_at "go"
      exact ⟨_, _, rfl⟩
    · rintro ds' pl' ⟨a, b, rfl⟩
      exact h

theorem ok_read_device (T : Tx K mg) (D_read_comb : D_read_comb_ P w K mg base) {f : Addr} {fd : FuncData} (F : Here K mg "read_device" s_read_device ["words"] f fd) : D_read_device_ P w K mg base := by
  refine F.df (fgP F.1 sc_read_device (fun ds k h => ?_) fun cdv B fr s H E hg hr => ⟨_, ((pss_cons (ps_asg (pe_callD D_read_comb hg (hr.mono (by decide)) (by rfl) (pa_cons (pv 0) (pa_cons pe_int pa_nil))) (pg_tup (n := 2) rfl (pgs_cons (pg_name (i := 1) sc_read_device.nd rfl (.inl rfl)) (pgs_cons (pg_name (i := 2) sc_read_device.nd rfl (.inl rfl)) pgs_nil))))
      (pss_cons (ps_if (PW.pt (pw_or (pt_cmpR (r := rEqU K) (op_eqU hr.units) (pv 2) (pe_callB (r := rLenQ K) call_len_seq (by rfl) T.n_len (by decide +kernel) (pa_cons (pv 0) pa_nil)) (nomark _)) (pw_or1 (pt_cmpR (r := rNeU K) (op_neU hr.units) (pe_ix (r := rIx K) ix_seq (pv 0) (pv 2) (fun _ _ => rfl)) pe_str (nomark _))))) (pss_one ps_never) pss_nil)
      (pss_cons (ps_asg (pe_callD D_read_comb hg (hr.mono (by decide)) (by rfl) (pa_cons (pv 0) (pa_cons (pe_op op_addU (pv 2) pe_int) pa_nil))) (pg_tup (n := 2) rfl (pgs_cons (pg_name (i := 3) sc_read_device.nd rfl (.inl rfl)) (pgs_cons (pg_name (i := 4) sc_read_device.nd rfl (.inl rfl)) pgs_nil))))
      (pss_cons (ps_if (pt_cmpR op_lt (pv 4) (pe_callB (r := rLenQ K) call_len_seq (by rfl) T.n_len (by decide +kernel) (pa_cons (pv 0) pa_nil)) (nomark _)) (pss_one ps_never) pss_nil)
      (pss_one (ps_ret (pe_tup (pa_cons (pv 1) (pa_cons (pv 3) pa_nil)))))))))), ?_⟩)
  · obtain ⟨a, rfl, _⟩ := h; rfl
  · intro c ds k hc h
    obtain ⟨ws, rfl, ⟨wok, v, hr⟩, h⟩ := h
    have wok' : WOk ws := wok
    have hr' : readDev ws = .ok v := hr
    have fin : k v.d := h _ ⟨v, hr', rfl⟩
    have ixw : ∀ (j : Nat) (x : Str), ws[j]? = some x → ixD (strsD ws) (j : Int) = some (.str x) := fun j x e => atI_nat (j := j) (by rw [List.getElem?_map, e]; rfl)
    unfold readDev at hr'
    cases h1 : readComb ws 0 with
    | error e => rw [h1] at hr'; cases hr'
    | ok r1 =>
    obtain ⟨cb, i⟩ := r1
    rw [h1] at hr'
    dsimp only at hr'
    by_cases hs : ws[i]? = some ("/" : Str)
    · rw [if_pos hs] at hr'
      have hlt := (List.getElem?_eq_some_iff.mp hs).1
      cases h2 : readComb ws (i + 1) with
      | error e => rw [h2] at hr'; cases hr'
      | ok r2 =>
      obtain ⟨e, j⟩ := r2
      rw [h2] at hr'
      dsimp only at hr'
      by_cases hj : j < ws.length
      · rw [if_pos hj] at hr'; cases hr'
      rw [if_neg hj] at hr'
      cases hr'
      obtain ⟨L9, hL9⟩ : ∃ z : Int, (ws.length : Int) = z := ⟨_, rfl⟩
      walk_at "nz"
      refine ws_seq (ws_unpN rfl (we_rel (ws, 0) (wa_cons (we_var rfl (wa_cons (we_int (wa_nil ⟨rfl, ⟨wok', Nat.zero_le _, _, h1⟩, fun d q => ?_⟩)))))))
      obtain ⟨cb', i', q1, rfl⟩ := q
      have q1' : readComb ws 0 = .ok (cb', i') := q1
      rw [h1] at q1'
      cases q1'
      obtain ⟨i9, hi9⟩ : ∃ z : Int, (i : Int) = z := ⟨_, rfl⟩
      have ixi : ixD (strsD ws) i9 = some (.str "/") := by rw [← hi9]; exact ixw i _ hs
      refine ⟨_, _, rfl, ?_⟩
      walk_at "nz"
      rw [hi9]
      refine ws_seq (ws_if (wt_or (wt_B (we_op (we_var rfl (we_cb (wa_cons (we_var rfl (wa_nil (cb_lenL ?_))))))))))
      rw [List.length_map, hL9]
      refine os_eqI ?_
      walk_at "nz"
      refine iteN (decide_eq_false (by omega)) ?_
      refine wt_B (we_op (we_op (we_var rfl (we_var rfl (os_ix ixi ?_)))))
      refine we_str (os_neT ?_)
      walk_at "nz"
      refine iteN (by rw [decide_eq_true rfl]; rfl) ?_
      refine ws_next ?_
      walk_at "nz"
      refine ws_seq (ws_unpN rfl (we_rel (ws, i + 1) (wa_cons (we_var rfl (wa_cons (we_op (we_var rfl (we_int (os_addI ?_)))))))))
      refine wa_nil ⟨by rw [← hi9]; rfl, ⟨wok', by show i + 1 ≤ ws.length; omega, _, h2⟩, fun d q => ?_⟩
      obtain ⟨e', j', q2, rfl⟩ := q
      have q2' : readComb ws (i + 1) = .ok (e', j') := q2
      rw [h2] at q2'
      cases q2'
      refine ⟨_, _, rfl, ?_⟩
      walk_at "nz"
      refine ws_seq (ws_if (wt_B (we_op (we_var rfl (we_cb (wa_cons (we_var rfl (wa_nil (cb_lenL ?_)))))))))
      rw [List.length_map]
      refine os_lt ?_
      walk_at "nz"
      refine iteN (decide_eq_false (by omega)) ?_
      refine ws_next ?_
      walk_at "nz"
      refine ws_ret (we_tup (wa_cons (we_var rfl (wa_cons (we_var rfl (wa_nil ⟨by show 2 ≤ sizeLine; decide, ?_⟩))))))
      exact fin
    · rw [if_neg hs] at hr'; cases hr'

theorem ok_parse_moves (T : Tx K mg) (D_read_moves : D_read_moves_ P w K mg base) (D_text_words : D_text_words_ P w K mg base) {f : Addr} {fd : FuncData} (F : Here K mg "parse_moves" s_parse_moves ["text"] f fd) : D_parse_moves_ P w K mg base := by
  refine F.df (fgP F.1 sc_parse_moves (fun ds k h => ?_) fun cdv B fr s H E hg hr => ⟨_, ((pss_cons (ps_set (i := 1) sc_parse_moves.nd rfl (.inl rfl) (pe_callD D_text_words hg (hr.mono (by decide)) (by rfl) (pa_cons (pv 0) pa_nil)))
      (pss_cons (ps_if (pt_cmpR (r := rEqU K) (op_eqU hr.units) (pv 0) pe_str (nomark _)) (pss_one (ps_ret (pe_lst pa_nil))) pss_nil)
      (pss_one (ps_ret (pe_callD D_read_moves hg (hr.mono (by decide)) (by rfl) (pa_cons (pv 1) pa_nil))))))), ?_⟩)
  · obtain ⟨a, rfl, _⟩ := h; rfl
  · intro c ds k hc h
    obtain ⟨t, rfl, ⟨l, pre⟩, h⟩ := h
    have fin : ∀ ms : List Int, (if t = "" then ms = [] else readMs 0 (Txt.split t " ") = .ok ms) → k (.list (ms.map PyData.int)) := fun ms e => h _ ⟨ms, e, rfl⟩
    walk_at "nz"
    refine ws_seq (ws_set (we_det t (wa_cons (we_var rfl (wa_nil ⟨rfl, l, ?_⟩)))))
    walk_at "nz"
    refine ws_seq (ws_if (wt_B (we_op (we_var rfl (we_str (os_eqT ?_))))))
    walk_at "nz"
    by_cases z : t = ""
    · refine iteV (decide_eq_true z) ?_
      walk_at "nz"
      refine ws_ret (we_lst (wa_nil ⟨Nat.zero_le _, ?_⟩))
      exact fin [] (by rw [if_pos z])
    · refine iteN (decide_eq_false z) ?_
      refine ws_next ?_
      walk_at "nz"
      obtain ⟨wok, ms, hr⟩ := pre z
      refine ws_ret (we_rel (Txt.split t " ") (wa_cons (we_var rfl (wa_nil ⟨rfl, ⟨wok, ms, hr⟩, fun d q => ?_⟩))))
      obtain ⟨ms2, q1, rfl⟩ := q
      exact fin ms2 (by rw [if_neg z]; exact q1)

theorem ok_parse_device (T : Tx K mg) (D_read_device : D_read_device_ P w K mg base) (D_text_words : D_text_words_ P w K mg base) {f : Addr} {fd : FuncData} (F : Here K mg "parse_device" s_parse_device ["text"] f fd) : D_parse_device_ P w K mg base := by
  refine F.df (fgP F.1 sc_parse_device (fun ds k h => ?_) fun cdv B fr s H E hg hr => ⟨_, ((pss_one (ps_ret (pe_callD D_read_device hg (hr.mono (by decide)) (by rfl) (pa_cons (pe_callD D_text_words hg (hr.mono (by decide)) (by rfl) (pa_cons (pv 0) pa_nil)) pa_nil))))), ?_⟩)
  · obtain ⟨a, rfl, _⟩ := h; rfl
  · intro c ds k hc h
    obtain ⟨t, rfl, ⟨l, wok, v, hr⟩, h⟩ := h
    walk_at "nz"
    refine ws_ret (we_rel (Txt.split t " ") (wa_cons (we_det t (wa_cons (we_var rfl (wa_nil ⟨rfl, l, ?_⟩))))))
    refine wa_nil ⟨rfl, ⟨wok, v, hr⟩, fun d q => ?_⟩
    exact h d q

theorem ok_parse_state (T : Tx K mg) (D_check_device : D_check_device_ P w K mg base) (D_is_held : D_is_held_ P w K mg base) (D_read_number : D_read_number_ P w K mg base) (D_text_words : D_text_words_ P w K mg base) {f : Addr} {fd : FuncData} (F : Here K mg "parse_state" s_parse_state ["device", "text"] f fd) : D_parse_state_ P w K mg base := by
  refine F.df (fgP F.1 sc_parse_state (fun ds k h => ?_) fun cdv B fr s H E hg hr => ⟨_, ((pss_cons (ps_expr (pe_callD D_check_device hg (hr.mono (by decide)) (by rfl) (pa_cons (pv 0) pa_nil)))
      (pss_cons (ps_set (i := 2) sc_parse_state.nd rfl (.inl rfl) (pe_callD D_text_words hg (hr.mono (by decide)) (by rfl) (pa_cons (pv 1) pa_nil)))
      (pss_cons (ps_set (i := 3) sc_parse_state.nd rfl (.inl rfl) (pe_callD D_read_number hg (hr.mono (by decide)) (by rfl) (pa_cons (pv 2) (pa_cons pe_int pa_nil))))
      (pss_cons (ps_set (i := 4) sc_parse_state.nd rfl (.inl rfl) (pe_callD D_read_number hg (hr.mono (by decide)) (by rfl) (pa_cons (pv 2) (pa_cons pe_int pa_nil))))
      (pss_cons (ps_if (pt_not (pt_val (pe_callD D_is_held hg (hr.mono (by decide)) (by rfl) (pa_cons (pv 0) (pa_cons (pv 3) (pa_cons (pv 4) pa_nil)))))) (pss_one ps_never) pss_nil)
      (pss_cons (ps_if (pt_cmpR op_gt (pe_callB (r := rLenQ K) call_len_seq (by rfl) T.n_len (by decide +kernel) (pa_cons (pv 2) pa_nil)) pe_int (nomark _)) (pss_one ps_never) pss_nil)
      (pss_one (ps_ret (pe_tup (pa_cons (pv 3) (pa_cons (pv 4) pa_nil)))))))))))), ?_⟩)
  · obtain ⟨a, rfl, _⟩ := h; rfl
  · intro c ds k hc h
    obtain ⟨⟨v, t⟩, rfl, ⟨ok, l, x, y, sp, bx, by_, hh⟩, h⟩ := h
    have ok' : v.Ok := ok
    have sp' : Txt.split t " " = [numS x, numS y] := sp
    have hh' : held v (x, y) = true := hh
    have bx' : x.natAbs < 10 ^ 40 := bx
    have by' : y.natAbs < 10 ^ 40 := by_
    have fin : k (Sv.d (x, y)) := h _ ⟨x, y, sp', bx', by', rfl⟩
    have up : ∀ {z : Int}, z.natAbs < 10 ^ 40 → z.natAbs < 10 ^ 150 := fun hz => Nat.lt_of_lt_of_le hz (by decide +kernel)
    have wok : WOk [numS x, numS y] := nums_wok (ns := [x, y]) (by show 2 ≤ 100; decide) fun n hn => by
      simp only [List.mem_cons, List.not_mem_nil, or_false] at hn
      rcases hn with rfl | rfl
      · exact up bx'
      · exact up by'
    walk_at "nz"
    refine ws_seq (ws_drop (we_det v (wa_cons (we_var rfl (wa_nil ⟨rfl, ok', ?_⟩)))))
    walk_at "nz"
    refine ws_seq (ws_set (we_det t (wa_cons (we_var rfl (wa_nil ⟨rfl, l, ?_⟩)))))
    show WS _ _ _ _ _
    rw [sp']
    walk_at "nz"
    refine ws_seq (ws_set (we_rel ([numS x, numS y], 0) (wa_cons (we_var rfl (wa_cons (we_int (wa_nil ⟨rfl, ⟨wok, by show 0 ≤ 2; decide, x, readNum_ok rfl bx'⟩, fun d q => ?_⟩)))))))
    obtain ⟨n1, q1, rfl⟩ := q
    have e1 : n1 = x := by
      have q1' : readNum [numS x, numS y] 0 = .ok n1 := q1
      rw [readNum_ok (i := 0) rfl bx'] at q1'
      cases q1'
      rfl
    subst e1
    walk_at "nz"
    refine ws_seq (ws_set (we_rel ([numS n1, numS y], 1) (wa_cons (we_var rfl (wa_cons (we_int (wa_nil ⟨rfl, ⟨wok, by show 1 ≤ 2; decide, y, readNum_ok rfl by'⟩, fun d q => ?_⟩)))))))
    obtain ⟨n2, q2, rfl⟩ := q
    have e2 : n2 = y := by
      have q2' : readNum [numS n1, numS y] 1 = .ok n2 := q2
      rw [readNum_ok (i := 1) rfl by'] at q2'
      cases q2'
      rfl
    subst e2
    walk_at "nz"
    refine ws_seq (ws_if (wt_not (wt_T (we_det (v, (n1, n2)) (wa_cons (we_var rfl (wa_cons (we_var rfl (wa_cons (we_var rfl (wa_nil ⟨rfl, ok', ?_⟩)))))))))))
    rw [show held (v, n1, n2).1 (v, n1, n2).2 = true from hh']
    walk_at "nz"
    refine iteN rfl ?_
    refine ws_next ?_
    walk_at "nz"
    refine ws_seq (ws_if (wt_B (we_op (we_cb (wa_cons (we_var rfl (wa_nil (cb_lenL ?_))))))))
    refine we_int (os_gt ?_)
    walk_at "nz"
    refine iteN (decide_eq_false (by show ¬ (2 : Int) < ((2 : Nat) : Int); omega)) ?_
    refine ws_next ?_
    walk_at "nz"
    refine ws_ret (we_tup (wa_cons (we_var rfl (wa_cons (we_var rfl (wa_nil ⟨by show 2 ≤ sizeLine; decide, ?_⟩))))))
    exact fin

theorem ok_law (T : Tx K mg) (D__law_lists : D__law_lists_ P w K mg base) (D__law_pairs : D__law_pairs_ P w K mg base) (D__law_rigs : D__law_rigs_ P w K mg base) (D_format_device : D_format_device_ P w K mg base) (D_format_moves : D_format_moves_ P w K mg base) (D_format_state : D_format_state_ P w K mg base) (D_parse_device : D_parse_device_ P w K mg base) (D_parse_moves : D_parse_moves_ P w K mg base) (D_parse_state : D_parse_state_ P w K mg base) {f : Addr} {fd : FuncData} (F : Here K mg "law" s_law ["script"] f fd) : FG P w K mg base (6 + 1) f fd ["script"] (spLaw K) := by
  refine fgLaw F.1 sc_law rfl fun cdv B fr s H E hg hr => ⟨_, ((pss_cons (ps_for PassesOwn.never rfl (pi_list (pe_callD0 D__law_rigs hg (hr.mono (by decide)) (by rfl))) (pg_tup (n := 2) rfl (pgs_cons (pg_name (i := 1) sc_law.nd rfl (.inl rfl)) (pgs_cons (pg_name (i := 2) sc_law.nd rfl (.inl rfl)) pgs_nil))) (pss_cons (ps_if (pt_cmpR (r := rNeU K) (op_neU hr.units) (pe_callB (r := rReprL K) (call_reprL hg hr.units) (by rfl) T.n_repr (by decide +kernel) (pa_cons (pe_lst (pa_cons (pe_callD D_format_device hg (hr.mono (by decide)) (by rfl) (pa_cons (pv 1) pa_nil)) (pa_cons (pe_callD D_parse_device hg (hr.mono (by decide)) (by rfl) (pa_cons (pv 2) pa_nil)) pa_nil))) pa_nil)) (pe_callB (r := rReprL K) (call_reprL hg hr.units) (by rfl) T.n_repr (by decide +kernel) (pa_cons (pe_lst (pa_cons (pv 2) (pa_cons (pv 1) pa_nil))) pa_nil)) (nomark _)) (pss_one (ps_ret pe_bl)) pss_nil)
      (pss_one (ps_if (PW.pt (pw_or (pt_cmpR (r := rNeU K) (op_neU hr.units) (pe_callKP D_format_device T.k_format_device_kw_device hg (hr.mono (by decide)) (by rfl) (pk_cons (pv 1) pk_nil)) (pv 2) (nomark _)) (pw_or1 (pt_cmpR (r := rNeU K) (op_neU hr.units) (pe_callKP D_parse_device T.k_parse_device_kw_text hg (hr.mono (by decide)) (by rfl) (pk_cons (pv 2) pk_nil)) (pv 1) (nomark _))))) (pss_one (ps_ret pe_bl)) pss_nil))))
      (pss_cons (ps_for PassesOwn.never rfl (pi_list (pe_callD0 D__law_lists hg (hr.mono (by decide)) (by rfl))) (pg_tup (n := 2) rfl (pgs_cons (pg_name (i := 3) sc_law.nd rfl (.inl rfl)) (pgs_cons (pg_name (i := 2) sc_law.nd rfl (.inl rfl)) pgs_nil))) (pss_cons (ps_if (pt_cmpR (r := rNeU K) (op_neU hr.units) (pe_callB (r := rReprL K) (call_reprL hg hr.units) (by rfl) T.n_repr (by decide +kernel) (pa_cons (pe_lst (pa_cons (pe_callD D_format_moves hg (hr.mono (by decide)) (by rfl) (pa_cons (pv 3) pa_nil)) (pa_cons (pe_callD D_parse_moves hg (hr.mono (by decide)) (by rfl) (pa_cons (pv 2) pa_nil)) pa_nil))) pa_nil)) (pe_callB (r := rReprL K) (call_reprL hg hr.units) (by rfl) T.n_repr (by decide +kernel) (pa_cons (pe_lst (pa_cons (pv 2) (pa_cons (pv 3) pa_nil))) pa_nil)) (nomark _)) (pss_one (ps_ret pe_bl)) pss_nil)
      (pss_one (ps_if (PW.pt (pw_or (pt_cmpR (r := rNeU K) (op_neU hr.units) (pe_callKP D_format_moves T.k_format_moves_kw_moves hg (hr.mono (by decide)) (by rfl) (pk_cons (pv 3) pk_nil)) (pv 2) (nomark _)) (pw_or1 (pt_cmpR (r := rNeU K) (op_neU hr.units) (pe_callKP D_parse_moves T.k_parse_moves_kw_text hg (hr.mono (by decide)) (by rfl) (pk_cons (pv 2) pk_nil)) (pv 3) (nomark _))))) (pss_one (ps_ret pe_bl)) pss_nil))))
      (pss_cons (ps_set (i := 1) sc_law.nd rfl (.inl rfl) (pe_tup (pa_cons (pe_tup (pa_cons pe_int (pa_cons (pe_lst (pa_cons pe_int (pa_cons pe_int pa_nil))) pa_nil))) (pa_cons (pe_tup (pa_cons pe_int (pa_cons (pe_lst (pa_cons pe_int pa_nil)) pa_nil))) pa_nil))))
      (pss_cons (ps_for PassesOwn.never rfl (pi_list (pe_callD0 D__law_pairs hg (hr.mono (by decide)) (by rfl))) (pg_tup (n := 2) rfl (pgs_cons (pg_name (i := 4) sc_law.nd rfl (.inl rfl)) (pgs_cons (pg_name (i := 2) sc_law.nd rfl (.inl rfl)) pgs_nil))) (pss_cons (ps_if (pt_cmpR (r := rNeU K) (op_neU hr.units) (pe_callB (r := rReprL K) (call_reprL hg hr.units) (by rfl) T.n_repr (by decide +kernel) (pa_cons (pe_lst (pa_cons (pe_callD D_format_state hg (hr.mono (by decide)) (by rfl) (pa_cons (pv 4) pa_nil)) (pa_cons (pe_callD D_parse_state hg (hr.mono (by decide)) (by rfl) (pa_cons (pv 1) (pa_cons (pv 2) pa_nil))) pa_nil))) pa_nil)) (pe_callB (r := rReprL K) (call_reprL hg hr.units) (by rfl) T.n_repr (by decide +kernel) (pa_cons (pe_lst (pa_cons (pv 2) (pa_cons (pv 4) pa_nil))) pa_nil)) (nomark _)) (pss_one (ps_ret pe_bl)) pss_nil)
      (pss_one (ps_if (PW.pt (pw_or (pt_cmpR (r := rNeU K) (op_neU hr.units) (pe_callKP D_format_state T.k_format_state_kw_state hg (hr.mono (by decide)) (by rfl) (pk_cons (pv 4) pk_nil)) (pv 2) (nomark _)) (pw_or1 (pt_cmpR (r := rNeU K) (op_neU hr.units) (pe_callKP D_parse_state T.k_parse_state_kw_text_device hg (hr.mono (by decide)) (by rfl) (pk_cons (pv 2) (pk_cons (pv 1) pk_nil))) (pv 4) (nomark _))))) (pss_one (ps_ret pe_bl)) pss_nil))))
      (pss_one (ps_ret pe_bl))))))), ?_⟩
  intro c a ns hc hS hl
  have bw : ∀ {z : Int}, z.natAbs < 10 ^ 40 → z.natAbs < 10 ^ 150 := fun hz => Nat.lt_of_lt_of_le hz (by decide +kernel)
  have okSB : Comb.Ok ⟨10, [0, 3]⟩ ∧ Comb.Ok ⟨5, [0]⟩ := (rigs44_ok ((⟨10, [0, 3]⟩, ⟨5, [0]⟩), "10: 0 3 / 5: 0") (List.mem_cons_self ..)).1
  walk_at "nz"
  refine ws_seqJ (fun ds' p' => ∃ b1 b2 b3 b4, ds' = [some (.v (.ref a)), b1, b2, b3, b4] ∧ p' = []) ?_ ?_
  · refine ws_forG (u2 1 2) (fun i ds' pl' => ∃ b1 b2 b3 b4, ds' = [some (.v (.ref a)), b1, b2, b3, b4] ∧ pl' = []) (rigs44.map fun q => txD q.1.d q.2) (fun x hx => ?_) ?_ ?_ ?_
    · obtain ⟨q, hq, rfl⟩ := List.mem_map.mp hx
      exact ga_u2 rfl _ _
    · refine we_det () (wa_nil ⟨rfl, trivial, rfl, _, _, _, _, rfl, rfl⟩)
    · rintro i x ds' pl' hx ⟨b1, b2, b3, b4, rfl, rfl⟩
      obtain ⟨⟨v, t⟩, hq, rfl⟩ := List.mem_map.mp (List.mem_of_getElem? hx)
      obtain ⟨ov, et⟩ := rigs44_ok _ hq
      have ov' : v.Ok := ov
      have et' : devT v = t := et
      subst et'
      have lt := devT_len ov'
      have lt2 : (devT v).length + 2 ≤ sizeLine := Nat.le_trans (show _ ≤ 32000 by omega) (by decide)
      have sp := devT_split ov'
      have rd : readDev (Txt.split (devT v) " ") = .ok v := by rw [sp]; exact readDev_ok ov'
      have wk : WOk (Txt.split (devT v) " ") := by rw [sp]; exact devW_wok ov'
      have okR : okL 20 (.list [.str (devT v), v.d]) := fun y hy => by
        simp only [List.mem_cons, List.not_mem_nil, or_false] at hy
        rcases hy with rfl | rfl
        · exact okL_str (asc_dev v)
        · exact okL_of (ov'.okD 16)
      have wgR : wg (.list [.str (devT v), v.d]) ≤ sizeLine := by
        have h1 := wg_dev ov'
        have h2 : wg (.list [.str (devT v), v.d]) = (10 * (devT v).length + 10) + (wg v.d + 0) + 10 := rfl
        rw [h2]
        exact Nat.le_trans (show _ ≤ 400000 by omega) (by decide)
      have rd' : ∀ d, (∃ v2 : Dv, readDev (Txt.split (devT v) " ") = .ok v2 ∧ d = v2.d) → d = v.d := fun d ⟨v2, e1, e2⟩ => by
        rw [rd] at e1
        cases e1
        exact e2
      walk_at "nz"
      refine ws_seq (ws_if (wt_B (we_op (we_cb (wa_cons (we_lst (wa_cons ?_)))))))
      refine we_det v (wa_cons (we_var rfl (wa_nil ⟨rfl, ov', ?_⟩)))
      refine wa_cons (we_rel (devT v) (wa_cons (we_var rfl (wa_nil ⟨rfl, ⟨lt2, wk, v, rd⟩, fun d q => ?_⟩))))
      have e := rd' d q
      subst e
      refine wa_nil ⟨by show 2 ≤ sizeLine; decide, ?_⟩
      refine wa_nil (cb_reprL okR wgR ?_)
      refine we_cb (wa_cons (we_lst (wa_cons (we_var rfl (wa_cons (we_var rfl (wa_nil ⟨by show 2 ≤ sizeLine; decide, ?_⟩)))))))
      refine wa_nil (cb_reprL okR wgR (os_neT ?_))
      generalize PyData.shown _ = shown_
      walk_at "nz"
      refine iteN (ne_self _) ?_
      refine ws_next ?_
      walk_at "nz"
      refine ws_if (wt_or (wt_B (we_op ?_)))
      refine we_det v (wa_pick (wa_cons (we_var rfl (wa_nil ⟨rfl, ov', ?_⟩))))
      refine we_var rfl (os_neT ?_)
      walk_at "nz"
      refine iteN (ne_self _) ?_
      refine wt_B (we_op ?_)
      refine we_rel (devT v) (wa_pick (wa_cons (we_var rfl (wa_nil ⟨rfl, ⟨lt2, wk, v, rd⟩, fun d q => ?_⟩))))
      have e := rd' d q
      subst e
      refine we_var rfl (os_neS (ov'.okD 17) ?_)
      walk_at "nz"
      refine iteN rfl ?_
      refine ws_next ?_
      exact ⟨_, _, _, _, rfl, rfl⟩
    · rintro ds' pl' ⟨b1, b2, b3, b4, rfl, rfl⟩
      exact ⟨_, _, _, _, rfl, rfl⟩
  rintro ds' p' ⟨b1, b2, b3, b4, rfl, rfl⟩
  walk_at "nz"
  refine ws_seqJ (fun ds' p' => ∃ b1 b2 b3 b4, ds' = [some (.v (.ref a)), b1, b2, b3, b4] ∧ p' = []) ?_ ?_
  · refine ws_forG (u2 3 2) (fun i ds' pl' => ∃ b1 b2 b3 b4, ds' = [some (.v (.ref a)), b1, b2, b3, b4] ∧ pl' = []) (lists44.map fun q => txD (.list (q.1.map PyData.int)) q.2) (fun x hx => ?_) ?_ ?_ ?_
    · obtain ⟨q, hq, rfl⟩ := List.mem_map.mp hx
      exact ga_u2 rfl _ _
    · refine we_det () (wa_nil ⟨rfl, trivial, rfl, _, _, _, _, rfl, rfl⟩)
    · rintro i x ds' pl' hx ⟨b1, b2, b3, b4, rfl, rfl⟩
      obtain ⟨⟨ms, t⟩, hq, rfl⟩ := List.mem_map.mp (List.mem_of_getElem? hx)
      obtain ⟨et, l40, mb⟩ := lists44_ok _ hq
      have et' : numsT ms = t := et
      have l40' : ms.length ≤ 40 := l40
      have mb' : ∀ m ∈ ms, m ≠ 0 ∧ m.natAbs < 10 ^ 40 := mb
      subst et'
      have m150 : ∀ m ∈ ms, m.natAbs < 10 ^ 150 := fun m hm => bw (mb' m hm).2
      have lt := (nums_fit (show ms.length ≤ 100 by omega) m150).2
      have lt2 : (numsT ms).length + 2 ≤ sizeLine := Nat.le_trans (show _ ≤ 32000 by omega) (by decide)
      have pre : numsT ms ≠ "" → WOk (Txt.split (numsT ms) " ") ∧ ∃ r, readMs 0 (Txt.split (numsT ms) " ") = .ok r := fun z => by
        have ne : ms ≠ [] := fun e => z (by rw [e]; rfl)
        rw [numsT_split ne]
        exact ⟨nums_wok (by omega) m150, ms, readMs_ok ms 0 (by omega) mb'⟩
      have rd' : ∀ d, (∃ r : List Int, (if numsT ms = "" then r = [] else readMs 0 (Txt.split (numsT ms) " ") = .ok r) ∧ d = PyData.list (r.map PyData.int)) → d = PyData.list (ms.map PyData.int) := fun d ⟨r, e1, e2⟩ => by
        by_cases ne : ms = []
        · subst ne
          rw [if_pos (show numsT [] = ("" : Str) from rfl)] at e1
          rw [e2, e1]
        · have nt : numsT ms ≠ "" := fun z => by
            have h1 := numsT_split ne
            rw [z] at h1
            have h2 : Txt.split "" " " = [("" : Str)] := by decide +kernel
            rw [h2] at h1
            cases ms with
            | nil => exact ne rfl
            | cons m r =>
              have h3 := (List.cons.inj h1).1
              exact numS_ne m (by rw [← h3]; rfl)
          rw [if_neg nt, numsT_split ne, readMs_ok ms 0 (by omega) mb'] at e1
          cases e1
          exact e2
      have okR : okL 20 (.list [.str (numsT ms), .list (ms.map PyData.int)]) := fun y hy => by
        simp only [List.mem_cons, List.not_mem_nil, or_false] at hy
        rcases hy with rfl | rfl
        · exact okL_str (asc_nums ms)
        · exact okL_ints m150
      have wgR : wg (.list [.str (numsT ms), .list (ms.map PyData.int)]) ≤ sizeLine := by
        have h1 := wg_ints ms
        have h2 : wg (.list [.str (numsT ms), .list (ms.map PyData.int)]) = (10 * (numsT ms).length + 10) + (wg (.list (ms.map PyData.int)) + 0) + 10 := rfl
        rw [h2]
        exact Nat.le_trans (show _ ≤ 400000 by omega) (by decide)
      have okM : okD 20 (.list (ms.map PyData.int)) := fun y hy => by
        obtain ⟨m, hm, rfl⟩ := List.mem_map.mp hy
        exact okD_int (Nat.le_of_lt (mb' m hm).2) (by decide +kernel)
      walk_at "nz"
      refine ws_seq (ws_if (wt_B (we_op (we_cb (wa_cons (we_lst (wa_cons ?_)))))))
      refine we_det ms (wa_cons (we_var rfl (wa_nil ⟨rfl, ⟨by show ms.length ≤ 100; omega, m150⟩, ?_⟩)))
      refine wa_cons (we_rel (numsT ms) (wa_cons (we_var rfl (wa_nil ⟨rfl, ⟨lt2, pre⟩, fun d q => ?_⟩))))
      have e := rd' d q
      subst e
      refine wa_nil ⟨by show 2 ≤ sizeLine; decide, ?_⟩
      refine wa_nil (cb_reprL okR wgR ?_)
      refine we_cb (wa_cons (we_lst (wa_cons (we_var rfl (wa_cons (we_var rfl (wa_nil ⟨by show 2 ≤ sizeLine; decide, ?_⟩)))))))
      refine wa_nil (cb_reprL okR wgR (os_neT ?_))
      generalize PyData.shown _ = shown_
      walk_at "nz"
      refine iteN (ne_self _) ?_
      refine ws_next ?_
      walk_at "nz"
      refine ws_if (wt_or (wt_B (we_op ?_)))
      refine we_det ms (wa_pick (wa_cons (we_var rfl (wa_nil ⟨rfl, ⟨by show ms.length ≤ 100; omega, m150⟩, ?_⟩))))
      refine we_var rfl (os_neT ?_)
      walk_at "nz"
      refine iteN (ne_self _) ?_
      refine wt_B (we_op ?_)
      refine we_rel (numsT ms) (wa_pick (wa_cons (we_var rfl (wa_nil ⟨rfl, ⟨lt2, pre⟩, fun d q => ?_⟩))))
      have e := rd' d q
      subst e
      refine we_var rfl (os_neS okM ?_)
      walk_at "nz"
      refine iteN rfl ?_
      refine ws_next ?_
      exact ⟨_, _, _, _, rfl, rfl⟩
    · rintro ds' pl' ⟨b1, b2, b3, b4, rfl, rfl⟩
      exact ⟨_, _, _, _, rfl, rfl⟩
  rintro ds' p' ⟨b1, b2, b3, b4, rfl, rfl⟩
  walk_at "nz"
  refine ws_seq (ws_set ?_)
  repeat (first | walk_at "pd" | with_reducible refine we_lst ?_)
  show WS _ _ _ _ _
  rw [show (PyData.tuple [.tuple [.int 10, .list [.int 0, .int 3]], .tuple [.int 5, .list [.int 0]]]) = Dv.d (⟨10, [0, 3]⟩, ⟨5, [0]⟩) from rfl]
  obtain ⟨v, hv⟩ : ∃ v : Dv, ((⟨10, [0, 3]⟩, ⟨5, [0]⟩) : Dv) = v := ⟨_, rfl⟩
  have ov : v.Ok := by rw [← hv]; exact okSB
  rw [hv]
  · refine ws_forG (u2 4 2) (fun i ds' pl' => ∃ b2 b3 b4, ds' = [some (.v (.ref a)), some (.d v.d), b2, b3, b4] ∧ pl' = []) (pairs44.map fun q => txD q.1.d q.2) (fun x hx => ?_) ?_ ?_ ?_
    · obtain ⟨q, hq, rfl⟩ := List.mem_map.mp hx
      exact ga_u2 rfl _ _
    · refine we_det () (wa_nil ⟨rfl, trivial, rfl, _, _, _, rfl, rfl⟩)
    · rintro i x ds' pl' hx ⟨b2, b3, b4, rfl, rfl⟩
      obtain ⟨⟨s, t⟩, hq, rfl⟩ := List.mem_map.mp (List.mem_of_getElem? hx)
      obtain ⟨et, s1, s2, sh⟩ := pairs44_ok _ hq
      have et' : stateT s = t := et
      have s1' : s.1.natAbs < 10 ^ 40 := s1
      have s2' : s.2.natAbs < 10 ^ 40 := s2
      have sh' : held v s = true := by rw [← hv]; exact sh
      subst et'
      have lt := stateT_len (bw s1') (bw s2')
      have lt2 : (stateT s).length + 2 ≤ sizeLine := Nat.le_trans (show _ ≤ 32000 by omega) (by decide)
      have pre : ∃ x y : Int, Txt.split (stateT s) " " = [numS x, numS y] ∧ x.natAbs < 10 ^ 40 ∧ y.natAbs < 10 ^ 40 ∧ held v (x, y) = true := ⟨s.1, s.2, stateT_split s, s1', s2', sh'⟩
      have rd' : ∀ d, (∃ x y : Int, Txt.split (stateT s) " " = [numS x, numS y] ∧ x.natAbs < 10 ^ 40 ∧ y.natAbs < 10 ^ 40 ∧ d = Sv.d (x, y)) → d = s.d := fun d ⟨x, y, e1, e2, e3, e4⟩ => by
        rw [stateT_split] at e1
        have a1 := numS_inj (Nat.lt_of_lt_of_le s1' (by decide +kernel)) (Nat.lt_of_lt_of_le e2 (by decide +kernel)) (List.cons.inj e1).1
        have a2 := numS_inj (Nat.lt_of_lt_of_le s2' (by decide +kernel)) (Nat.lt_of_lt_of_le e3 (by decide +kernel)) (List.cons.inj (List.cons.inj e1).2).1
        rw [e4, ← a1, ← a2]
      have okR : okL 20 (.list [.str (stateT s), s.d]) := fun y hy => by
        simp only [List.mem_cons, List.not_mem_nil, or_false] at hy
        rcases hy with rfl | rfl
        · exact okL_str (asc_state s)
        · intro z hz
          simp only [List.mem_cons, List.not_mem_nil, or_false] at hz
          rcases hz with rfl | rfl
          · exact okL_int (bw s1')
          · exact okL_int (bw s2')
      have wgR : wg (.list [.str (stateT s), s.d]) ≤ sizeLine := by
        have h2 : wg (.list [.str (stateT s), s.d]) = (10 * (stateT s).length + 10) + ((220 + (220 + 0) + 10) + 0) + 10 := rfl
        rw [h2]
        exact Nat.le_trans (show _ ≤ 400000 by omega) (by decide)
      have okM : okD 20 s.d := fun y hy => by
        simp only [List.mem_cons, List.not_mem_nil, or_false] at hy
        rcases hy with rfl | rfl
        · exact okD_int (Nat.le_of_lt s1') (by decide +kernel)
        · exact okD_int (Nat.le_of_lt s2') (by decide +kernel)
      walk_at "nz"
      refine ws_seq (ws_if (wt_B (we_op (we_cb (wa_cons (we_lst (wa_cons ?_)))))))
      refine we_det s (wa_cons (we_var rfl (wa_nil ⟨rfl, ⟨bw s1', bw s2'⟩, ?_⟩)))
      refine wa_cons (we_rel (v, stateT s) (wa_cons (we_var rfl (wa_cons (we_var rfl (wa_nil ⟨rfl, ⟨ov, lt2, pre⟩, fun d q => ?_⟩))))))
      have e := rd' d q
      subst e
      refine wa_nil ⟨by show 2 ≤ sizeLine; decide, ?_⟩
      refine wa_nil (cb_reprL okR wgR ?_)
      refine we_cb (wa_cons (we_lst (wa_cons (we_var rfl (wa_cons (we_var rfl (wa_nil ⟨by show 2 ≤ sizeLine; decide, ?_⟩)))))))
      refine wa_nil (cb_reprL okR wgR (os_neT ?_))
      generalize PyData.shown _ = shown_
      walk_at "nz"
      refine iteN (ne_self _) ?_
      refine ws_next ?_
      walk_at "nz"
      refine ws_if (wt_or (wt_B (we_op ?_)))
      refine we_det s (wa_pick (wa_cons (we_var rfl (wa_nil ⟨rfl, ⟨bw s1', bw s2'⟩, ?_⟩))))
      refine we_var rfl (os_neT ?_)
      walk_at "nz"
      refine iteN (ne_self _) ?_
      refine wt_B (we_op ?_)
      refine we_rel (v, stateT s) (wa_pick (wa_cons (we_var rfl (wa_cons (we_var rfl (wa_nil ⟨rfl, ⟨ov, lt2, pre⟩, fun d q => ?_⟩))))))
      have e := rd' d q
      subst e
      refine we_var rfl (os_neS okM ?_)
      walk_at "nz"
      refine iteN rfl ?_
      refine ws_next ?_
      exact ⟨_, _, _, rfl, rfl⟩
    · rintro ds' pl' ⟨b2, b3, b4, rfl, rfl⟩
      walk_at "go"
      exact rfl

end
/-! what the top has written -/
theorem here_mk {K : PySem.W.Frag} {h : Heap} {mg : Str → Option Value} {name : Str} {st : Stmt} {ps : List Str} {f : Addr} {oc : Value} {od an : Option Addr} {osl : Array (Option Value)} {kV doc pm cdv ct : Value} (X : K.In h) (G : h.Ns mainGlobals mg)
    (a : PySem.W.nsIn K mainGlobals name = some (some (.ref f))) (l : K.lookup f = some ⟨oc, od, .func (PySem.W.fnOf name name (defArgs st) (defBody st) (defScope st) .none kV doc pm an cdv ct), osl⟩) (c : PySem.W.codeIn K cdv name = true) (k : PySem.W.keepIn K (.ref f) = true)
    (b : ∀ (F : Fun K name name st f (PySem.W.fnOf name name (defArgs st) (defBody st) (defScope st) .none kV doc pm an cdv ct)), Binds K (PySem.W.fnOf name name (defArgs st) (defBody st) (defScope st) .none kV doc pm an cdv ct) ps []) : Here K mg name st ps f (PySem.W.fnOf name name (defArgs st) (defBody st) (defScope st) .none kV doc pm an cdv ct) :=
  ⟨fun_mk l c k, PySem.W.mg_of X G a, b (fun_mk l c k)⟩
theorem kw_mk {K : PySem.W.Frag} {h : Heap} {mg : Str → Option Value} {name : Str} {st : Stmt} {ps ks : List Str} {is : List Nat} {f : Addr} {oc : Value} {od an : Option Addr} {osl : Array (Option Value)} {kV doc pm cdv ct : Value} (X : K.In h) (G : h.Ns mainGlobals mg)
    (a : PySem.W.nsIn K mainGlobals name = some (some (.ref f))) (l : K.lookup f = some ⟨oc, od, .func (PySem.W.fnOf name name (defArgs st) (defBody st) (defScope st) .none kV doc pm an cdv ct), osl⟩)
    (b : ∀ (kV doc pm cdv ct : Value) (an : Option Addr) (ws : List Value), (pick is ws).length = ps.length → bindArgs (PySem.W.fnOf name name (defArgs st) (defBody st) (defScope st) .none kV doc pm an cdv ct) ⟨[], ks.zip ws⟩ = pure (ps.zip (pick is ws))) : KwOk K mg name ps ks is :=
  ⟨f, _, PySem.W.mg_of X G a, ⟨oc, od, osl, l⟩, fun s ws hl => .of_eq (b kV doc pm cdv ct an ws hl)⟩
/-- one def stands at the top -/
def At (K : PySem.W.Frag) (name : Str) (st : Stmt) : Prop := ∃ (f : Addr) (oc : Value) (od an : Option Addr) (osl : Array (Option Value)) (kV doc pm cdv ct : Value), PySem.W.nsIn K mainGlobals name = some (some (.ref f)) ∧ K.lookup f = some ⟨oc, od, .func (PySem.W.fnOf name name (defArgs st) (defBody st) (defScope st) .none kV doc pm an cdv ct), osl⟩ ∧ PySem.W.codeIn K cdv name = true ∧ PySem.W.keepIn K (.ref f) = true
theorem kwb_parse_state_text_device (kV doc pm cdv ct : Value) (an : Option Addr) : ∀ (ws : List Value), (pick [1, 0] ws).length = 2 → bindArgs (PySem.W.fnOf "parse_state" "parse_state" (defArgs s_parse_state) (defBody s_parse_state) (defScope s_parse_state) .none kV doc pm an cdv ct) ⟨[], (["text", "device"] : List Str).zip ws⟩ = pure ((["device", "text"] : List Str).zip (pick [1, 0] ws))
  | [], hl => absurd (show (0 : Nat) = 2 from hl) (by decide)
  | [_], hl => absurd (show (1 : Nat) = 2 from hl) (by decide)
  | w0 :: w1 :: r, _ => rfl
theorem kwb_format_state_state (kV doc pm cdv ct : Value) (an : Option Addr) : ∀ (ws : List Value), (pick [0] ws).length = 1 → bindArgs (PySem.W.fnOf "format_state" "format_state" (defArgs s_format_state) (defBody s_format_state) (defScope s_format_state) .none kV doc pm an cdv ct) ⟨[], (["state"] : List Str).zip ws⟩ = pure ((["state"] : List Str).zip (pick [0] ws))
  | [], hl => absurd (show (0 : Nat) = 1 from hl) (by decide)
  | w0 :: r, _ => rfl
theorem kwb_parse_moves_text (kV doc pm cdv ct : Value) (an : Option Addr) : ∀ (ws : List Value), (pick [0] ws).length = 1 → bindArgs (PySem.W.fnOf "parse_moves" "parse_moves" (defArgs s_parse_moves) (defBody s_parse_moves) (defScope s_parse_moves) .none kV doc pm an cdv ct) ⟨[], (["text"] : List Str).zip ws⟩ = pure ((["text"] : List Str).zip (pick [0] ws))
  | [], hl => absurd (show (0 : Nat) = 1 from hl) (by decide)
  | w0 :: r, _ => rfl
theorem kwb_format_moves_moves (kV doc pm cdv ct : Value) (an : Option Addr) : ∀ (ws : List Value), (pick [0] ws).length = 1 → bindArgs (PySem.W.fnOf "format_moves" "format_moves" (defArgs s_format_moves) (defBody s_format_moves) (defScope s_format_moves) .none kV doc pm an cdv ct) ⟨[], (["moves"] : List Str).zip ws⟩ = pure ((["moves"] : List Str).zip (pick [0] ws))
  | [], hl => absurd (show (0 : Nat) = 1 from hl) (by decide)
  | w0 :: r, _ => rfl
theorem kwb_parse_device_text (kV doc pm cdv ct : Value) (an : Option Addr) : ∀ (ws : List Value), (pick [0] ws).length = 1 → bindArgs (PySem.W.fnOf "parse_device" "parse_device" (defArgs s_parse_device) (defBody s_parse_device) (defScope s_parse_device) .none kV doc pm an cdv ct) ⟨[], (["text"] : List Str).zip ws⟩ = pure ((["text"] : List Str).zip (pick [0] ws))
  | [], hl => absurd (show (0 : Nat) = 1 from hl) (by decide)
  | w0 :: r, _ => rfl
theorem kwb_format_device_device (kV doc pm cdv ct : Value) (an : Option Addr) : ∀ (ws : List Value), (pick [0] ws).length = 1 → bindArgs (PySem.W.fnOf "format_device" "format_device" (defArgs s_format_device) (defBody s_format_device) (defScope s_format_device) .none kV doc pm an cdv ct) ⟨[], (["device"] : List Str).zip ws⟩ = pure ((["device"] : List Str).zip (pick [0] ws))
  | [], hl => absurd (show (0 : Nat) = 1 from hl) (by decide)
  | w0 :: r, _ => rfl
theorem all_mk {l : PySem.W.OpenLaw} {w : World} {K : PySem.W.Frag} {h : Heap} {mg : Str → Option Value} {fa : Addr} (X : K.In h) (G : h.Ns mainGlobals mg) (hfa : mg "law" = some (.ref fa))
    {f_is_whole f_is_pair f_catches f_is_pitch f_are_teeth f_check_device f_is_comb f_is_held f_numbers_text f_comb_text f_format_device f_format_moves f_format_state f_is_count f_is_number f_is_pitch_word f_is_tooth_word f_read_comb f_read_device f_read_moves f_read_number f_text_words f_parse_device f_parse_moves f_parse_state f__law_rigs f__law_lists f__law_pairs f_law : Addr} {od_is_whole an_is_whole od_is_pair an_is_pair od_catches an_catches od_is_pitch an_is_pitch od_are_teeth an_are_teeth od_check_device an_check_device od_is_comb an_is_comb od_is_held an_is_held od_numbers_text an_numbers_text od_comb_text an_comb_text od_format_device an_format_device od_format_moves an_format_moves od_format_state an_format_state od_is_count an_is_count od_is_number an_is_number od_is_pitch_word an_is_pitch_word od_is_tooth_word an_is_tooth_word od_read_comb an_read_comb od_read_device an_read_device od_read_moves an_read_moves od_read_number an_read_number od_text_words an_text_words od_parse_device an_parse_device od_parse_moves an_parse_moves od_parse_state an_parse_state od__law_rigs an__law_rigs od__law_lists an__law_lists od__law_pairs an__law_pairs od_law an_law : Option Addr} {sl_is_whole sl_is_pair sl_catches sl_is_pitch sl_are_teeth sl_check_device sl_is_comb sl_is_held sl_numbers_text sl_comb_text sl_format_device sl_format_moves sl_format_state sl_is_count sl_is_number sl_is_pitch_word sl_is_tooth_word sl_read_comb sl_read_device sl_read_moves sl_read_number sl_text_words sl_parse_device sl_parse_moves sl_parse_state sl__law_rigs sl__law_lists sl__law_pairs sl_law : Array (Option Value)} {oc_is_whole kV_is_whole dc_is_whole pm_is_whole cd_is_whole ct_is_whole oc_is_pair kV_is_pair dc_is_pair pm_is_pair cd_is_pair ct_is_pair oc_catches kV_catches dc_catches pm_catches cd_catches ct_catches oc_is_pitch kV_is_pitch dc_is_pitch pm_is_pitch cd_is_pitch ct_is_pitch oc_are_teeth kV_are_teeth dc_are_teeth pm_are_teeth cd_are_teeth ct_are_teeth oc_check_device kV_check_device dc_check_device pm_check_device cd_check_device ct_check_device oc_is_comb kV_is_comb dc_is_comb pm_is_comb cd_is_comb ct_is_comb oc_is_held kV_is_held dc_is_held pm_is_held cd_is_held ct_is_held oc_numbers_text kV_numbers_text dc_numbers_text pm_numbers_text cd_numbers_text ct_numbers_text oc_comb_text kV_comb_text dc_comb_text pm_comb_text cd_comb_text ct_comb_text oc_format_device kV_format_device dc_format_device pm_format_device cd_format_device ct_format_device oc_format_moves kV_format_moves dc_format_moves pm_format_moves cd_format_moves ct_format_moves oc_format_state kV_format_state dc_format_state pm_format_state cd_format_state ct_format_state oc_is_count kV_is_count dc_is_count pm_is_count cd_is_count ct_is_count oc_is_number kV_is_number dc_is_number pm_is_number cd_is_number ct_is_number oc_is_pitch_word kV_is_pitch_word dc_is_pitch_word pm_is_pitch_word cd_is_pitch_word ct_is_pitch_word oc_is_tooth_word kV_is_tooth_word dc_is_tooth_word pm_is_tooth_word cd_is_tooth_word ct_is_tooth_word oc_read_comb kV_read_comb dc_read_comb pm_read_comb cd_read_comb ct_read_comb oc_read_device kV_read_device dc_read_device pm_read_device cd_read_device ct_read_device oc_read_moves kV_read_moves dc_read_moves pm_read_moves cd_read_moves ct_read_moves oc_read_number kV_read_number dc_read_number pm_read_number cd_read_number ct_read_number oc_text_words kV_text_words dc_text_words pm_text_words cd_text_words ct_text_words oc_parse_device kV_parse_device dc_parse_device pm_parse_device cd_parse_device ct_parse_device oc_parse_moves kV_parse_moves dc_parse_moves pm_parse_moves cd_parse_moves ct_parse_moves oc_parse_state kV_parse_state dc_parse_state pm_parse_state cd_parse_state ct_parse_state oc__law_rigs kV__law_rigs dc__law_rigs pm__law_rigs cd__law_rigs ct__law_rigs oc__law_lists kV__law_lists dc__law_lists pm__law_lists cd__law_lists ct__law_lists oc__law_pairs kV__law_pairs dc__law_pairs pm__law_pairs cd__law_pairs ct__law_pairs oc_law kV_law dc_law pm_law cd_law ct_law : Value}
    (a_is_whole : PySem.W.nsIn K mainGlobals "is_whole" = some (some (.ref f_is_whole))) (l_is_whole : K.lookup f_is_whole = some ⟨oc_is_whole, od_is_whole, .func (PySem.W.fnOf "is_whole" "is_whole" (defArgs s_is_whole) (defBody s_is_whole) (defScope s_is_whole) .none kV_is_whole dc_is_whole pm_is_whole an_is_whole cd_is_whole ct_is_whole), sl_is_whole⟩) (c_is_whole : PySem.W.codeIn K cd_is_whole "is_whole" = true) (k_is_whole : PySem.W.keepIn K (.ref f_is_whole) = true)
    (a_is_pair : PySem.W.nsIn K mainGlobals "is_pair" = some (some (.ref f_is_pair))) (l_is_pair : K.lookup f_is_pair = some ⟨oc_is_pair, od_is_pair, .func (PySem.W.fnOf "is_pair" "is_pair" (defArgs s_is_pair) (defBody s_is_pair) (defScope s_is_pair) .none kV_is_pair dc_is_pair pm_is_pair an_is_pair cd_is_pair ct_is_pair), sl_is_pair⟩) (c_is_pair : PySem.W.codeIn K cd_is_pair "is_pair" = true) (k_is_pair : PySem.W.keepIn K (.ref f_is_pair) = true)
    (a_catches : PySem.W.nsIn K mainGlobals "catches" = some (some (.ref f_catches))) (l_catches : K.lookup f_catches = some ⟨oc_catches, od_catches, .func (PySem.W.fnOf "catches" "catches" (defArgs s_catches) (defBody s_catches) (defScope s_catches) .none kV_catches dc_catches pm_catches an_catches cd_catches ct_catches), sl_catches⟩) (c_catches : PySem.W.codeIn K cd_catches "catches" = true) (k_catches : PySem.W.keepIn K (.ref f_catches) = true)
    (a_is_pitch : PySem.W.nsIn K mainGlobals "is_pitch" = some (some (.ref f_is_pitch))) (l_is_pitch : K.lookup f_is_pitch = some ⟨oc_is_pitch, od_is_pitch, .func (PySem.W.fnOf "is_pitch" "is_pitch" (defArgs s_is_pitch) (defBody s_is_pitch) (defScope s_is_pitch) .none kV_is_pitch dc_is_pitch pm_is_pitch an_is_pitch cd_is_pitch ct_is_pitch), sl_is_pitch⟩) (c_is_pitch : PySem.W.codeIn K cd_is_pitch "is_pitch" = true) (k_is_pitch : PySem.W.keepIn K (.ref f_is_pitch) = true)
    (a_are_teeth : PySem.W.nsIn K mainGlobals "are_teeth" = some (some (.ref f_are_teeth))) (l_are_teeth : K.lookup f_are_teeth = some ⟨oc_are_teeth, od_are_teeth, .func (PySem.W.fnOf "are_teeth" "are_teeth" (defArgs s_are_teeth) (defBody s_are_teeth) (defScope s_are_teeth) .none kV_are_teeth dc_are_teeth pm_are_teeth an_are_teeth cd_are_teeth ct_are_teeth), sl_are_teeth⟩) (c_are_teeth : PySem.W.codeIn K cd_are_teeth "are_teeth" = true) (k_are_teeth : PySem.W.keepIn K (.ref f_are_teeth) = true)
    (a_check_device : PySem.W.nsIn K mainGlobals "check_device" = some (some (.ref f_check_device))) (l_check_device : K.lookup f_check_device = some ⟨oc_check_device, od_check_device, .func (PySem.W.fnOf "check_device" "check_device" (defArgs s_check_device) (defBody s_check_device) (defScope s_check_device) .none kV_check_device dc_check_device pm_check_device an_check_device cd_check_device ct_check_device), sl_check_device⟩) (c_check_device : PySem.W.codeIn K cd_check_device "check_device" = true) (k_check_device : PySem.W.keepIn K (.ref f_check_device) = true)
    (a_is_comb : PySem.W.nsIn K mainGlobals "is_comb" = some (some (.ref f_is_comb))) (l_is_comb : K.lookup f_is_comb = some ⟨oc_is_comb, od_is_comb, .func (PySem.W.fnOf "is_comb" "is_comb" (defArgs s_is_comb) (defBody s_is_comb) (defScope s_is_comb) .none kV_is_comb dc_is_comb pm_is_comb an_is_comb cd_is_comb ct_is_comb), sl_is_comb⟩) (c_is_comb : PySem.W.codeIn K cd_is_comb "is_comb" = true) (k_is_comb : PySem.W.keepIn K (.ref f_is_comb) = true)
    (a_is_held : PySem.W.nsIn K mainGlobals "is_held" = some (some (.ref f_is_held))) (l_is_held : K.lookup f_is_held = some ⟨oc_is_held, od_is_held, .func (PySem.W.fnOf "is_held" "is_held" (defArgs s_is_held) (defBody s_is_held) (defScope s_is_held) .none kV_is_held dc_is_held pm_is_held an_is_held cd_is_held ct_is_held), sl_is_held⟩) (c_is_held : PySem.W.codeIn K cd_is_held "is_held" = true) (k_is_held : PySem.W.keepIn K (.ref f_is_held) = true)
    (a_numbers_text : PySem.W.nsIn K mainGlobals "numbers_text" = some (some (.ref f_numbers_text))) (l_numbers_text : K.lookup f_numbers_text = some ⟨oc_numbers_text, od_numbers_text, .func (PySem.W.fnOf "numbers_text" "numbers_text" (defArgs s_numbers_text) (defBody s_numbers_text) (defScope s_numbers_text) .none kV_numbers_text dc_numbers_text pm_numbers_text an_numbers_text cd_numbers_text ct_numbers_text), sl_numbers_text⟩) (c_numbers_text : PySem.W.codeIn K cd_numbers_text "numbers_text" = true) (k_numbers_text : PySem.W.keepIn K (.ref f_numbers_text) = true)
    (a_comb_text : PySem.W.nsIn K mainGlobals "comb_text" = some (some (.ref f_comb_text))) (l_comb_text : K.lookup f_comb_text = some ⟨oc_comb_text, od_comb_text, .func (PySem.W.fnOf "comb_text" "comb_text" (defArgs s_comb_text) (defBody s_comb_text) (defScope s_comb_text) .none kV_comb_text dc_comb_text pm_comb_text an_comb_text cd_comb_text ct_comb_text), sl_comb_text⟩) (c_comb_text : PySem.W.codeIn K cd_comb_text "comb_text" = true) (k_comb_text : PySem.W.keepIn K (.ref f_comb_text) = true)
    (a_format_device : PySem.W.nsIn K mainGlobals "format_device" = some (some (.ref f_format_device))) (l_format_device : K.lookup f_format_device = some ⟨oc_format_device, od_format_device, .func (PySem.W.fnOf "format_device" "format_device" (defArgs s_format_device) (defBody s_format_device) (defScope s_format_device) .none kV_format_device dc_format_device pm_format_device an_format_device cd_format_device ct_format_device), sl_format_device⟩) (c_format_device : PySem.W.codeIn K cd_format_device "format_device" = true) (k_format_device : PySem.W.keepIn K (.ref f_format_device) = true)
    (a_format_moves : PySem.W.nsIn K mainGlobals "format_moves" = some (some (.ref f_format_moves))) (l_format_moves : K.lookup f_format_moves = some ⟨oc_format_moves, od_format_moves, .func (PySem.W.fnOf "format_moves" "format_moves" (defArgs s_format_moves) (defBody s_format_moves) (defScope s_format_moves) .none kV_format_moves dc_format_moves pm_format_moves an_format_moves cd_format_moves ct_format_moves), sl_format_moves⟩) (c_format_moves : PySem.W.codeIn K cd_format_moves "format_moves" = true) (k_format_moves : PySem.W.keepIn K (.ref f_format_moves) = true)
    (a_format_state : PySem.W.nsIn K mainGlobals "format_state" = some (some (.ref f_format_state))) (l_format_state : K.lookup f_format_state = some ⟨oc_format_state, od_format_state, .func (PySem.W.fnOf "format_state" "format_state" (defArgs s_format_state) (defBody s_format_state) (defScope s_format_state) .none kV_format_state dc_format_state pm_format_state an_format_state cd_format_state ct_format_state), sl_format_state⟩) (c_format_state : PySem.W.codeIn K cd_format_state "format_state" = true) (k_format_state : PySem.W.keepIn K (.ref f_format_state) = true)
    (a_is_count : PySem.W.nsIn K mainGlobals "is_count" = some (some (.ref f_is_count))) (l_is_count : K.lookup f_is_count = some ⟨oc_is_count, od_is_count, .func (PySem.W.fnOf "is_count" "is_count" (defArgs s_is_count) (defBody s_is_count) (defScope s_is_count) .none kV_is_count dc_is_count pm_is_count an_is_count cd_is_count ct_is_count), sl_is_count⟩) (c_is_count : PySem.W.codeIn K cd_is_count "is_count" = true) (k_is_count : PySem.W.keepIn K (.ref f_is_count) = true)
    (a_is_number : PySem.W.nsIn K mainGlobals "is_number" = some (some (.ref f_is_number))) (l_is_number : K.lookup f_is_number = some ⟨oc_is_number, od_is_number, .func (PySem.W.fnOf "is_number" "is_number" (defArgs s_is_number) (defBody s_is_number) (defScope s_is_number) .none kV_is_number dc_is_number pm_is_number an_is_number cd_is_number ct_is_number), sl_is_number⟩) (c_is_number : PySem.W.codeIn K cd_is_number "is_number" = true) (k_is_number : PySem.W.keepIn K (.ref f_is_number) = true)
    (a_is_pitch_word : PySem.W.nsIn K mainGlobals "is_pitch_word" = some (some (.ref f_is_pitch_word))) (l_is_pitch_word : K.lookup f_is_pitch_word = some ⟨oc_is_pitch_word, od_is_pitch_word, .func (PySem.W.fnOf "is_pitch_word" "is_pitch_word" (defArgs s_is_pitch_word) (defBody s_is_pitch_word) (defScope s_is_pitch_word) .none kV_is_pitch_word dc_is_pitch_word pm_is_pitch_word an_is_pitch_word cd_is_pitch_word ct_is_pitch_word), sl_is_pitch_word⟩) (c_is_pitch_word : PySem.W.codeIn K cd_is_pitch_word "is_pitch_word" = true) (k_is_pitch_word : PySem.W.keepIn K (.ref f_is_pitch_word) = true)
    (a_is_tooth_word : PySem.W.nsIn K mainGlobals "is_tooth_word" = some (some (.ref f_is_tooth_word))) (l_is_tooth_word : K.lookup f_is_tooth_word = some ⟨oc_is_tooth_word, od_is_tooth_word, .func (PySem.W.fnOf "is_tooth_word" "is_tooth_word" (defArgs s_is_tooth_word) (defBody s_is_tooth_word) (defScope s_is_tooth_word) .none kV_is_tooth_word dc_is_tooth_word pm_is_tooth_word an_is_tooth_word cd_is_tooth_word ct_is_tooth_word), sl_is_tooth_word⟩) (c_is_tooth_word : PySem.W.codeIn K cd_is_tooth_word "is_tooth_word" = true) (k_is_tooth_word : PySem.W.keepIn K (.ref f_is_tooth_word) = true)
    (a_read_comb : PySem.W.nsIn K mainGlobals "read_comb" = some (some (.ref f_read_comb))) (l_read_comb : K.lookup f_read_comb = some ⟨oc_read_comb, od_read_comb, .func (PySem.W.fnOf "read_comb" "read_comb" (defArgs s_read_comb) (defBody s_read_comb) (defScope s_read_comb) .none kV_read_comb dc_read_comb pm_read_comb an_read_comb cd_read_comb ct_read_comb), sl_read_comb⟩) (c_read_comb : PySem.W.codeIn K cd_read_comb "read_comb" = true) (k_read_comb : PySem.W.keepIn K (.ref f_read_comb) = true)
    (a_read_device : PySem.W.nsIn K mainGlobals "read_device" = some (some (.ref f_read_device))) (l_read_device : K.lookup f_read_device = some ⟨oc_read_device, od_read_device, .func (PySem.W.fnOf "read_device" "read_device" (defArgs s_read_device) (defBody s_read_device) (defScope s_read_device) .none kV_read_device dc_read_device pm_read_device an_read_device cd_read_device ct_read_device), sl_read_device⟩) (c_read_device : PySem.W.codeIn K cd_read_device "read_device" = true) (k_read_device : PySem.W.keepIn K (.ref f_read_device) = true)
    (a_read_moves : PySem.W.nsIn K mainGlobals "read_moves" = some (some (.ref f_read_moves))) (l_read_moves : K.lookup f_read_moves = some ⟨oc_read_moves, od_read_moves, .func (PySem.W.fnOf "read_moves" "read_moves" (defArgs s_read_moves) (defBody s_read_moves) (defScope s_read_moves) .none kV_read_moves dc_read_moves pm_read_moves an_read_moves cd_read_moves ct_read_moves), sl_read_moves⟩) (c_read_moves : PySem.W.codeIn K cd_read_moves "read_moves" = true) (k_read_moves : PySem.W.keepIn K (.ref f_read_moves) = true)
    (a_read_number : PySem.W.nsIn K mainGlobals "read_number" = some (some (.ref f_read_number))) (l_read_number : K.lookup f_read_number = some ⟨oc_read_number, od_read_number, .func (PySem.W.fnOf "read_number" "read_number" (defArgs s_read_number) (defBody s_read_number) (defScope s_read_number) .none kV_read_number dc_read_number pm_read_number an_read_number cd_read_number ct_read_number), sl_read_number⟩) (c_read_number : PySem.W.codeIn K cd_read_number "read_number" = true) (k_read_number : PySem.W.keepIn K (.ref f_read_number) = true)
    (a_text_words : PySem.W.nsIn K mainGlobals "text_words" = some (some (.ref f_text_words))) (l_text_words : K.lookup f_text_words = some ⟨oc_text_words, od_text_words, .func (PySem.W.fnOf "text_words" "text_words" (defArgs s_text_words) (defBody s_text_words) (defScope s_text_words) .none kV_text_words dc_text_words pm_text_words an_text_words cd_text_words ct_text_words), sl_text_words⟩) (c_text_words : PySem.W.codeIn K cd_text_words "text_words" = true) (k_text_words : PySem.W.keepIn K (.ref f_text_words) = true)
    (a_parse_device : PySem.W.nsIn K mainGlobals "parse_device" = some (some (.ref f_parse_device))) (l_parse_device : K.lookup f_parse_device = some ⟨oc_parse_device, od_parse_device, .func (PySem.W.fnOf "parse_device" "parse_device" (defArgs s_parse_device) (defBody s_parse_device) (defScope s_parse_device) .none kV_parse_device dc_parse_device pm_parse_device an_parse_device cd_parse_device ct_parse_device), sl_parse_device⟩) (c_parse_device : PySem.W.codeIn K cd_parse_device "parse_device" = true) (k_parse_device : PySem.W.keepIn K (.ref f_parse_device) = true)
    (a_parse_moves : PySem.W.nsIn K mainGlobals "parse_moves" = some (some (.ref f_parse_moves))) (l_parse_moves : K.lookup f_parse_moves = some ⟨oc_parse_moves, od_parse_moves, .func (PySem.W.fnOf "parse_moves" "parse_moves" (defArgs s_parse_moves) (defBody s_parse_moves) (defScope s_parse_moves) .none kV_parse_moves dc_parse_moves pm_parse_moves an_parse_moves cd_parse_moves ct_parse_moves), sl_parse_moves⟩) (c_parse_moves : PySem.W.codeIn K cd_parse_moves "parse_moves" = true) (k_parse_moves : PySem.W.keepIn K (.ref f_parse_moves) = true)
    (a_parse_state : PySem.W.nsIn K mainGlobals "parse_state" = some (some (.ref f_parse_state))) (l_parse_state : K.lookup f_parse_state = some ⟨oc_parse_state, od_parse_state, .func (PySem.W.fnOf "parse_state" "parse_state" (defArgs s_parse_state) (defBody s_parse_state) (defScope s_parse_state) .none kV_parse_state dc_parse_state pm_parse_state an_parse_state cd_parse_state ct_parse_state), sl_parse_state⟩) (c_parse_state : PySem.W.codeIn K cd_parse_state "parse_state" = true) (k_parse_state : PySem.W.keepIn K (.ref f_parse_state) = true)
    (a__law_rigs : PySem.W.nsIn K mainGlobals "_law_rigs" = some (some (.ref f__law_rigs))) (l__law_rigs : K.lookup f__law_rigs = some ⟨oc__law_rigs, od__law_rigs, .func (PySem.W.fnOf "_law_rigs" "_law_rigs" (defArgs s__law_rigs) (defBody s__law_rigs) (defScope s__law_rigs) .none kV__law_rigs dc__law_rigs pm__law_rigs an__law_rigs cd__law_rigs ct__law_rigs), sl__law_rigs⟩) (c__law_rigs : PySem.W.codeIn K cd__law_rigs "_law_rigs" = true) (k__law_rigs : PySem.W.keepIn K (.ref f__law_rigs) = true)
    (a__law_lists : PySem.W.nsIn K mainGlobals "_law_lists" = some (some (.ref f__law_lists))) (l__law_lists : K.lookup f__law_lists = some ⟨oc__law_lists, od__law_lists, .func (PySem.W.fnOf "_law_lists" "_law_lists" (defArgs s__law_lists) (defBody s__law_lists) (defScope s__law_lists) .none kV__law_lists dc__law_lists pm__law_lists an__law_lists cd__law_lists ct__law_lists), sl__law_lists⟩) (c__law_lists : PySem.W.codeIn K cd__law_lists "_law_lists" = true) (k__law_lists : PySem.W.keepIn K (.ref f__law_lists) = true)
    (a__law_pairs : PySem.W.nsIn K mainGlobals "_law_pairs" = some (some (.ref f__law_pairs))) (l__law_pairs : K.lookup f__law_pairs = some ⟨oc__law_pairs, od__law_pairs, .func (PySem.W.fnOf "_law_pairs" "_law_pairs" (defArgs s__law_pairs) (defBody s__law_pairs) (defScope s__law_pairs) .none kV__law_pairs dc__law_pairs pm__law_pairs an__law_pairs cd__law_pairs ct__law_pairs), sl__law_pairs⟩) (c__law_pairs : PySem.W.codeIn K cd__law_pairs "_law_pairs" = true) (k__law_pairs : PySem.W.keepIn K (.ref f__law_pairs) = true)
    (a_law : PySem.W.nsIn K mainGlobals "law" = some (some (.ref f_law))) (l_law : K.lookup f_law = some ⟨oc_law, od_law, .func (PySem.W.fnOf "law" "law" (defArgs s_law) (defBody s_law) (defScope s_law) .none kV_law dc_law pm_law an_law cd_law ct_law), sl_law⟩) (c_law : PySem.W.codeIn K cd_law "law" = true) (k_law : PySem.W.keepIn K (.ref f_law) = true)
    (z_all : PySem.W.nsIn K mainGlobals "all" = some none) (z_bool : PySem.W.nsIn K mainGlobals "bool" = some none) (z_enumerate : PySem.W.nsIn K mainGlobals "enumerate" = some none) (z_int : PySem.W.nsIn K mainGlobals "int" = some none) (z_isinstance : PySem.W.nsIn K mainGlobals "isinstance" = some none) (z_len : PySem.W.nsIn K mainGlobals "len" = some none) (z_list : PySem.W.nsIn K mainGlobals "list" = some none) (z_repr : PySem.W.nsIn K mainGlobals "repr" = some none) (z_str : PySem.W.nsIn K mainGlobals "str" = some none) (z_tuple : PySem.W.nsIn K mainGlobals "tuple" = some none) (z_zip : PySem.W.nsIn K mainGlobals "zip" = some none) {t_DIGITS : PySem.Tok} (q_DIGITS : PySem.W.nsIn K mainGlobals "DIGITS" = some (some (.str "0123456789" t_DIGITS))) {t_MOST_DIGITS : PySem.Tok} (q_MOST_DIGITS : PySem.W.nsIn K mainGlobals "MOST_DIGITS" = some (some (.int 40 t_MOST_DIGITS))) {t_MOST_MOVES : PySem.Tok} (q_MOST_MOVES : PySem.W.nsIn K mainGlobals "MOST_MOVES" = some (some (.int 40 t_MOST_MOVES))) {t_MOST_PITCH : PySem.Tok} (q_MOST_PITCH : PySem.W.nsIn K mainGlobals "MOST_PITCH" = some (some (.int 24 t_MOST_PITCH))) :
    ∃ fd : FuncData, (∀ (s : Shared) (v : Value), BindsTo s fd ⟨[v], []⟩ [("script", v)]) ∧ ∀ base : Heap, K.In base → base.Ns mainGlobals mg → FG l.prog w K mg base (6 + 1) fa fd ["script"] (spLaw K) := by
  have e := hfa.symm.trans (PySem.W.mg_of X G a_law)
  cases e
  have X_parse_state_kw_text_device : KwOk K mg "parse_state" ["device", "text"] ["text", "device"] [1, 0] := kw_mk (st := s_parse_state) X G a_parse_state l_parse_state fun kV doc pm cdv ct an ws hl => kwb_parse_state_text_device kV doc pm cdv ct an ws hl
  have X_format_state_kw_state : KwOk K mg "format_state" ["state"] ["state"] [0] := kw_mk (st := s_format_state) X G a_format_state l_format_state fun kV doc pm cdv ct an ws hl => kwb_format_state_state kV doc pm cdv ct an ws hl
  have X_parse_moves_kw_text : KwOk K mg "parse_moves" ["text"] ["text"] [0] := kw_mk (st := s_parse_moves) X G a_parse_moves l_parse_moves fun kV doc pm cdv ct an ws hl => kwb_parse_moves_text kV doc pm cdv ct an ws hl
  have X_format_moves_kw_moves : KwOk K mg "format_moves" ["moves"] ["moves"] [0] := kw_mk (st := s_format_moves) X G a_format_moves l_format_moves fun kV doc pm cdv ct an ws hl => kwb_format_moves_moves kV doc pm cdv ct an ws hl
  have X_parse_device_kw_text : KwOk K mg "parse_device" ["text"] ["text"] [0] := kw_mk (st := s_parse_device) X G a_parse_device l_parse_device fun kV doc pm cdv ct an ws hl => kwb_parse_device_text kV doc pm cdv ct an ws hl
  have X_format_device_kw_device : KwOk K mg "format_device" ["device"] ["device"] [0] := kw_mk (st := s_format_device) X G a_format_device l_format_device fun kV doc pm cdv ct an ws hl => kwb_format_device_device kV doc pm cdv ct an ws hl
  have T : Tx K mg := ⟨PySem.W.mg_none_of X G z_all, PySem.W.mg_none_of X G z_bool, PySem.W.mg_none_of X G z_enumerate, PySem.W.mg_none_of X G z_int, PySem.W.mg_none_of X G z_isinstance, PySem.W.mg_none_of X G z_len, PySem.W.mg_none_of X G z_list, PySem.W.mg_none_of X G z_repr, PySem.W.mg_none_of X G z_str, PySem.W.mg_none_of X G z_tuple, PySem.W.mg_none_of X G z_zip, ⟨_, PySem.W.mg_of X G q_DIGITS⟩, ⟨_, PySem.W.mg_of X G q_MOST_DIGITS⟩, ⟨_, PySem.W.mg_of X G q_MOST_MOVES⟩, ⟨_, PySem.W.mg_of X G q_MOST_PITCH⟩, X_parse_state_kw_text_device, X_format_state_kw_state, X_parse_moves_kw_text, X_format_moves_kw_moves, X_parse_device_kw_text, X_format_device_kw_device⟩
  have H_is_whole := here_mk (st := s_is_whole) (ps := ["value"]) X G a_is_whole l_is_whole c_is_whole k_is_whole fun F => F.binds fun _ _ _ _ _ _ us hl => match us, hl with | [_], _ => rfl
  have H_is_pair := here_mk (st := s_is_pair) (ps := ["value"]) X G a_is_pair l_is_pair c_is_pair k_is_pair fun F => F.binds fun _ _ _ _ _ _ us hl => match us, hl with | [_], _ => rfl
  have H_catches := here_mk (st := s_catches) (ps := ["comb", "number"]) X G a_catches l_catches c_catches k_catches fun F => F.binds fun _ _ _ _ _ _ us hl => match us, hl with | [_, _], _ => rfl
  have H_is_pitch := here_mk (st := s_is_pitch) (ps := ["value"]) X G a_is_pitch l_is_pitch c_is_pitch k_is_pitch fun F => F.binds fun _ _ _ _ _ _ us hl => match us, hl with | [_], _ => rfl
  have H_are_teeth := here_mk (st := s_are_teeth) (ps := ["value", "pitch"]) X G a_are_teeth l_are_teeth c_are_teeth k_are_teeth fun F => F.binds fun _ _ _ _ _ _ us hl => match us, hl with | [_, _], _ => rfl
  have H_check_device := here_mk (st := s_check_device) (ps := ["device"]) X G a_check_device l_check_device c_check_device k_check_device fun F => F.binds fun _ _ _ _ _ _ us hl => match us, hl with | [_], _ => rfl
  have H_is_comb := here_mk (st := s_is_comb) (ps := ["value"]) X G a_is_comb l_is_comb c_is_comb k_is_comb fun F => F.binds fun _ _ _ _ _ _ us hl => match us, hl with | [_], _ => rfl
  have H_is_held := here_mk (st := s_is_held) (ps := ["device", "height", "hand"]) X G a_is_held l_is_held c_is_held k_is_held fun F => F.binds fun _ _ _ _ _ _ us hl => match us, hl with | [_, _, _], _ => rfl
  have H_numbers_text := here_mk (st := s_numbers_text) (ps := ["numbers"]) X G a_numbers_text l_numbers_text c_numbers_text k_numbers_text fun F => F.binds fun _ _ _ _ _ _ us hl => match us, hl with | [_], _ => rfl
  have H_comb_text := here_mk (st := s_comb_text) (ps := ["comb"]) X G a_comb_text l_comb_text c_comb_text k_comb_text fun F => F.binds fun _ _ _ _ _ _ us hl => match us, hl with | [_], _ => rfl
  have H_format_device := here_mk (st := s_format_device) (ps := ["device"]) X G a_format_device l_format_device c_format_device k_format_device fun F => F.binds fun _ _ _ _ _ _ us hl => match us, hl with | [_], _ => rfl
  have H_format_moves := here_mk (st := s_format_moves) (ps := ["moves"]) X G a_format_moves l_format_moves c_format_moves k_format_moves fun F => F.binds fun _ _ _ _ _ _ us hl => match us, hl with | [_], _ => rfl
  have H_format_state := here_mk (st := s_format_state) (ps := ["state"]) X G a_format_state l_format_state c_format_state k_format_state fun F => F.binds fun _ _ _ _ _ _ us hl => match us, hl with | [_], _ => rfl
  have H_is_count := here_mk (st := s_is_count) (ps := ["word"]) X G a_is_count l_is_count c_is_count k_is_count fun F => F.binds fun _ _ _ _ _ _ us hl => match us, hl with | [_], _ => rfl
  have H_is_number := here_mk (st := s_is_number) (ps := ["word"]) X G a_is_number l_is_number c_is_number k_is_number fun F => F.binds fun _ _ _ _ _ _ us hl => match us, hl with | [_], _ => rfl
  have H_is_pitch_word := here_mk (st := s_is_pitch_word) (ps := ["word"]) X G a_is_pitch_word l_is_pitch_word c_is_pitch_word k_is_pitch_word fun F => F.binds fun _ _ _ _ _ _ us hl => match us, hl with | [_], _ => rfl
  have H_is_tooth_word := here_mk (st := s_is_tooth_word) (ps := ["word", "teeth", "pitch"]) X G a_is_tooth_word l_is_tooth_word c_is_tooth_word k_is_tooth_word fun F => F.binds fun _ _ _ _ _ _ us hl => match us, hl with | [_, _, _], _ => rfl
  have H_read_comb := here_mk (st := s_read_comb) (ps := ["words", "at"]) X G a_read_comb l_read_comb c_read_comb k_read_comb fun F => F.binds fun _ _ _ _ _ _ us hl => match us, hl with | [_, _], _ => rfl
  have H_read_device := here_mk (st := s_read_device) (ps := ["words"]) X G a_read_device l_read_device c_read_device k_read_device fun F => F.binds fun _ _ _ _ _ _ us hl => match us, hl with | [_], _ => rfl
  have H_read_moves := here_mk (st := s_read_moves) (ps := ["words"]) X G a_read_moves l_read_moves c_read_moves k_read_moves fun F => F.binds fun _ _ _ _ _ _ us hl => match us, hl with | [_], _ => rfl
  have H_read_number := here_mk (st := s_read_number) (ps := ["words", "at"]) X G a_read_number l_read_number c_read_number k_read_number fun F => F.binds fun _ _ _ _ _ _ us hl => match us, hl with | [_, _], _ => rfl
  have H_text_words := here_mk (st := s_text_words) (ps := ["text"]) X G a_text_words l_text_words c_text_words k_text_words fun F => F.binds fun _ _ _ _ _ _ us hl => match us, hl with | [_], _ => rfl
  have H_parse_device := here_mk (st := s_parse_device) (ps := ["text"]) X G a_parse_device l_parse_device c_parse_device k_parse_device fun F => F.binds fun _ _ _ _ _ _ us hl => match us, hl with | [_], _ => rfl
  have H_parse_moves := here_mk (st := s_parse_moves) (ps := ["text"]) X G a_parse_moves l_parse_moves c_parse_moves k_parse_moves fun F => F.binds fun _ _ _ _ _ _ us hl => match us, hl with | [_], _ => rfl
  have H_parse_state := here_mk (st := s_parse_state) (ps := ["device", "text"]) X G a_parse_state l_parse_state c_parse_state k_parse_state fun F => F.binds fun _ _ _ _ _ _ us hl => match us, hl with | [_, _], _ => rfl
  have H__law_rigs := here_mk (st := s__law_rigs) (ps := []) X G a__law_rigs l__law_rigs c__law_rigs k__law_rigs fun F => F.binds fun _ _ _ _ _ _ us hl => match us, hl with | [], _ => rfl
  have H__law_lists := here_mk (st := s__law_lists) (ps := []) X G a__law_lists l__law_lists c__law_lists k__law_lists fun F => F.binds fun _ _ _ _ _ _ us hl => match us, hl with | [], _ => rfl
  have H__law_pairs := here_mk (st := s__law_pairs) (ps := []) X G a__law_pairs l__law_pairs c__law_pairs k__law_pairs fun F => F.binds fun _ _ _ _ _ _ us hl => match us, hl with | [], _ => rfl
  have H_law := here_mk (st := s_law) (ps := ["script"]) X G a_law l_law c_law k_law fun F => F.binds fun _ _ _ _ _ _ us hl => match us, hl with | [_], _ => rfl
  refine ⟨PySem.W.fnOf "law" "law" (defArgs s_law) (defBody s_law) (defScope s_law) .none kV_law dc_law pm_law an_law cd_law ct_law, fun s v => .of_eq rfl, fun base _ _ => ?_⟩
  have D_is_whole := ok_is_whole (P := l.prog) (w := w) (base := base) T  H_is_whole
  have D_is_pair := ok_is_pair (P := l.prog) (w := w) (base := base) T  H_is_pair
  have D_catches := ok_catches (P := l.prog) (w := w) (base := base) T  H_catches
  have D_numbers_text := ok_numbers_text (P := l.prog) (w := w) (base := base) T  H_numbers_text
  have D_format_state := ok_format_state (P := l.prog) (w := w) (base := base) T  H_format_state
  have D_is_count := ok_is_count (P := l.prog) (w := w) (base := base) T  H_is_count
  have D_text_words := ok_text_words (P := l.prog) (w := w) (base := base) T  H_text_words
  have D__law_rigs := ok__law_rigs (P := l.prog) (w := w) (base := base) T  H__law_rigs
  have D__law_lists := ok__law_lists (P := l.prog) (w := w) (base := base) T  H__law_lists
  have D__law_pairs := ok__law_pairs (P := l.prog) (w := w) (base := base) T  H__law_pairs
  have D_is_pitch := ok_is_pitch (P := l.prog) (w := w) (base := base) T D_is_whole H_is_pitch
  have D_are_teeth := ok_are_teeth (P := l.prog) (w := w) (base := base) T D_is_whole H_are_teeth
  have D_is_held := ok_is_held (P := l.prog) (w := w) (base := base) T D_catches H_is_held
  have D_comb_text := ok_comb_text (P := l.prog) (w := w) (base := base) T D_numbers_text H_comb_text
  have D_format_moves := ok_format_moves (P := l.prog) (w := w) (base := base) T D_numbers_text H_format_moves
  have D_is_number := ok_is_number (P := l.prog) (w := w) (base := base) T D_is_count H_is_number
  have D_is_pitch_word := ok_is_pitch_word (P := l.prog) (w := w) (base := base) T D_is_count H_is_pitch_word
  have D_is_tooth_word := ok_is_tooth_word (P := l.prog) (w := w) (base := base) T D_is_count H_is_tooth_word
  have D_is_comb := ok_is_comb (P := l.prog) (w := w) (base := base) T D_are_teeth D_is_pair D_is_pitch H_is_comb
  have D_format_device := ok_format_device (P := l.prog) (w := w) (base := base) T D_comb_text H_format_device
  have D_read_comb := ok_read_comb (P := l.prog) (w := w) (base := base) T D_is_pitch_word D_is_tooth_word H_read_comb
  have D_read_moves := ok_read_moves (P := l.prog) (w := w) (base := base) T D_is_number H_read_moves
  have D_read_number := ok_read_number (P := l.prog) (w := w) (base := base) T D_is_number H_read_number
  have D_check_device := ok_check_device (P := l.prog) (w := w) (base := base) T D_is_comb D_is_pair H_check_device
  have D_read_device := ok_read_device (P := l.prog) (w := w) (base := base) T D_read_comb H_read_device
  have D_parse_moves := ok_parse_moves (P := l.prog) (w := w) (base := base) T D_read_moves D_text_words H_parse_moves
  have D_parse_device := ok_parse_device (P := l.prog) (w := w) (base := base) T D_read_device D_text_words H_parse_device
  have D_parse_state := ok_parse_state (P := l.prog) (w := w) (base := base) T D_check_device D_is_held D_read_number D_text_words H_parse_state
  exact ok_law T D__law_lists D__law_pairs D__law_rigs D_format_device D_format_moves D_format_state D_parse_device D_parse_moves D_parse_state H_law
end K
open PySem PySem.W PyProof.Rows
set_option maxHeartbeats 0 in
theorem PySem.Challenge.cw_twocombs_k44_written_texts_holds : PySem.Challenge.rw_twocombs_k44_written_texts.Holds := by
  w_on; o_law; k_head; (case hw => w_witness2)
  k_fill
  refine PD.fg_end (l := PySem.Challenge.rw_twocombs_k44_written_texts) (n := 63) (k := 7) (x := "script") (sp := fun w => PD.spLaw (_)) rfl (by decide) rfl ⟨rfl, by decide, by decide⟩ (fun w h Y => PySem.W.kIn_of Y) ?F (fun _ _ a ns hl _ hS => ⟨a, ns, rfl, hS, hl, fun _ => rfl⟩)
  case F =>
    intro w mg fa h KX G hmg
    refine' K.all_mk KX G hmg ?a_is_whole ?l_is_whole ?c_is_whole ?k_is_whole ?a_is_pair ?l_is_pair ?c_is_pair ?k_is_pair ?a_catches ?l_catches ?c_catches ?k_catches ?a_is_pitch ?l_is_pitch ?c_is_pitch ?k_is_pitch ?a_are_teeth ?l_are_teeth ?c_are_teeth ?k_are_teeth ?a_check_device ?l_check_device ?c_check_device ?k_check_device ?a_is_comb ?l_is_comb ?c_is_comb ?k_is_comb ?a_is_held ?l_is_held ?c_is_held ?k_is_held ?a_numbers_text ?l_numbers_text ?c_numbers_text ?k_numbers_text ?a_comb_text ?l_comb_text ?c_comb_text ?k_comb_text ?a_format_device ?l_format_device ?c_format_device ?k_format_device ?a_format_moves ?l_format_moves ?c_format_moves ?k_format_moves ?a_format_state ?l_format_state ?c_format_state ?k_format_state ?a_is_count ?l_is_count ?c_is_count ?k_is_count ?a_is_number ?l_is_number ?c_is_number ?k_is_number ?a_is_pitch_word ?l_is_pitch_word ?c_is_pitch_word ?k_is_pitch_word ?a_is_tooth_word ?l_is_tooth_word ?c_is_tooth_word ?k_is_tooth_word ?a_read_comb ?l_read_comb ?c_read_comb ?k_read_comb ?a_read_device ?l_read_device ?c_read_device ?k_read_device ?a_read_moves ?l_read_moves ?c_read_moves ?k_read_moves ?a_read_number ?l_read_number ?c_read_number ?k_read_number ?a_text_words ?l_text_words ?c_text_words ?k_text_words ?a_parse_device ?l_parse_device ?c_parse_device ?k_parse_device ?a_parse_moves ?l_parse_moves ?c_parse_moves ?k_parse_moves ?a_parse_state ?l_parse_state ?c_parse_state ?k_parse_state ?a__law_rigs ?l__law_rigs ?c__law_rigs ?k__law_rigs ?a__law_lists ?l__law_lists ?c__law_lists ?k__law_lists ?a__law_pairs ?l__law_pairs ?c__law_pairs ?k__law_pairs ?a_law ?l_law ?c_law ?k_law ?z_all ?z_bool ?z_enumerate ?z_int ?z_isinstance ?z_len ?z_list ?z_repr ?z_str ?z_tuple ?z_zip ?q_DIGITS ?q_MOST_DIGITS ?q_MOST_MOVES ?q_MOST_PITCH
    (case a_is_whole => k_is); (case l_is_whole => k_is); (case c_is_whole => k_is); (case k_is_whole => k_is); (case a_is_pair => k_is); (case l_is_pair => k_is); (case c_is_pair => k_is); (case k_is_pair => k_is); (case a_catches => k_is); (case l_catches => k_is); (case c_catches => k_is); (case k_catches => k_is); (case a_is_pitch => k_is); (case l_is_pitch => k_is); (case c_is_pitch => k_is); (case k_is_pitch => k_is); (case a_are_teeth => k_is); (case l_are_teeth => k_is); (case c_are_teeth => k_is); (case k_are_teeth => k_is); (case a_check_device => k_is); (case l_check_device => k_is); (case c_check_device => k_is); (case k_check_device => k_is); (case a_is_comb => k_is); (case l_is_comb => k_is); (case c_is_comb => k_is); (case k_is_comb => k_is); (case a_is_held => k_is); (case l_is_held => k_is); (case c_is_held => k_is); (case k_is_held => k_is); (case a_numbers_text => k_is); (case l_numbers_text => k_is); (case c_numbers_text => k_is); (case k_numbers_text => k_is); (case a_comb_text => k_is); (case l_comb_text => k_is); (case c_comb_text => k_is); (case k_comb_text => k_is); (case a_format_device => k_is); (case l_format_device => k_is); (case c_format_device => k_is); (case k_format_device => k_is); (case a_format_moves => k_is); (case l_format_moves => k_is); (case c_format_moves => k_is); (case k_format_moves => k_is); (case a_format_state => k_is); (case l_format_state => k_is); (case c_format_state => k_is); (case k_format_state => k_is); (case a_is_count => k_is); (case l_is_count => k_is); (case c_is_count => k_is); (case k_is_count => k_is); (case a_is_number => k_is); (case l_is_number => k_is); (case c_is_number => k_is); (case k_is_number => k_is); (case a_is_pitch_word => k_is); (case l_is_pitch_word => k_is); (case c_is_pitch_word => k_is); (case k_is_pitch_word => k_is); (case a_is_tooth_word => k_is); (case l_is_tooth_word => k_is); (case c_is_tooth_word => k_is); (case k_is_tooth_word => k_is); (case a_read_comb => k_is); (case l_read_comb => k_is); (case c_read_comb => k_is); (case k_read_comb => k_is); (case a_read_device => k_is); (case l_read_device => k_is); (case c_read_device => k_is); (case k_read_device => k_is); (case a_read_moves => k_is); (case l_read_moves => k_is); (case c_read_moves => k_is); (case k_read_moves => k_is); (case a_read_number => k_is); (case l_read_number => k_is); (case c_read_number => k_is); (case k_read_number => k_is); (case a_text_words => k_is); (case l_text_words => k_is); (case c_text_words => k_is); (case k_text_words => k_is); (case a_parse_device => k_is); (case l_parse_device => k_is); (case c_parse_device => k_is); (case k_parse_device => k_is); (case a_parse_moves => k_is); (case l_parse_moves => k_is); (case c_parse_moves => k_is); (case k_parse_moves => k_is); (case a_parse_state => k_is); (case l_parse_state => k_is); (case c_parse_state => k_is); (case k_parse_state => k_is); (case a__law_rigs => k_is); (case l__law_rigs => k_is); (case c__law_rigs => k_is); (case k__law_rigs => k_is); (case a__law_lists => k_is); (case l__law_lists => k_is); (case c__law_lists => k_is); (case k__law_lists => k_is); (case a__law_pairs => k_is); (case l__law_pairs => k_is); (case c__law_pairs => k_is); (case k__law_pairs => k_is); (case a_law => k_is); (case l_law => k_is); (case c_law => k_is); (case k_law => k_is); (case z_all => k_is); (case z_bool => k_is); (case z_enumerate => k_is); (case z_int => k_is); (case z_isinstance => k_is); (case z_len => k_is); (case z_list => k_is); (case z_repr => k_is); (case z_str => k_is); (case z_tuple => k_is); (case z_zip => k_is); (case q_DIGITS => k_is); (case q_MOST_DIGITS => k_is); (case q_MOST_MOVES => k_is); (case q_MOST_PITCH => k_is)
