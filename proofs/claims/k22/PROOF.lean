import PyProof.Rows.All
import Wide.All
import OpenK.AllK
import Wide.FinOn
import PySem.Challenge.RW_filedalike_k22_whole_last_words
import HandS.ForMost
import HandS.Deep
import HandS.Style
import HandS.Flow
import HandS.Walk
import HandS.Wide
import HandS.IsInst
import HandS.TupAny
import HandS.Text
import HandS.FStr
import HandS.Star
import HandS.Defaults
import HandS.MakeKwOnly
import HandS.DictEq
import HandS.DeepEq
import HandS.TupLe
import KE.KEqDict
import KE.DataMinMax
import HandS.More
import HandS.SortInts
import HandS.SlotsOwn
import HandS.Steps
import HandS.DictTup
import KE.SortData
set_option Elab.async false
set_option linter.all false
set_option maxRecDepth 100000
/-! FD0: a heap-free layer over the hand layer. Data (D) read off a frozen part I of the heap; mutable things are resources with footprints. -/
namespace FD
open PySem PySem.Spec PyProof.Rows L2

abbrev Sg := List (Option V)
inductive D where
  | non | bl (b : Bool) | int (i : Int) | str (x : Str)
  | lst (ds : List D) | tup (ds : List D)
  | dic (ks : List Key) (ds : List D)
  | ins (C : Addr) (ns : List Str) (ds : List D)
  | raw (v : V)

def Ex (H H' : Hp) : Prop := ∀ a o, H a = some o → H' a = some o
theorem Ex.refl (H : Hp) : Ex H H := fun _ _ h => h
theorem Ex.trans {H H1 H2 : Hp} (a : Ex H H1) (b : Ex H1 H2) : Ex H H2 := fun x o h => b x o (a x o h)
theorem Ex.new {H : Hp} {p : Addr} {o : HO} (h : H p = none) : Ex H (upd H p o) := fun a u e => by
  rw [upd_ne (ne_of_none e h)]
  exact e
theorem Ex.back {H H' : Hp} {p : Addr} (e : Ex H H') (h : H' p = none) : H p = none := by
  cases h1 : H p with
  | none => rfl
  | some o =>
    rw [e p o h1] at h
    cases h
theorem Ex.upd2 {H H' : Hp} {p : Addr} {o : HO} (e : Ex H H') (h : H' p = none) : Ex (upd H p o) (upd H' p o) := fun a u q => by
  by_cases hp : a = p
  · subst hp; rw [upd_same] at q ⊢; exact q
  · rw [upd_ne hp] at q ⊢; exact e a u q
theorem Ex.rd {H H' : Hp} {a : Addr} {u : HO} (e : Ex H H') (h : Rd H a u) : Rd H' a u := by
  rcases h with h | ⟨o, h⟩
  · exact Or.inl (e a _ h)
  · exact Or.inr ⟨o, e a _ h⟩
theorem Ex.l {K : PySem.W.Frag} {H H' : Hp} {a : Addr} {xs : List V} (e : Ex H H') (h : SqL K H a xs) : SqL K H' a xs := by
  rcases h with h | h
  · exact Or.inl (e.rd h)
  · exact Or.inr h
theorem Ex.t {K : PySem.W.Frag} {H H' : Hp} {a : Addr} {xs : List V} (e : Ex H H') (h : SqT K H a xs) : SqT K H' a xs := by
  rcases h with h | h
  · exact Or.inl (e.rd h)
  · exact Or.inr h
theorem sq_of {K : PySem.W.Frag} {H : Hp} {a : Addr} {xs : List V} (h : H a = some (.lst xs)) : SqL K H a xs := Or.inl (Or.inl h)
theorem st_of {K : PySem.W.Frag} {H : Hp} {a : Addr} {xs : List V} (h : H a = some (.tup xs)) : SqT K H a xs := Or.inl (Or.inl h)

mutual
inductive Is (K : PySem.W.Frag) (I : Hp) : V → D → Prop
  | non : Is K I .non .non
  | bl (b : Bool) : Is K I (.bl b) (.bl b)
  | int (i : Int) : Is K I (.int i) (.int i)
  | str (x : Str) : Is K I (.str x) (.str x)
  | lst {a : Addr} {xs : List V} {ds : List D} : SqL K I a xs → IsA K I xs ds → Is K I (.ref a) (.lst ds)
  | tup {a : Addr} {xs : List V} {ds : List D} : SqT K I a xs → IsA K I xs ds → Is K I (.ref a) (.tup ds)
  | dic {a : Addr} {kvs : List (Key × V)} {ks : List Key} {ds : List D} : Rd I a (.dK kvs) → ks = kvs.map (·.1) → IsA K I (kvs.map (·.2)) ds → Is K I (.ref a) (.dic ks ds)
  | ins {a C dx : Addr} {fs : List (Str × V)} {ns : List Str} {ds : List D} : I a = some (.ins C dx fs) → ns = fs.map (·.1) → IsA K I (fs.map (·.2)) ds → Is K I (.ref a) (.ins C ns ds)
  | raw (v : V) : Is K I v (.raw v)
inductive IsA (K : PySem.W.Frag) (I : Hp) : List V → List D → Prop
  | nil : IsA K I [] []
  | cons {v : V} {vs : List V} {d : D} {ds : List D} : Is K I v d → IsA K I vs ds → IsA K I (v :: vs) (d :: ds)
end
section
variable {K : PySem.W.Frag} {I I' : Hp}
mutual
theorem Is.mono (e : Ex I I') : ∀ {d : D} {v : V}, Is K I v d → Is K I' v d
  | .non, _, h => by cases h; exact .non
  | .bl _, _, h => by cases h; exact .bl _
  | .int _, _, h => by cases h; exact .int _
  | .str _, _, h => by cases h; exact .str _
  | .lst ds, _, h => by
    cases h with
    | lst h1 h2 => exact .lst (e.l h1) (IsA.mono e h2)
  | .tup ds, _, h => by
    cases h with
    | tup h1 h2 => exact .tup (e.t h1) (IsA.mono e h2)
  | .dic ks ds, _, h => by
    cases h with
    | dic h1 h2 h3 => exact .dic (e.rd h1) h2 (IsA.mono e h3)
  | .ins C ns ds, _, h => by
    cases h with
    | ins h1 h2 h3 => exact .ins (e _ _ h1) h2 (IsA.mono e h3)
  | .raw _, _, h => by cases h; exact .raw _
theorem IsA.mono (e : Ex I I') : ∀ {ds : List D} {vs : List V}, IsA K I vs ds → IsA K I' vs ds
  | [], _, h => by cases h; exact .nil
  | d :: ds, _, h => by
    cases h with
    | cons h1 h2 => exact .cons (Is.mono e h1) (IsA.mono e h2)
end
theorem IsA.length : ∀ {ds : List D} {vs : List V}, IsA K I vs ds → vs.length = ds.length
  | [], _, h => by cases h; rfl
  | d :: ds, _, h => by
    cases h with
    | cons h1 h2 => simp [IsA.length h2]
theorem IsA.get : ∀ {ds : List D} {vs : List V} {i : Nat} {v : V}, IsA K I vs ds → vs[i]? = some v → ∃ d, ds[i]? = some d ∧ Is K I v d
  | [], _, i, v, h, e => by cases h; simp at e
  | d :: ds, _, 0, v, h, e => by
    cases h with
    | cons h1 h2 => simp at e; subst e; exact ⟨d, rfl, h1⟩
  | d :: ds, _, i + 1, v, h, e => by
    cases h with
    | cons h1 h2 =>
      obtain ⟨d', q, r⟩ := IsA.get (i := i) h2 (by simpa using e)
      exact ⟨d', by simpa using q, r⟩
theorem IsA.getD : ∀ {ds : List D} {vs : List V} {i : Nat} {d : D}, IsA K I vs ds → ds[i]? = some d → ∃ v, vs[i]? = some v ∧ Is K I v d := fun {ds vs i d} h e => by
  have hl := h.length
  obtain ⟨hi, e1⟩ := List.getElem?_eq_some_iff.mp e
  obtain ⟨d', q, r⟩ := IsA.get (i := i) (v := vs[i]'(by omega)) h (List.getElem?_eq_getElem (by omega))
  rw [e] at q
  cases q
  exact ⟨_, List.getElem?_eq_getElem (by omega), r⟩
theorem IsA.append : ∀ {ds es : List D} {vs ws : List V}, IsA K I vs ds → IsA K I ws es → IsA K I (vs ++ ws) (ds ++ es)
  | [], es, _, ws, h, h' => by cases h; exact h'
  | d :: ds, es, _, ws, h, h' => by
    cases h with
    | cons h1 h2 => exact .cons h1 (IsA.append h2 h')
theorem IsA.take : ∀ {ds : List D} {vs : List V} (n : Nat), IsA K I vs ds → IsA K I (vs.take n) (ds.take n)
  | _, _, 0, _ => by simp; exact .nil
  | [], _, n + 1, h => by cases h; exact .nil
  | d :: ds, _, n + 1, h => by
    cases h with
    | cons h1 h2 => exact .cons h1 (IsA.take n h2)
theorem IsA.drop : ∀ {ds : List D} {vs : List V} (n : Nat), IsA K I vs ds → IsA K I (vs.drop n) (ds.drop n)
  | _, _, 0, h => h
  | [], _, n + 1, h => by cases h; exact .nil
  | d :: ds, _, n + 1, h => by
    cases h with
    | cons h1 h2 => exact IsA.drop n h2
theorem IsA.set : ∀ {ds : List D} {vs : List V} (n : Nat) {v : V} {d : D}, IsA K I vs ds → Is K I v d → IsA K I (vs.set n v) (ds.set n d)
  | [], _, _, _, _, h, _ => by cases h; exact .nil
  | d :: ds, _, 0, _, _, h, q => by
    cases h with
    | cons h1 h2 => exact .cons q h2
  | d :: ds, _, n + 1, _, _, h, q => by
    cases h with
    | cons h1 h2 => exact .cons h1 (IsA.set n h2 q)
theorem IsA.erase : ∀ {ds : List D} {vs : List V} (n : Nat), IsA K I vs ds → IsA K I (vs.eraseIdx n) (ds.eraseIdx n)
  | [], _, _, h => by cases h; exact .nil
  | d :: ds, _, 0, h => by
    cases h with
    | cons h1 h2 => exact h2
  | d :: ds, _, n + 1, h => by
    cases h with
    | cons h1 h2 => exact .cons h1 (IsA.erase n h2)
theorem IsA.reverse : ∀ {ds : List D} {vs : List V}, IsA K I vs ds → IsA K I vs.reverse ds.reverse
  | [], _, h => by cases h; exact .nil
  | d :: ds, _, h => by
    cases h with
    | cons h1 h2 =>
      rw [List.reverse_cons, List.reverse_cons]
      exact IsA.append (IsA.reverse h2) (.cons h1 .nil)
end

/-! ### resources -/
structure Res where
  P : Hp → V → Hp → List Addr → Prop
  mono : ∀ {I I' : Hp} {v : V} {H : Hp} {L : List Addr}, Ex I I' → P I v H L → P I' v H L
  frame : ∀ {I : Hp} {v : V} {H H' : Hp} {L : List Addr}, (∀ a ∈ L, H' a = H a) → P I v H L → P I v H' L
  live : ∀ {I : Hp} {v : V} {H : Hp} {L : List Addr}, P I v H L → ∀ a ∈ L, H a ≠ none
/-- a list of data that may be changed -/
def Rlst (K : PySem.W.Frag) (ds : List D) : Res where
  P I v H L := ∃ a xs, v = .ref a ∧ L = [a] ∧ H a = some (.lst xs) ∧ IsA K I xs ds
  mono e h := by
    obtain ⟨a, xs, h1, h2, h3, h4⟩ := h
    exact ⟨a, xs, h1, h2, h3, IsA.mono e h4⟩
  frame f h := by
    obtain ⟨a, xs, h1, h2, h3, h4⟩ := h
    subst h2
    exact ⟨a, xs, h1, rfl, (f a (by simp)).trans h3, h4⟩
  live h := by
    obtain ⟨a, xs, h1, h2, h3, h4⟩ := h
    subst h2
    intro b hb
    simp at hb
    subst hb
    rw [h3]
    exact fun z => nomatch z

/-- what a slot holds: not told | data | a resource, its value -/
inductive Sl where
  | em | dat (d : D) | res (v : V) (R : Res)

inductive EnvOk (K : PySem.W.Frag) (I H : Hp) : List Sl → Sg → List Addr → Prop
  | nil : EnvOk K I H [] [] []
  | em {Γ : List Sl} {σ : Sg} {L : List Addr} (x : Option V) : EnvOk K I H Γ σ L → EnvOk K I H (.em :: Γ) (x :: σ) L
  | dat {Γ : List Sl} {σ : Sg} {L : List Addr} {v : V} {d : D} : Is K I v d → EnvOk K I H Γ σ L → EnvOk K I H (.dat d :: Γ) (some v :: σ) L
  | res {Γ : List Sl} {σ : Sg} {L1 L2 : List Addr} {v : V} {R : Res} : R.P I v H L1 → EnvOk K I H Γ σ L2 → EnvOk K I H (.res v R :: Γ) (some v :: σ) (L1 ++ L2)

structure Wd (K : PySem.W.Frag) (Γ : List Sl) (σ : Sg) (I H : Hp) (L : List Addr) : Prop where
  env : EnvOk K I H Γ σ L
  nd : L.Nodup
  fr : ∀ a ∈ L, I a = none
  sub : Ex I H

structure Step (I H : Hp) (L : List Addr) (I' H' : Hp) (L' : List Addr) : Prop where
  i : Ex I I'
  keep : ∀ a o, H a = some o → a ∉ L → H' a = some o
  l : ∀ a ∈ L', a ∈ L ∨ H a = none
  n : ∀ a o, I' a = some o → I a = some o ∨ a ∈ L ∨ H a = none
structure New (I H I' H' : Hp) : Prop where
  i : Ex I I'
  h : Ex H H'
  n : ∀ a o, I' a = some o → I a = some o ∨ H a = none
theorem New.refl (I H : Hp) : New I H I H := ⟨Ex.refl I, Ex.refl H, fun _ _ h => .inl h⟩
theorem New.trans {I H I1 H1 I2 H2 : Hp} (a : New I H I1 H1) (b : New I1 H1 I2 H2) : New I H I2 H2 := ⟨a.i.trans b.i, a.h.trans b.h, fun x o h => by
  rcases b.n x o h with h | h
  · exact a.n x o h
  · exact .inr (a.h.back h)⟩
theorem New.step {I H I' H' : Hp} (a : New I H I' H') (L : List Addr) : Step I H L I' H' L := ⟨a.i, fun x o h _ => a.h x o h, fun x h => .inl h, fun x o h => (a.n x o h).elim .inl fun z => .inr (.inr z)⟩
theorem Step.refl (I H : Hp) (L : List Addr) : Step I H L I H L := (New.refl I H).step L
theorem Step.trans {I H I1 H1 I2 H2 : Hp} {L L1 L2 : List Addr} (a : Step I H L I1 H1 L1) (b : Step I1 H1 L1 I2 H2 L2) : Step I H L I2 H2 L2 where
  i := a.i.trans b.i
  keep x o h hl := b.keep x o (a.keep x o h hl) fun z => (a.l x z).elim hl fun q => by rw [h] at q; cases q
  l x h := (b.l x h).elim (a.l x) fun q => by
    by_cases hl : x ∈ L
    · exact .inl hl
    · cases e : H x with
      | none => exact .inr rfl
      | some o =>
        rw [a.keep x o e hl] at q
        cases q
  n x o h := by
    rcases b.n x o h with h | h | h
    · exact a.n x o h
    · exact .inr (a.l x h)
    · by_cases hl : x ∈ L
      · exact .inr (.inl hl)
      · cases e : H x with
        | none => exact .inr (.inr rfl)
        | some o =>
          rw [a.keep x o e hl] at h
          cases h

section
variable {K : PySem.W.Frag} {Γ Γ' : List Sl} {σ : Sg} {I H I' H' : Hp} {L L' : List Addr}
theorem EnvOk.live : ∀ {Γ : List Sl} {σ : Sg} {L : List Addr}, EnvOk K I H Γ σ L → ∀ a ∈ L, H a ≠ none
  | _, _, _, .nil, _, h => by simp at h
  | _, _, _, .em _ e, a, h => e.live a h
  | _, _, _, .dat _ e, a, h => e.live a h
  | _, _, _, .res (R := R) p e, a, h => (List.mem_append.mp h).elim (R.live p a) (e.live a)
theorem EnvOk.len : ∀ {Γ : List Sl} {σ : Sg} {L : List Addr}, EnvOk K I H Γ σ L → Γ.length = σ.length
  | _, _, _, .nil => rfl
  | _, _, _, .em _ e => by simp [e.len]
  | _, _, _, .dat _ e => by simp [e.len]
  | _, _, _, .res _ e => by simp [e.len]
theorem EnvOk.keep (e : Ex I I') : ∀ {Γ : List Sl} {σ : Sg} {L : List Addr}, (∀ a ∈ L, H' a = H a) → EnvOk K I H Γ σ L → EnvOk K I' H' Γ σ L
  | _, _, _, _, .nil => .nil
  | _, _, _, k, .em _ q => .em _ (q.keep e k)
  | _, _, _, k, .dat p q => .dat (p.mono e) (q.keep e k)
  | _, _, _, k, .res (R := R) p q => .res (R.mono e (R.frame (fun a h => k a (List.mem_append_left _ h)) p)) (q.keep e fun a h => k a (List.mem_append_right _ h))
theorem Wd.live (w : Wd K Γ σ I H L) : ∀ a ∈ L, H a ≠ none := w.env.live
theorem Wd.new (w : Wd K Γ σ I H L) (n : New I H I' H') (s : Ex I' H') : Wd K Γ σ I' H' L where
  env := w.env.keep n.i fun a h => by
    cases e : H a with
    | none => exact absurd e (w.live a h)
    | some o => exact n.h a o e
  nd := w.nd
  fr a h := by
    cases e : I' a with
    | none => rfl
    | some o =>
      rcases n.n a o e with q | q
      · rw [w.fr a h] at q; cases q
      · exact absurd q (w.live a h)
  sub := s
/-- reading a data slot -/
theorem EnvOk.get : ∀ {Γ : List Sl} {σ : Sg} {L : List Addr} {i : Nat} {d : D}, EnvOk K I H Γ σ L → Γ[i]? = some (.dat d) → ∃ v, σ[i]? = some (some v) ∧ Is K I v d
  | _, _, _, _, _, .nil, h => by simp at h
  | _, _, _, 0, _, .em _ _, h => by simp at h
  | _, _, _, 0, _, .dat p _, h => by simp at h; subst h; exact ⟨_, rfl, p⟩
  | _, _, _, 0, _, .res _ _, h => by simp at h
  | _, _, _, i + 1, d, .em _ e, h => by simpa using EnvOk.get (i := i) (d := d) e (by simpa using h)
  | _, _, _, i + 1, d, .dat _ e, h => by simpa using EnvOk.get (i := i) (d := d) e (by simpa using h)
  | _, _, _, i + 1, d, .res _ e, h => by simpa using EnvOk.get (i := i) (d := d) e (by simpa using h)
/-- a resource slot taken out: what stands around it -/
theorem EnvOk.getR : ∀ {Γ : List Sl} {σ : Sg} {L : List Addr} {i : Nat} {v : V} {R : Res}, EnvOk K I H Γ σ L → Γ[i]? = some (.res v R) → σ[i]? = some (some v) ∧ ∃ L1 Li L2, L = L1 ++ (Li ++ L2) ∧ R.P I v H Li ∧
    ∀ (I' H' : Hp) (R' : Res) (Li' : List Addr), Ex I I' → (∀ a, a ∈ L1 ++ L2 → H' a = H a) → R'.P I' v H' Li' → EnvOk K I' H' (Γ.set i (.res v R')) σ (L1 ++ (Li' ++ L2))
  | _, _, _, _, _, _, .nil, h => by simp at h
  | _, _, _, 0, _, _, .em _ _, h => by simp at h
  | _, _, _, 0, _, _, .dat p _, h => by simp at h
  | _, _, _, 0, _, _, .res (L1 := Li) (L2 := L2) p e, h => by
    simp at h
    obtain ⟨rfl, rfl⟩ := h
    exact ⟨rfl, [], Li, L2, rfl, p, fun I' H' R' Li' ei k q => (EnvOk.res (L1 := Li') (L2 := L2) q (e.keep ei fun a h => k a (by simpa using h)) : EnvOk K I' H' _ _ (Li' ++ L2))⟩
  | _, _, _, i + 1, v, R, .em x e, h => by
    obtain ⟨h1, L1, Li, L2, h2, h3, h4⟩ := EnvOk.getR (i := i) (v := v) (R := R) e (by simpa using h)
    exact ⟨by simpa using h1, L1, Li, L2, h2, h3, fun I' H' R' Li' ei k q => .em x (h4 I' H' R' Li' ei k q)⟩
  | _, _, _, i + 1, v, R, .dat p e, h => by
    obtain ⟨h1, L1, Li, L2, h2, h3, h4⟩ := EnvOk.getR (i := i) (v := v) (R := R) e (by simpa using h)
    exact ⟨by simpa using h1, L1, Li, L2, h2, h3, fun I' H' R' Li' ei k q => .dat (p.mono ei) (h4 I' H' R' Li' ei k q)⟩
  | _, _, _, i + 1, v, R, .res (L1 := L0) (R := R0) p e, h => by
    obtain ⟨h1, L1, Li, L2, h2, h3, h4⟩ := EnvOk.getR (i := i) (v := v) (R := R) e (by simpa using h)
    refine ⟨by simpa using h1, L0 ++ L1, Li, L2, by rw [h2, List.append_assoc], h3, fun I' H' R' Li' ei k q => ?_⟩
    rw [List.append_assoc]
    exact .res (R0.mono ei (R0.frame (fun a h => k a (List.mem_append_left _ (List.mem_append_left _ h))) p)) (h4 I' H' R' Li' ei (fun a h => k a (by
      rcases List.mem_append.mp h with h | h
      · exact List.mem_append_left _ (List.mem_append_right _ h)
      · exact List.mem_append_right _ h)) q)
/-- a slot is set to data, whatever was there -/
theorem EnvOk.setD {v : V} {d : D} (q : Is K I v d) : ∀ {Γ : List Sl} {σ : Sg} {L : List Addr} (i : Nat), EnvOk K I H Γ σ L → ∃ L', L'.Sublist L ∧ EnvOk K I H (Γ.set i (.dat d)) (σ.set i (some v)) L'
  | _, _, _, _, .nil => ⟨[], List.Sublist.refl _, .nil⟩
  | _, _, _, 0, .em _ e => ⟨_, List.Sublist.refl _, .dat q e⟩
  | _, _, _, 0, .dat _ e => ⟨_, List.Sublist.refl _, .dat q e⟩
  | _, _, _, 0, .res (L1 := L1) _ e => ⟨_, List.sublist_append_right _ _, .dat q e⟩
  | _, _, _, i + 1, .em x e => let ⟨L', s, r⟩ := EnvOk.setD q i e; ⟨L', s, .em x r⟩
  | _, _, _, i + 1, .dat p e => let ⟨L', s, r⟩ := EnvOk.setD q i e; ⟨L', s, .dat p r⟩
  | _, _, _, i + 1, .res (L1 := L1) p e => let ⟨L', s, r⟩ := EnvOk.setD q i e; ⟨L1 ++ L', List.Sublist.append_left s _, .res p r⟩
/-- a slot is forgotten -/
theorem EnvOk.setE (x : Option V) : ∀ {Γ : List Sl} {σ : Sg} {L : List Addr} (i : Nat), EnvOk K I H Γ σ L → ∃ L', L'.Sublist L ∧ EnvOk K I H (Γ.set i .em) (σ.set i x) L'
  | _, _, _, _, .nil => ⟨[], List.Sublist.refl _, .nil⟩
  | _, _, _, 0, .em _ e => ⟨_, List.Sublist.refl _, .em _ e⟩
  | _, _, _, 0, .dat _ e => ⟨_, List.Sublist.refl _, .em _ e⟩
  | _, _, _, 0, .res (L1 := L1) _ e => ⟨_, List.sublist_append_right _ _, .em _ e⟩
  | _, _, _, i + 1, .em y e => let ⟨L', s, r⟩ := EnvOk.setE x i e; ⟨L', s, .em y r⟩
  | _, _, _, i + 1, .dat p e => let ⟨L', s, r⟩ := EnvOk.setE x i e; ⟨L', s, .dat p r⟩
  | _, _, _, i + 1, .res (L1 := L1) p e => let ⟨L', s, r⟩ := EnvOk.setE x i e; ⟨L1 ++ L', List.Sublist.append_left s _, .res p r⟩
theorem Wd.sublist {Γ' : List Sl} {σ' : Sg} (w : Wd K Γ σ I H L) (s : L'.Sublist L) (e : EnvOk K I H Γ' σ' L') : Wd K Γ' σ' I H L' := ⟨e, w.nd.sublist s, fun a h => w.fr a (s.subset h), w.sub⟩
theorem Step.sublist (s : L'.Sublist L) : Step I H L I H L' := ⟨Ex.refl I, fun _ _ h _ => h, fun a h => .inl (s.subset h), fun _ _ h => .inl h⟩
/-- Γ' tells less than Γ -/
inductive Wk : List Sl → List Sl → Prop
  | nil : Wk [] []
  | keep {x : Sl} {Γ Γ' : List Sl} : Wk Γ Γ' → Wk (x :: Γ) (x :: Γ')
  | drop {x : Sl} {Γ Γ' : List Sl} : Wk Γ Γ' → Wk (x :: Γ) (.em :: Γ')
theorem Wk.refl : ∀ Γ : List Sl, Wk Γ Γ
  | [] => .nil
  | _ :: Γ => .keep (Wk.refl Γ)
theorem EnvOk.weak : ∀ {Γ Γ' : List Sl} {σ : Sg} {L : List Addr}, Wk Γ Γ' → EnvOk K I H Γ σ L → ∃ L', L'.Sublist L ∧ EnvOk K I H Γ' σ L'
  | _, _, _, _, .nil, .nil => ⟨[], List.Sublist.refl _, .nil⟩
  | _, _, _, _, .keep k, .em x e => let ⟨L', s, r⟩ := EnvOk.weak k e; ⟨L', s, .em x r⟩
  | _, _, _, _, .keep k, .dat p e => let ⟨L', s, r⟩ := EnvOk.weak k e; ⟨L', s, .dat p r⟩
  | _, _, _, _, .keep k, .res (L1 := L1) p e => let ⟨L', s, r⟩ := EnvOk.weak k e; ⟨L1 ++ L', List.Sublist.append_left s _, .res p r⟩
  | _, _, _, _, .drop k, .em x e => let ⟨L', s, r⟩ := EnvOk.weak k e; ⟨L', s, .em x r⟩
  | _, _, _, _, .drop k, .dat p e => let ⟨L', s, r⟩ := EnvOk.weak k e; ⟨L', s, .em _ r⟩
  | _, _, _, _, .drop k, .res (L1 := L1) p e => let ⟨L', s, r⟩ := EnvOk.weak k e; ⟨L', s.trans (List.sublist_append_right _ _), .em _ r⟩
theorem Wd.weak (w : Wd K Γ σ I H L) (k : Wk Γ Γ') : ∃ L', Wd K Γ' σ I H L' ∧ Step I H L I H L' := by
  obtain ⟨L', s, e⟩ := w.env.weak k
  exact ⟨L', w.sublist s e, Step.sublist s⟩
theorem Wd.setD {v : V} {d : D} (w : Wd K Γ σ I H L) (q : Is K I v d) (i : Nat) : ∃ L', Wd K (Γ.set i (.dat d)) (σ.set i (some v)) I H L' ∧ Step I H L I H L' := by
  obtain ⟨L', s, e⟩ := w.env.setD q i
  exact ⟨L', w.sublist s e, Step.sublist s⟩
/-- the resource at slot i is changed by a step over its own footprint -/
theorem Wd.stepR {i : Nat} {v : V} {R : Res} (w : Wd K Γ σ I H L) (hi : Γ[i]? = some (.res v R)) : σ[i]? = some (some v) ∧ ∃ Li, R.P I v H Li ∧ Li.Nodup ∧ (∀ a ∈ Li, I a = none) ∧
    ∀ (I' H' : Hp) (R' : Res) (Li' : List Addr), Step I H Li I' H' Li' → Li'.Nodup → (∀ a ∈ Li', I' a = none) → Ex I' H' → R'.P I' v H' Li' → ∃ L', Wd K (Γ.set i (.res v R')) σ I' H' L' ∧ Step I H L I' H' L' := by
  obtain ⟨h1, L1, Li, L2, rfl, hp, hk⟩ := w.env.getR hi
  have nd := w.nd
  have nd2 := List.nodup_append.mp nd
  have nd3 := List.nodup_append.mp nd2.2.1
  refine ⟨h1, Li, hp, nd3.1, fun a h => w.fr a (by simp [h]), fun I' H' R' Li' st nd' fr' sub' hp' => ?_⟩
  have out : ∀ a, a ∈ L1 ++ L2 → a ∉ Li := fun a h z => by
    rcases List.mem_append.mp h with h | h
    · exact nd2.2.2 a h a (by simp [z]) rfl
    · exact nd3.2.2 a z a h rfl
  have lv : ∀ a, a ∈ L1 ++ L2 → H a ≠ none := fun a h => w.live a (by
    rcases List.mem_append.mp h with h | h
    · simp [h]
    · simp [h])
  have kp : ∀ a, a ∈ L1 ++ L2 → H' a = H a := fun a h => by
    cases e : H a with
    | none => exact absurd e (lv a h)
    | some o => exact st.keep a o e (out a h)
  have apart : ∀ a ∈ Li', a ∉ L1 ++ L2 := fun a h z => (st.l a h).elim (out a z) (lv a z)
  refine ⟨L1 ++ (Li' ++ L2), ⟨hk I' H' R' Li' st.i kp hp', ?_, fun a h => ?_, sub'⟩, ⟨st.i, fun a o e hl => st.keep a o e fun z => hl (by simp [z]), fun a h => ?_, fun a o h => ?_⟩⟩
  · refine List.nodup_append.mpr ⟨nd2.1, List.nodup_append.mpr ⟨nd', nd3.2.1, fun a h b hb e => apart a h (by subst e; simp [hb])⟩, fun a h b hb e => ?_⟩
    subst e
    rcases List.mem_append.mp hb with hb | hb
    · exact apart a hb (by simp [h])
    · exact nd2.2.2 a h a (by simp [hb]) rfl
  · by_cases hL : a ∈ Li'
    · exact fr' a hL
    · have ha : a ∈ L1 ++ L2 := by simp at h ⊢; rcases h with h | h | h; exact .inl h; exact absurd h hL; exact .inr h
      cases e : I' a with
      | none => rfl
      | some o =>
        rcases st.n a o e with q | q | q
        · rw [w.fr a (by simp at ha ⊢; rcases ha with h | h; exact .inl h; exact .inr (.inr h))] at q; cases q
        · exact absurd q (out a ha)
        · exact absurd q (lv a ha)
  · simp at h
    rcases h with h | h | h
    · exact .inl (by simp [h])
    · exact (st.l a h).elim (fun z => .inl (by simp [z])) .inr
    · exact .inl (by simp [h])
  · rcases st.n a o h with q | q | q
    · exact .inl q
    · exact .inr (.inl (by simp [q]))
    · exact .inr (.inr q)
end
end FD

/-! FD1: expressions, tests, arguments, statements, contracts over the layer FD0. -/
namespace FD
open PySem PySem.Spec PyProof.Rows L2

inductive Md where
  | p | e
def Guar : Md → Hp → Hp → List Addr → Hp → Hp → List Addr → Prop
  | .p => fun I H L I' H' L' => New I H I' H' ∧ L' = L
  | .e => Step
theorem Guar.refl {m : Md} {I H : Hp} {L : List Addr} : Guar m I H L I H L := by
  cases m with
  | p => exact ⟨New.refl I H, rfl⟩
  | e => exact Step.refl I H L
theorem Guar.new {m : Md} {I H I' H' : Hp} {L : List Addr} (n : New I H I' H') : Guar m I H L I' H' L := by
  cases m with
  | p => exact ⟨n, rfl⟩
  | e => exact n.step L
theorem Guar.trans {m : Md} {I H I1 H1 I2 H2 : Hp} {L L1 L2 : List Addr} (a : Guar m I H L I1 H1 L1) (b : Guar m I1 H1 L1 I2 H2 L2) : Guar m I H L I2 H2 L2 := by
  cases m with
  | p =>
    obtain ⟨a1, rfl⟩ := a
    obtain ⟨b1, rfl⟩ := b
    exact ⟨a1.trans b1, rfl⟩
  | e => exact Step.trans a b
theorem Guar.step {m : Md} {I H I1 H1 : Hp} {L L1 : List Addr} (a : Guar m I H L I1 H1 L1) : Step I H L I1 H1 L1 := by
  cases m with
  | p =>
    obtain ⟨a1, rfl⟩ := a
    exact a1.step _
  | e => exact a
theorem Guar.i {m : Md} {I H I1 H1 : Hp} {L L1 : List Addr} (a : Guar m I H L I1 H1 L1) : Ex I I1 := a.step.i

def PureR (K : PySem.W.Frag) (I H : Hp) (r : Hp → VK → Prop) (z : D) : Prop := ∀ Q : VK, (∀ v I' H', New I H I' H' → Ex I' H' → Is K I' v z → Q v H') → r H Q
def OpD (K : PySem.W.Frag) (r : R2) (x y z : D) : Prop := ∀ I H v w, Ex I H → Is K I v x → Is K I w y → PureR K I H (r v w) z
def UnD (K : PySem.W.Frag) (r : V → Hp → VK → Prop) (x z : D) : Prop := ∀ I H v, Ex I H → Is K I v x → PureR K I H (r v) z
def CallD (K : PySem.W.Frag) (r : List V → Hp → VK → Prop) (ds : List D) (z : D) : Prop := ∀ I H vs, Ex I H → IsA K I vs ds → PureR K I H (r vs) z
/-- a method of a built-in type -/
def MtD (K : PySem.W.Frag) (r : V → List V → Hp → VK → Prop) (x : D) (ds : List D) (z : D) : Prop := ∀ I H v vs, Ex I H → Is K I v x → IsA K I vs ds → PureR K I H (r v vs) z

def Ev (K : PySem.W.Frag) (m : Md) (te : TE) (Γ : List Sl) (d : D) (Γ' : List Sl) : Prop :=
  ∀ σ I H L, Wd K Γ σ I H L → ∀ Q : VK, (∀ v I' H' L', Wd K Γ' σ I' H' L' → Guar m I H L I' H' L' → Is K I' v d → Q v H') → te σ H Q
def EvT (K : PySem.W.Frag) (m : Md) (tt : TT) (Γ : List Sl) (b : Bool) (Γ' : List Sl) : Prop :=
  ∀ σ I H L, Wd K Γ σ I H L → ∀ Q : Bool → Hp → Prop, (∀ I' H' L', Wd K Γ' σ I' H' L' → Guar m I H L I' H' L' → Q b H') → tt σ H Q
def EvA (K : PySem.W.Frag) (m : Md) (ta : TA) (Γ : List Sl) (ds : List D) (Γ' : List Sl) : Prop :=
  ∀ σ I H L, Wd K Γ σ I H L → ∀ Q : List V → Hp → Prop, (∀ vs I' H' L', Wd K Γ' σ I' H' L' → Guar m I H L I' H' L' → IsA K I' vs ds → Q vs H') → ta σ H Q
/-- a part of a slice -/
def EvO (K : PySem.W.Frag) (m : Md) (to : TO) (Γ : List Sl) (o : Option Int) (Γ' : List Sl) : Prop :=
  ∀ σ I H L, Wd K Γ σ I H L → ∀ Q : Option Int → Hp → Prop, (∀ I' H' L', Wd K Γ' σ I' H' L' → Guar m I H L I' H' L' → Q o H') → to σ H Q
/-- a new resource -/
def EvR (K : PySem.W.Frag) (te : TE) (Γ : List Sl) (R : Res) (Γ' : List Sl) : Prop :=
  ∀ σ I H L, Wd K Γ σ I H L → ∀ Q : VK, (∀ v I' H' L', Wd K (.res v R :: Γ') (some v :: σ) I' H' L' → Step I H L I' H' L' → Q v H') → te σ H Q
/-- arguments: data, or the resource in a slot -/
def ArOk (K : PySem.W.Frag) (I : Hp) (σ : Sg) : List V → List (Sum D Nat) → Prop := fun vs as => ∀ i : Nat, (∀ v, vs[i]? = some v → ∃ a, as[i]? = some a ∧ match a with
  | .inl d => Is K I v d
  | .inr j => σ[j]? = some (some v)) ∧ vs.length = as.length

section
variable {K : PySem.W.Frag} {m : Md} {Γ Γ' Γ1 Γ2 Γ3 : List Sl} {ta tb te tx : TE} {t u : TT} {x y z d : D} {r : R2} {a b c : Bool}

theorem Ev.is {d' : D} (h : Ev K m te Γ d Γ') (e : d = d') : Ev K m te Γ d' Γ' := e ▸ h
theorem EvT.is {b' : Bool} (h : EvT K m t Γ b Γ') (e : b = b') : EvT K m t Γ b' Γ' := e ▸ h
theorem Ev.eff (h : Ev K .p te Γ d Γ') : Ev K m te Γ d Γ' := fun σ I H L w Q q => h σ I H L w Q fun v I' H' L' w' g hv => by
  obtain ⟨g1, rfl⟩ := g
  exact q v I' H' _ w' (Guar.new g1) hv
theorem EvT.eff (h : EvT K .p t Γ b Γ') : EvT K m t Γ b Γ' := fun σ I H L w Q q => h σ I H L w Q fun I' H' L' w' g => by
  obtain ⟨g1, rfl⟩ := g
  exact q I' H' _ w' (Guar.new g1)
/-! values -/
theorem ev_var {i : Nat} (h : Γ[i]? = some (.dat d)) : Ev K m (tVar i) Γ d Γ := fun σ I H L w Q q => by
  obtain ⟨v, e, hv⟩ := w.env.get h
  exact ⟨v, e, q v I H L w Guar.refl hv⟩
theorem ev_c {v : V} (h : ∀ I, Is K I v d) : Ev K m (tC v) Γ d Γ := fun σ I H L w Q q => q v I H L w Guar.refl (h I)
theorem ev_int {i : Int} : Ev K m (tC (.int i)) Γ (.int i) Γ := ev_c fun _ => .int i
theorem ev_str {s : Str} : Ev K m (tC (.str s)) Γ (.str s) Γ := ev_c fun _ => .str s
theorem ev_bl : Ev K m (tC (.bl b)) Γ (.bl b) Γ := ev_c fun _ => .bl b
theorem ev_non : Ev K m (tC .non) Γ .non Γ := ev_c fun _ => .non
theorem ev_raw {v : V} : Ev K m (tC v) Γ (.raw v) Γ := ev_c fun _ => .raw v
theorem ev_op (ha : Ev K m ta Γ x Γ1) (hb : Ev K m tb Γ1 y Γ2) (hr : OpD K r x y z) : Ev K m (tOp r ta tb) Γ z Γ2 := fun σ I H L w Q q =>
  ha σ I H L w _ fun v I1 H1 L1 w1 g1 hv => hb σ I1 H1 L1 w1 _ fun u I2 H2 L2 w2 g2 hu =>
    hr I2 H2 v u w2.sub (hv.mono g2.i) hu Q fun o I3 H3 n s ho => q o I3 H3 L2 (w2.new n s) ((g1.trans g2).trans (Guar.new n)) ho
theorem ev_un {r : V → Hp → VK → Prop} (ha : Ev K m ta Γ x Γ1) (hr : UnD K r x z) : Ev K m (tUn r ta) Γ z Γ1 := fun σ I H L w Q q =>
  ha σ I H L w _ fun v I1 H1 L1 w1 g1 hv => hr I1 H1 v w1.sub hv Q fun o I3 H3 n s ho => q o I3 H3 L1 (w1.new n s) (g1.trans (Guar.new n)) ho
/-! arguments -/
theorem ea_nil : EvA K m tNil Γ [] Γ := fun σ I H L w Q q => q [] I H L w Guar.refl .nil
theorem ea_cons {tr : TA} {ds : List D} (ha : Ev K m ta Γ x Γ1) (hr : EvA K m tr Γ1 ds Γ2) : EvA K m (tCons ta tr) Γ (x :: ds) Γ2 := fun σ I H L w Q q =>
  ha σ I H L w _ fun v I1 H1 L1 w1 g1 hv => hr σ I1 H1 L1 w1 _ fun vs I2 H2 L2 w2 g2 hvs => q (v :: vs) I2 H2 L2 w2 (g1.trans g2) (.cons (hv.mono g2.i) hvs)
theorem Wd.alloc {σ : Sg} {I H : Hp} {L : List Addr} {p : Addr} {o : HO} (w : Wd K Γ σ I H L) (hp : H p = none) : New I H (upd I p o) (upd H p o) ∧ Ex (upd I p o) (upd H p o) :=
  ⟨⟨Ex.new (w.sub.back hp), Ex.new hp, fun a u e => by
    by_cases h : a = p
    · subst h; exact .inr hp
    · rw [upd_ne h] at e; exact .inl e⟩, w.sub.upd2 hp⟩
theorem alloc {I H : Hp} {p : Addr} {o : HO} (s : Ex I H) (hp : H p = none) : New I H (upd I p o) (upd H p o) ∧ Ex (upd I p o) (upd H p o) :=
  ⟨⟨Ex.new (s.back hp), Ex.new hp, fun a u e => by
    by_cases h : a = p
    · subst h; exact .inr hp
    · rw [upd_ne h] at e; exact .inl e⟩, s.upd2 hp⟩
theorem ev_tup {ta : TA} {ds : List D} (h : EvA K m ta Γ ds Γ') (hl : ds.length ≤ sizeLine) : Ev K m (tTup ta) Γ (.tup ds) Γ' := fun σ I H L w Q q =>
  h σ I H L w _ fun vs I1 H1 L1 w1 g1 hv => ⟨by rw [hv.length]; exact hl, fun p hp => by
    obtain ⟨n, s⟩ := w1.alloc (o := .tup vs) hp
    exact q _ _ _ _ (w1.new n s) (g1.trans (Guar.new n)) (.tup (st_of upd_same) (hv.mono n.i))⟩
theorem ev_lst {ta : TA} {ds : List D} (h : EvA K m ta Γ ds Γ') (hl : ds.length ≤ sizeLine) : Ev K m (tLst ta) Γ (.lst ds) Γ' := fun σ I H L w Q q =>
  h σ I H L w _ fun vs I1 H1 L1 w1 g1 hv => ⟨by rw [hv.length]; exact hl, fun p hp => by
    obtain ⟨n, s⟩ := w1.alloc (o := .lst vs) hp
    exact q _ _ _ _ (w1.new n s) (g1.trans (Guar.new n)) (.lst (sq_of upd_same) (hv.mono n.i))⟩
/-- a new resource laid at p -/
theorem Wd.allocR {σ : Sg} {I H : Hp} {L : List Addr} {p : Addr} {o : HO} {R : Res} (w : Wd K Γ σ I H L) (hp : H p = none) (hR : R.P I (.ref p) (upd H p o) [p]) :
    Wd K (.res (.ref p) R :: Γ) (some (.ref p) :: σ) I (upd H p o) (p :: L) ∧ Step I H L I (upd H p o) (p :: L) := by
  have hpL : p ∉ L := fun h => w.live p h hp
  refine ⟨⟨.res (L1 := [p]) hR (w.env.keep (Ex.refl I) fun a h => upd_ne fun e => hpL (e ▸ h)), List.nodup_cons.mpr ⟨hpL, w.nd⟩, fun a h => ?_, fun a u e => ?_⟩, ⟨Ex.refl I, fun a u e _ => Ex.new hp a u e, fun a h => ?_, fun a u e => .inl e⟩⟩
  · rcases List.mem_cons.mp h with rfl | h
    · exact w.sub.back hp
    · exact w.fr a h
  · exact Ex.new hp a u (w.sub a u e)
  · rcases List.mem_cons.mp h with rfl | h
    · exact .inr hp
    · exact .inl h
theorem er_lst {ta : TA} {ds : List D} (h : EvA K m ta Γ ds Γ') (hl : ds.length ≤ sizeLine) : EvR K (tLst ta) Γ (Rlst K ds) Γ' := fun σ I H L w Q q =>
  h σ I H L w _ fun vs I1 H1 L1 w1 g1 hv => ⟨by rw [hv.length]; exact hl, fun p hp => by
    obtain ⟨w2, s2⟩ := w1.allocR (o := .lst vs) (R := Rlst K ds) hp ⟨p, vs, rfl, rfl, upd_same, hv⟩
    exact q _ _ _ _ w2 (g1.step.trans s2)⟩
/-- what is at a resource's slot is data from now on -/
theorem Wd.frz {σ : Sg} {I H : Hp} {L : List Addr} {i : Nat} {v : V} {ds : List D} (w : Wd K Γ σ I H L) (hi : Γ[i]? = some (.res v (Rlst K ds))) :
    ∃ I' L', Wd K (Γ.set i (.dat (.lst ds))) σ I' H L' ∧ Step I H L I' H L' ∧ Is K I' v (.lst ds) := by
  obtain ⟨h1, L1, Li, L2, rfl, ⟨a, xs, rfl, rfl, ha, hxs⟩, hk⟩ := w.env.getR hi
  have Ia : I a = none := w.fr a (by simp)
  have ei : Ex I (upd I a (.lst xs)) := Ex.new Ia
  have w0 : EnvOk K (upd I a (.lst xs)) H Γ σ (L1 ++ ([a] ++ L2)) := w.env.keep ei fun _ _ => rfl
  have hd : Is K (upd I a (.lst xs)) (.ref a) (.lst ds) := .lst (sq_of upd_same) (hxs.mono ei)
  have key : ∀ {Γ : List Sl} {σ : Sg} {L : List Addr} {i : Nat}, EnvOk K (upd I a (.lst xs)) H Γ σ L → L.Nodup → Γ[i]? = some (.res (.ref a) (Rlst K ds)) → ∃ L', L'.Sublist L ∧ a ∉ L' ∧ EnvOk K (upd I a (.lst xs)) H (Γ.set i (.dat (.lst ds))) σ L' := by
    intro Γ σ L i e
    induction e generalizing i with
    | nil => intro _ h; simp at h
    | em x e ih =>
      intro nd h
      cases i with
      | zero => simp at h
      | succ i => obtain ⟨L', s, na, r⟩ := ih nd (by simpa using h); exact ⟨L', s, na, .em x r⟩
    | dat p e ih =>
      intro nd h
      cases i with
      | zero => simp at h
      | succ i => obtain ⟨L', s, na, r⟩ := ih nd (by simpa using h); exact ⟨L', s, na, .dat p r⟩
    | @res Γ σ L1 L2 v R p e ih =>
      intro nd h
      have nd' := List.nodup_append.mp nd
      cases i with
      | zero =>
        simp at h
        obtain ⟨rfl, rfl⟩ := h
        obtain ⟨b, ys, e1, rfl, _, _⟩ := p
        cases e1
        exact ⟨L2, List.sublist_append_right _ _, fun h => nd'.2.2 a (by simp) a h rfl, .dat hd e⟩
      | succ i =>
        have h' : Γ[i]? = some (.res (.ref a) (Rlst K ds)) := by simpa using h
        obtain ⟨L', s, na, r⟩ := ih nd'.2.1 h'
        refine ⟨L1 ++ L', List.Sublist.append_left s _, fun h => ?_, .res p r⟩
        rcases List.mem_append.mp h with h | h
        · obtain ⟨_, M1, Mi, M2, hM, ⟨b, ys, e1, rfl, _, _⟩, _⟩ := e.getR h'
          cases e1
          exact nd'.2.2 a h a (by rw [hM]; simp) rfl
        · exact na h
  obtain ⟨L', s, na, r⟩ := key w0 w.nd hi
  have memL : ∀ b, b ∈ L' → b ∈ L1 ++ ([a] ++ L2) := fun b hb => s.subset hb
  refine ⟨upd I a (.lst xs), L', ⟨r, w.nd.sublist s, fun b hb => ?_, fun b o e => ?_⟩, ⟨ei, fun _ _ h _ => h, fun b hb => .inl (memL b hb), fun b o e => ?_⟩, hd⟩
  · have hne : b ≠ a := fun e => na (e ▸ hb)
    rw [upd_ne hne]
    exact w.fr b (memL b hb)
  · by_cases h : b = a
    · subst h; rw [upd_same] at e; cases e; exact ha
    · rw [upd_ne h] at e; exact w.sub b o e
  · by_cases h : b = a
    · subst h; exact .inr (.inl (by simp))
    · rw [upd_ne h] at e; exact .inl e
theorem EvR.frz {ds : List D} (h : EvR K te Γ (Rlst K ds) Γ') : Ev K .e te Γ (.lst ds) Γ' := fun σ I H L w Q q =>
  h σ I H L w Q fun v I1 H1 L1 w1 g1 => by
    obtain ⟨I2, L2, w2, s2, hv⟩ := w1.frz (i := 0) rfl
    have e2 := w2.env
    cases e2 with
    | dat p e => exact q v I2 H1 L2 ⟨e, w2.nd, w2.fr, w2.sub⟩ (Step.trans g1 s2) hv
/-! tests -/
theorem evt_test (h : Ev K m te Γ (.bl b) Γ') : EvT K m (tTest te) Γ b Γ' := fun σ I H L w Q q => h σ I H L w _ fun v I' H' L' w' g hv => by
  cases hv
  exact ⟨b, rfl, q I' H' L' w' g⟩
theorem evt_B (h : Ev K m te Γ (.bl b) Γ') : EvT K m (tB te) Γ b Γ' := fun σ I H L w Q q => h σ I H L w _ fun v I' H' L' w' g hv => by
  cases hv
  exact ⟨b, rfl, q I' H' L' w' g⟩
theorem evt_not (h : EvT K m t Γ b Γ') : EvT K m (tNot t) Γ (!b) Γ' := fun σ I H L w Q q => h σ I H L w _ fun I' H' L' w' g => q I' H' L' w' g
theorem evt_and (h1 : EvT K m t Γ a Γ1) (h2 : a = true → EvT K m u Γ1 b Γ2) (h3 : a = false → Γ1 = Γ2) : EvT K m (tAnd t u) Γ (a && b) Γ2 := fun σ I H L w Q q => h1 σ I H L w _ fun I1 H1 L1 w1 g1 => by
  cases a with
  | true =>
    show u σ H1 Q
    exact h2 rfl σ I1 H1 L1 w1 Q fun I2 H2 L2 w2 g2 => q I2 H2 L2 w2 (g1.trans g2)
  | false =>
    show Q false H1
    cases h3 rfl
    exact q I1 H1 L1 w1 g1
theorem evt_or (h1 : EvT K m t Γ a Γ1) (h2 : a = false → EvT K m u Γ1 b Γ2) (h3 : a = true → Γ1 = Γ2) : EvT K m (tOr t u) Γ (a || b) Γ2 := fun σ I H L w Q q => h1 σ I H L w _ fun I1 H1 L1 w1 g1 => by
  cases a with
  | false =>
    show u σ H1 Q
    exact h2 rfl σ I1 H1 L1 w1 Q fun I2 H2 L2 w2 g2 => q I2 H2 L2 w2 (g1.trans g2)
  | true =>
    show Q true H1
    cases h3 rfl
    exact q I1 H1 L1 w1 g1
theorem ev_andV (h1 : Ev K m ta Γ (.bl a) Γ1) (h2 : a = true → Ev K m tb Γ1 (.bl b) Γ2) (h3 : a = false → Γ1 = Γ2) : Ev K m (tAndV ta tb) Γ (.bl (a && b)) Γ2 := fun σ I H L w Q q => h1 σ I H L w _ fun v I1 H1 L1 w1 g1 hv => by
  cases hv
  refine ⟨a, rfl, ?_⟩
  cases a with
  | true =>
    show tb σ H1 Q
    exact h2 rfl σ I1 H1 L1 w1 Q fun v I2 H2 L2 w2 g2 hv => q v I2 H2 L2 w2 (g1.trans g2) hv
  | false =>
    show Q (.bl false) H1
    cases h3 rfl
    exact q _ I1 H1 L1 w1 g1 (.bl _)
theorem ev_orV (h1 : Ev K m ta Γ (.bl a) Γ1) (h2 : a = false → Ev K m tb Γ1 (.bl b) Γ2) (h3 : a = true → Γ1 = Γ2) : Ev K m (tOrV ta tb) Γ (.bl (a || b)) Γ2 := fun σ I H L w Q q => h1 σ I H L w _ fun v I1 H1 L1 w1 g1 hv => by
  cases hv
  refine ⟨a, rfl, ?_⟩
  cases a with
  | false =>
    show tb σ H1 Q
    exact h2 rfl σ I1 H1 L1 w1 Q fun v I2 H2 L2 w2 g2 hv => q v I2 H2 L2 w2 (g1.trans g2) hv
  | true =>
    show Q (.bl true) H1
    cases h3 rfl
    exact q _ I1 H1 L1 w1 g1 (.bl _)
theorem ev_notV (h1 : Ev K m ta Γ (.bl a) Γ1) : Ev K m (tNotV ta) Γ (.bl (!a)) Γ1 := fun σ I H L w Q q => h1 σ I H L w _ fun v I1 H1 L1 w1 g1 hv => by
  cases hv
  exact ⟨a, rfl, q _ I1 H1 L1 w1 g1 (.bl _)⟩
theorem ev_if (h : EvT K m t Γ b Γ1) (h1 : b = true → Ev K m ta Γ1 d Γ2) (h2 : b = false → Ev K m tb Γ1 d Γ2) : Ev K m (tIf t ta tb) Γ d Γ2 := fun σ I H L w Q q => h σ I H L w _ fun I1 H1 L1 w1 g1 => by
  cases b with
  | true =>
    show ta σ H1 Q
    exact h1 rfl σ I1 H1 L1 w1 Q fun v I2 H2 L2 w2 g2 hv => q v I2 H2 L2 w2 (g1.trans g2) hv
  | false =>
    show tb σ H1 Q
    exact h2 rfl σ I1 H1 L1 w1 Q fun v I2 H2 L2 w2 g2 hv => q v I2 H2 L2 w2 (g1.trans g2) hv
/-! slices' parts -/
theorem eo_none : EvO K m tNoPart Γ none Γ := fun σ I H L w Q q => q I H L w Guar.refl
theorem eo_some {i : Int} (h : Ev K m te Γ (.int i) Γ') : EvO K m (tPart te) Γ (some i) Γ' := fun σ I H L w Q q => h σ I H L w _ fun v I' H' L' w' g hv => by
  cases hv
  exact ⟨i, rfl, q I' H' L' w' g⟩
def SlD (K : PySem.W.Frag) (r : V → Option Int → Option Int → Hp → VK → Prop) (x : D) (lo hi : Option Int) (z : D) : Prop := ∀ I H v, Ex I H → Is K I v x → PureR K I H (r v lo hi) z
theorem ev_sl {r : V → Option Int → Option Int → Hp → VK → Prop} {tl th : TO} {lo hi : Option Int} (h : Ev K m te Γ x Γ1) (h1 : EvO K m tl Γ1 lo Γ2) (h2 : EvO K m th Γ2 hi Γ3) (hr : SlD K r x lo hi z) : Ev K m (tSl r te tl th) Γ z Γ3 := fun σ I H L w Q q =>
  h σ I H L w _ fun v I1 H1 L1 w1 g1 hv => h1 σ I1 H1 L1 w1 _ fun I2 H2 L2 w2 g2 => h2 σ I2 H2 L2 w2 _ fun I3 H3 L3 w3 g3 =>
    hr I3 H3 v w3.sub (hv.mono (g2.trans g3).i) Q fun o I4 H4 n s ho => q o I4 H4 L3 (w3.new n s) ((g1.trans (g2.trans g3)).trans (Guar.new n)) ho
/-! calls of built-ins -/
theorem ev_cb {r : List V → Hp → VK → Prop} {ta : TA} {ds : List D} (h : EvA K m ta Γ ds Γ') (hr : CallD K r ds z) : Ev K m (tCB r ta) Γ z Γ' := fun σ I H L w Q q =>
  h σ I H L w _ fun vs I1 H1 L1 w1 g1 hv => hr I1 H1 vs w1.sub hv Q fun o I3 H3 n s ho => q o I3 H3 L1 (w1.new n s) (g1.trans (Guar.new n)) ho

/-! ### contracts of defs -/
/-- a def with data alone as arguments -/
def Con (K : PySem.W.Frag) (sp : Sp) (pre : List Sl) (d : D) (post : List Sl) : Prop := ∀ vs I H L, Wd K pre (vs.map some) I H L → ∀ (Q : VK) (E : XK), (∀ v I' H' L', Wd K post (vs.map some) I' H' L' → Step I H L I' H' L' → Is K I' v d → Q v H') → sp vs H Q E
def ConR (K : PySem.W.Frag) (sp : Sp) (pre : List Sl) (R : Res) (post : List Sl) : Prop := ∀ vs I H L, Wd K pre (vs.map some) I H L → ∀ (Q : VK) (E : XK), (∀ v I' H' L', Wd K (.res v R :: post) (some v :: vs.map some) I' H' L' → Step I H L I' H' L' → Q v H') → sp vs H Q E
theorem env_dats {I H : Hp} : ∀ {ds : List D} {vs : List V}, IsA K I vs ds → EnvOk K I H (ds.map .dat) (vs.map some) []
  | [], _, h => by cases h; exact .nil
  | d :: ds, _, h => by
    cases h with
    | cons h1 h2 => exact .dat h1 (env_dats h2)
theorem wd_dats {I H : Hp} {ds : List D} {vs : List V} (h : IsA K I vs ds) (s : Ex I H) : Wd K (ds.map .dat) (vs.map some) I H [] := ⟨env_dats h, List.nodup_nil, fun a h => by simp at h, s⟩
theorem Step.toNew {I H I' H' : Hp} {L' : List Addr} (s : Step I H [] I' H' L') : New I H I' H' := ⟨s.i, fun a o h => s.keep a o h (by simp), fun a o h => (s.n a o h).elim .inl fun z => z.elim (fun q => by simp at q) .inr⟩
theorem ev_call0 {sp : Sp} {ds : List D} {E : XK} {ta : TA} {post : List Sl} (h : EvA K m ta Γ ds Γ') (hs : Con K sp (ds.map .dat) z post) : Ev K m (tCall sp [] E ta) Γ z Γ' := fun σ I H L w Q q =>
  h σ I H L w _ fun vs I1 H1 L1 w1 g1 hv => by
    show sp (vs ++ []) H1 Q E
    rw [List.append_nil]
    exact hs vs I1 H1 [] (wd_dats hv w1.sub) Q E fun v I2 H2 L2 w2 s2 hv2 => q v I2 H2 L1 (w1.new s2.toNew w2.sub) (g1.trans (Guar.new s2.toNew)) hv2
/-- the first argument the resource at slot i -/
theorem ev_call1 {sp : Sp} {ds : List D} {E : XK} {ta : TA} {i : Nat} {v : V} {R R' : Res} (h : EvA K m ta Γ ds Γ') (hi : Γ'[i]? = some (.res v R)) (h0 : Γ[i]? = some (.res v R)) (hs : Con K sp (.res v R :: ds.map .dat) z (.res v R' :: ds.map .dat)) :
    Ev K .e (tCall sp [] E (tCons (tVar i) ta)) Γ z (Γ'.set i (.res v R')) := fun σ I H L w Q q => by
  obtain ⟨hσ, _⟩ := w.stepR h0
  refine ⟨v, hσ, ?_⟩
  refine h σ I H L w _ fun vs I1 H1 L1 w1 g1 hv => ?_
  show sp (v :: vs ++ []) H1 Q E
  rw [List.append_nil]
  obtain ⟨_, Li, hp, nd, fr, fin⟩ := w1.stepR hi
  refine hs (v :: vs) I1 H1 Li ⟨?_, nd, fr, w1.sub⟩ Q E fun u I2 H2 L2 w2 s2 hu => ?_
  · have := EnvOk.res (L1 := Li) (L2 := []) hp (env_dats (H := H1) hv)
    rw [List.append_nil] at this
    exact this
  · have e2 := w2.env
    cases e2 with
    | @res _ _ M1 M2 _ _ p e =>
      have hM : M2 = [] := by
        clear w2 s2
        have : ∀ {ds : List D} {vs : Sg} {L : List Addr}, EnvOk K I2 H2 (ds.map .dat) vs L → L = [] := by
          intro ds
          induction ds with
          | nil => intro vs L h; cases h; rfl
          | cons d ds ih => intro vs L h; cases h with | dat _ e => exact ih e
        exact this e
      subst hM
      have s2' : Step I1 H1 Li I2 H2 M1 := by simpa using s2
      have nd2 : M1.Nodup := by simpa using w2.nd
      obtain ⟨L', w3, s3⟩ := fin I2 H2 R' M1 s2' nd2 (fun a h => w2.fr a (by simp [h])) w2.sub p
      exact q u I2 H2 L' w3 (Step.trans g1.step s3) hu

/-! ### statements -/
inductive Out where
  | nx (Γ : List Sl) | lp (Γ : List Sl) | rt (d : D) (Γ : List Sl) | rtR (R : Res) (Γ : List Sl) | bk (Γ : List Sl) | ct (Γ : List Sl)
def Post (K : PySem.W.Frag) (Dn : Ends) (I H : Hp) (L : List Addr) : Out → Prop
  | .nx Γ => ∀ σ' I' H' L', Wd K Γ σ' I' H' L' → Step I H L I' H' L' → Dn.nx σ' H'
  | .lp Γ => ∀ σ' I' H' L', Wd K Γ σ' I' H' L' → Step I H L I' H' L' → Dn.nx σ' H' ∧ Dn.ct σ' H'
  | .bk Γ => ∀ σ' I' H' L', Wd K Γ σ' I' H' L' → Step I H L I' H' L' → Dn.bk σ' H'
  | .ct Γ => ∀ σ' I' H' L', Wd K Γ σ' I' H' L' → Step I H L I' H' L' → Dn.ct σ' H'
  | .rt d Γ => ∀ v σ' I' H' L', Wd K Γ σ' I' H' L' → Step I H L I' H' L' → Is K I' v d → Dn.rt v H'
  | .rtR R Γ => ∀ v σ' I' H' L', Wd K (.res v R :: Γ) (some v :: σ') I' H' L' → Step I H L I' H' L' → Dn.rt v H'
theorem Post.later {Dn : Ends} {I H I1 H1 : Hp} {L L1 : List Addr} (s : Step I H L I1 H1 L1) : ∀ {o : Out}, Post K Dn I H L o → Post K Dn I1 H1 L1 o
  | .nx _, p => fun σ' I' H' L' w g => p σ' I' H' L' w (s.trans g)
  | .lp _, p => fun σ' I' H' L' w g => p σ' I' H' L' w (s.trans g)
  | .bk _, p => fun σ' I' H' L' w g => p σ' I' H' L' w (s.trans g)
  | .ct _, p => fun σ' I' H' L' w g => p σ' I' H' L' w (s.trans g)
  | .rt _ _, p => fun v σ' I' H' L' w g hv => p v σ' I' H' L' w (s.trans g) hv
  | .rtR _ _, p => fun v σ' I' H' L' w g => p v σ' I' H' L' w (s.trans g)
def Run (K : PySem.W.Frag) (ts : TS) (Γ : List Sl) (o : Out) : Prop := ∀ σ I H L, Wd K Γ σ I H L → ∀ Dn : Ends, Post K Dn I H L o → ts Dn σ H
def Out.isNx : Out → Bool
  | .nx _ => true
  | .lp _ => true
  | _ => false
variable {ts tu tw : TS} {o : Out}
theorem Run.is {o' : Out} (h : Run K ts Γ o) (e : o = o') : Run K ts Γ o' := e ▸ h
theorem Run.lp (h : Run K ts Γ (.nx Γ1)) : Run K ts Γ (.lp Γ1) := fun σ I H L w Dn p => h σ I H L w Dn fun σ' I' H' L' w' s => (p σ' I' H' L' w' s).1
theorem Run.lpC (h : Run K ts Γ (.ct Γ1)) : Run K ts Γ (.lp Γ1) := fun σ I H L w Dn p => h σ I H L w Dn fun σ' I' H' L' w' s => (p σ' I' H' L' w' s).2
theorem run_next : Run K tNext Γ (.nx Γ) := fun σ I H L w Dn p => p σ I H L w (Step.refl I H L)
theorem run_seq (h1 : Run K ts Γ (.nx Γ1)) (h2 : Run K tu Γ1 o) : Run K (tSeq ts tu) Γ o := fun σ I H L w Dn p =>
  h1 σ I H L w { Dn with nx := tu Dn } fun σ' I' H' L' w' s => h2 σ' I' H' L' w' Dn (p.later s)
theorem run_end (h1 : Run K ts Γ o) (e : o.isNx = false) : Run K (tSeq ts tu) Γ o := fun σ I H L w Dn p => by
  cases o with
  | nx _ => cases e
  | lp _ => cases e
  | rt d Γ => exact h1 σ I H L w { Dn with nx := tu Dn } p
  | rtR d Γ => exact h1 σ I H L w { Dn with nx := tu Dn } p
  | bk Γ => exact h1 σ I H L w { Dn with nx := tu Dn } p
  | ct Γ => exact h1 σ I H L w { Dn with nx := tu Dn } p
/-- a step that changes what is told alone -/
theorem Run.ghost (g : ∀ σ I H L, Wd K Γ σ I H L → ∃ I' L', Wd K Γ1 σ I' H L' ∧ Step I H L I' H L') (h : Run K ts Γ1 o) : Run K ts Γ o := fun σ I H L w Dn p => by
  obtain ⟨I', L', w', s⟩ := g σ I H L w
  exact h σ I' H L' w' Dn (p.later s)
theorem Run.frz {i : Nat} {v : V} {ds : List D} (hi : Γ[i]? = some (.res v (Rlst K ds))) (h : Run K ts (Γ.set i (.dat (.lst ds))) o) : Run K ts Γ o :=
  Run.ghost (fun σ I H L w => let ⟨I', L', w', s, _⟩ := w.frz hi; ⟨I', L', w', s⟩) h
theorem Run.weak (k : Wk Γ Γ1) (h : Run K ts Γ1 o) : Run K ts Γ o := Run.ghost (fun σ I H L w => let ⟨L', w', s⟩ := w.weak k; ⟨I, L', w', s⟩) h
theorem Run.nxWeak (h : Run K ts Γ (.nx Γ1)) (k : Wk Γ1 Γ2) : Run K ts Γ (.nx Γ2) := fun σ I H L w Dn p => h σ I H L w Dn fun σ' I' H' L' w' s => by
  obtain ⟨L2, w2, s2⟩ := w'.weak k
  exact p σ' I' H' L2 w2 (s.trans s2)
theorem run_asg {i : Nat} (h : Ev K m te Γ d Γ1) : Run K (tAsg te (gName i)) Γ (.nx (Γ1.set i (.dat d))) := fun σ I H L w Dn p => h σ I H L w _ fun v I1 H1 L1 w1 g1 hv => by
  obtain ⟨L2, w2, s2⟩ := w1.setD hv i
  exact p _ I1 H1 L2 w2 (g1.step.trans s2)
theorem Wd.setR {σ : Sg} {I H : Hp} {L : List Addr} {i : Nat} {v : V} {R : Res} (w : Wd K (.res v R :: Γ) (some v :: σ) I H L) (hi : i < Γ.length) : ∃ L', Wd K (Γ.set i (.res v R)) (σ.set i (some v)) I H L' ∧ Step I H L I H L' := by
  have key : ∀ {Γ : List Sl} {σ : Sg} {L2 : List Addr} {i : Nat} {L1 : List Addr}, i < Γ.length → EnvOk K I H Γ σ L2 → R.P I v H L1 → (L1 ++ L2).Nodup → ∃ L', L'.Nodup ∧ (∀ a ∈ L', a ∈ L1 ++ L2) ∧ EnvOk K I H (Γ.set i (.res v R)) (σ.set i (some v)) L' := by
    intro Γ σ L2 i L1 hi e hp
    induction e generalizing i with
    | nil => simp at hi
    | em x e ih =>
      intro nd
      cases i with
      | zero => exact ⟨_, nd, fun a h => h, .res hp e⟩
      | succ i => obtain ⟨L', n, s, r⟩ := ih (by simpa using hi) nd; exact ⟨L', n, s, .em x r⟩
    | dat p e ih =>
      intro nd
      cases i with
      | zero => exact ⟨_, nd, fun a h => h, .res hp e⟩
      | succ i => obtain ⟨L', n, s, r⟩ := ih (by simpa using hi) nd; exact ⟨L', n, s, .dat p r⟩
    | @res Γ σ M1 M2 v0 R0 p e ih =>
      intro nd
      have nd1 := List.nodup_append.mp nd
      have nd2 := List.nodup_append.mp nd1.2.1
      have ndx : (L1 ++ M2).Nodup := List.nodup_append.mpr ⟨nd1.1, nd2.2.1, fun a h b hb => nd1.2.2 a h b (by simp [hb])⟩
      cases i with
      | zero => exact ⟨_, ndx, fun a h => by simp at h ⊢; rcases h with h | h; exact .inl h; exact .inr (.inr h), .res hp e⟩
      | succ i =>
        obtain ⟨L', n, s, r⟩ := ih (by simpa using hi) ndx
        refine ⟨M1 ++ L', List.nodup_append.mpr ⟨nd2.1, n, fun a h b hb e => ?_⟩, fun a h => ?_, .res p r⟩
        · subst e
          rcases List.mem_append.mp (s a hb) with q | q
          · exact nd1.2.2 a q a (by simp [h]) rfl
          · exact nd2.2.2 a h a q rfl
        · rcases List.mem_append.mp h with h | h
          · simp [h]
          · have := s a h; simp at this ⊢; rcases this with q | q; exact .inl q; exact .inr (.inr q)
  have e := w.env
  cases e with
  | @res _ _ L1 L2 _ _ p e =>
    obtain ⟨L', n, s, r⟩ := key hi e p w.nd
    exact ⟨L', ⟨r, n, fun a h => w.fr a (s a h), w.sub⟩, ⟨Ex.refl I, fun _ _ h _ => h, fun a h => .inl (s a h), fun _ _ h => .inl h⟩⟩
/-- x = a new resource, then the rest -/
theorem run_asgR {i : Nat} {R : Res} (h : EvR K te Γ R Γ1) (hi : i < Γ1.length) (k : ∀ v, Run K tu (Γ1.set i (.res v R)) o) : Run K (tSeq (tAsg te (gName i)) tu) Γ o := fun σ I H L w Dn p =>
  h σ I H L w _ fun v I1 H1 L1 w1 g1 => by
    obtain ⟨L2, w2, s2⟩ := w1.setR hi
    exact k v _ I1 H1 L2 w2 Dn (p.later (g1.trans s2))
theorem run_ret (h : Ev K m te Γ d Γ1) : Run K (tRet te) Γ (.rt d Γ1) := fun σ I H L w Dn p => h σ I H L w _ fun v I1 H1 L1 w1 g1 hv => p v σ I1 H1 L1 w1 g1.step hv
theorem run_retR {R : Res} (h : EvR K te Γ R Γ1) : Run K (tRet te) Γ (.rtR R Γ1) := fun σ I H L w Dn p => h σ I H L w _ fun v I1 H1 L1 w1 g1 => p v σ I1 H1 L1 w1 g1
theorem run_retN : Run K tRetN Γ (.rt .non Γ) := fun σ I H L w Dn p => p .non σ I H L w (Step.refl I H L) .non
theorem run_drop (h : Ev K m te Γ d Γ1) : Run K (tDrop te) Γ (.nx Γ1) := fun σ I H L w Dn p => h σ I H L w _ fun v I1 H1 L1 w1 g1 hv => p σ I1 H1 L1 w1 g1.step
theorem run_brk : Run K tBreak Γ (.bk Γ) := fun σ I H L w Dn p => p σ I H L w (Step.refl I H L)
theorem run_cont : Run K tCont Γ (.ct Γ) := fun σ I H L w Dn p => p σ I H L w (Step.refl I H L)
theorem run_if (h : EvT K m t Γ b Γ1) (h1 : b = true → Run K ts Γ1 o) (h2 : b = false → Run K tu Γ1 o) : Run K (tIfS t ts tu) Γ o := fun σ I H L w Dn p => h σ I H L w _ fun I1 H1 L1 w1 g1 => by
  cases b with
  | true =>
    show ts Dn σ H1
    exact h1 rfl σ I1 H1 L1 w1 Dn (p.later g1.step)
  | false =>
    show tu Dn σ H1
    exact h2 rfl σ I1 H1 L1 w1 Dn (p.later g1.step)
/-- if .. whose one way goes on and whose other way may leave, then the rest -/
theorem run_ifSeq (h : EvT K m t Γ b Γ1) (h1 : b = true → Run K (tSeq ts tw) Γ1 o) (h2 : b = false → Run K (tSeq tu tw) Γ1 o) : Run K (tSeq (tIfS t ts tu) tw) Γ o := fun σ I H L w Dn p => h σ I H L w _ fun I1 H1 L1 w1 g1 => by
  cases b with
  | true =>
    show ts { Dn with nx := tw Dn } σ H1
    exact h1 rfl σ I1 H1 L1 w1 Dn (p.later g1.step)
  | false =>
    show tu { Dn with nx := tw Dn } σ H1
    exact h2 rfl σ I1 H1 L1 w1 Dn (p.later g1.step)
theorem run_nextSeq (h : Run K ts Γ o) : Run K (tSeq tNext ts) Γ o := fun σ I H L w Dn p => h σ I H L w Dn p
end
end FD

/-! FD2: walks: for loops, comprehensions. -/
namespace FD
open PySem PySem.Spec PyProof.Rows L2

def Sl.isRes : Sl → Bool
  | .res _ _ => true
  | _ => false
def Sl.isEm : Sl → Bool
  | .em => true
  | _ => false
/-- what a walk gives: the data ds, one a turn -/
def ItD (K : PySem.W.Frag) (m : Md) (wi : TI) (Γ : List Sl) (ds : List D) (Γ1 : List Sl) : Prop :=
  ∀ σ I H L, Wd K Γ σ I H L → ∀ R : It → Hp → Prop, (∀ J I1 H1 L1 (G : Hp → Prop) Y, Wd K Γ1 σ I1 H1 L1 → Guar m I H L I1 H1 L1 → (∀ H', Ex I1 H' → G H') → Walk J ds.length G Y →
    (∀ i I2 H2 x H3, i < ds.length → Ex I1 I2 → Ex I2 H2 → Y i H2 x H3 → ∃ d I3, ds[i]? = some d ∧ New I2 H2 I3 H3 ∧ Ex I3 H3 ∧ Is K I3 x d) → R J H1) → wi σ H R
/-- a target takes a value -/
def RunG (K : PySem.W.Frag) (g : TG) (js : List Nat) (d : D) (Γ Γ' : List Sl) : Prop := ∀ v σ I H L, Wd K Γ σ I H L → Is K I v d → ∀ Q : Sg → Hp → Prop,
  (∀ σ', Wd K Γ' σ' I H L → (∀ vs : List Nat, (∀ j ∈ js, j ∈ vs) → wipe σ' vs = wipe σ vs) → Q σ' H) → g v σ H Q
def RunGs (K : PySem.W.Frag) (g : TGs) (js : List Nat) (ds : List D) (Γ Γ' : List Sl) : Prop := ∀ vs σ I H L, Wd K Γ σ I H L → IsA K I vs ds → ∀ Q : Sg → Hp → Prop,
  (∀ σ', Wd K Γ' σ' I H L → (∀ vs : List Nat, (∀ j ∈ js, j ∈ vs) → wipe σ' vs = wipe σ vs) → Q σ' H) → g vs σ H Q
/-- a turn of a for -/
def Turn (K : PySem.W.Frag) (g : TG) (tb : TS) (d : D) (Γ : List Sl) (o : Out) : Prop := ∀ v σ I H L, Wd K Γ σ I H L → Is K I v d → ∀ Dn : Ends, Post K Dn I H L o → g v σ H fun σ2 H2 => tb Dn σ2 H2

section
variable {K : PySem.W.Frag} {m : Md} {Γ Γ' Γ1 Γ2 Γ3 : List Sl} {ta tb te tx tl : TE} {t u : TT} {x y z d : D} {r : R2} {a b c : Bool} {I H I' H' : Hp} {L L' : List Addr}

theorem EnvOk.setN {v : V} {d : D} (q : Is K I v d) : ∀ {Γ : List Sl} {σ : Sg} {L : List Addr} (i : Nat), (Γ[i]?.any Sl.isRes) = false → EnvOk K I H Γ σ L → EnvOk K I H (Γ.set i (.dat d)) (σ.set i (some v)) L
  | _, _, _, _, _, .nil => .nil
  | _, _, _, 0, _, .em _ e => .dat q e
  | _, _, _, 0, _, .dat _ e => .dat q e
  | _, _, _, 0, h, .res (L1 := L1) _ e => by simp [Sl.isRes] at h
  | _, _, _, i + 1, h, .em x e => .em x (EnvOk.setN q i (by simpa using h) e)
  | _, _, _, i + 1, h, .dat p e => .dat p (EnvOk.setN q i (by simpa using h) e)
  | _, _, _, i + 1, h, .res (L1 := L1) p e => .res p (EnvOk.setN q i (by simpa using h) e)
/-- the values of forgotten slots do not matter -/
theorem EnvOk.setX (y : Option V) : ∀ {Γ : List Sl} {σ : Sg} {L : List Addr} (i : Nat), (Γ[i]?.all Sl.isEm) = true → EnvOk K I H Γ σ L → EnvOk K I H Γ (σ.set i y) L
  | _, _, _, _, _, .nil => .nil
  | _, _, _, 0, _, .em _ e => .em _ e
  | _, _, _, 0, h, .dat _ e => by simp [Sl.isEm] at h
  | _, _, _, 0, h, .res (L1 := L1) _ e => by simp [Sl.isEm] at h
  | _, _, _, i + 1, h, .em x e => .em x (EnvOk.setX y i (by simpa using h) e)
  | _, _, _, i + 1, h, .dat p e => .dat p (EnvOk.setX y i (by simpa using h) e)
  | _, _, _, i + 1, h, .res (L1 := L1) p e => .res p (EnvOk.setX y i (by simpa using h) e)
theorem EnvOk.wipe {σ : Sg} (h : EnvOk K I H Γ σ L) : ∀ {vs : List Nat}, (∀ k ∈ vs, (Γ[k]?.all Sl.isEm) = true) → EnvOk K I H Γ (wipe σ vs) L
  | [], _ => h
  | v :: vs, q => EnvOk.setX none v (q v (by simp)) (EnvOk.wipe h fun k hk => q k (by simp [hk]))
theorem EnvOk.unset (y : Option V) : ∀ {Γ : List Sl} {σ : Sg} {L : List Addr} (i : Nat), (Γ[i]?.all Sl.isEm) = true → EnvOk K I H Γ (σ.set i y) L → EnvOk K I H Γ σ L
  | _, [], _, _, _, e => by simpa using e
  | _, s :: σ, _, 0, h, e => by
    rw [List.set_cons_zero] at e
    cases e with
    | em _ e => exact .em _ e
    | dat _ e => simp [Sl.isEm] at h
    | res _ e => simp [Sl.isEm] at h
  | _, s :: σ, _, i + 1, h, e => by
    rw [List.set_cons_succ] at e
    cases e with
    | em _ e => exact .em _ (EnvOk.unset y i (by simpa using h) e)
    | dat p e => exact .dat p (EnvOk.unset y i (by simpa using h) e)
    | res p e => exact .res p (EnvOk.unset y i (by simpa using h) e)
theorem EnvOk.unwipe {σ : Sg} : ∀ {vs : List Nat}, (∀ k ∈ vs, (Γ[k]?.all Sl.isEm) = true) → EnvOk K I H Γ (L2.wipe σ vs) L → EnvOk K I H Γ σ L
  | [], _, h => h
  | v :: vs, q, h => EnvOk.unwipe (fun k hk => q k (by simp [hk])) (EnvOk.unset none v (q v (by simp)) h)
theorem set_comm' {α : Type} (l : List α) (i j : Nat) (x : α) : (l.set i x).set j x = (l.set j x).set i x := by
  by_cases h : i = j
  · subst h; rfl
  · exact List.set_comm x x h
theorem wipe_set_mem : ∀ {vs : List Nat} {σ : Sg} {j : Nat} {y : Option V}, j ∈ vs → wipe (σ.set j y) vs = wipe σ vs
  | [], _, _, _, h => by simp at h
  | v :: vs, σ, j, y, h => by
    by_cases hj : j ∈ vs
    · show (wipe (σ.set j y) vs).set v none = (wipe σ vs).set v none
      rw [wipe_set_mem hj]
    · have e : j = v := by simpa [hj] using h
      subst e
      have sw : ∀ (vs : List Nat) (σ : Sg), j ∉ vs → wipe (σ.set j y) vs = (wipe σ vs).set j y := by
        intro vs
        induction vs with
        | nil => intro σ _; rfl
        | cons w ws ih =>
          intro σ h
          simp only [List.mem_cons, not_or] at h
          show (wipe (σ.set j y) ws).set w none = ((wipe σ ws).set w none).set j y
          rw [ih σ h.2, List.set_comm _ _ h.1]
      show (wipe (σ.set j y) vs).set j none = (wipe σ vs).set j none
      rw [sw vs σ hj, List.set_set]
theorem wipe_set_self (vs : List Nat) (σ : Sg) (v : Nat) : wipe (σ.set v none) vs = (wipe σ vs).set v none := by
  induction vs generalizing σ with
  | nil => rfl
  | cons w ws ih =>
    show (wipe (σ.set v none) ws).set w none = ((wipe σ ws).set w none).set v none
    rw [ih, set_comm']
theorem wipe_idem (vs : List Nat) (σ : Sg) : wipe (wipe σ vs) vs = wipe σ vs := by
  induction vs generalizing σ with
  | nil => rfl
  | cons v vs ih =>
    show (wipe ((wipe σ vs).set v none) vs).set v none = (wipe σ vs).set v none
    rw [wipe_set_self, ih, List.set_set]

/-! targets -/
theorem rg_name {j : Nat} (h : (Γ[j]?.any Sl.isRes) = false) : RunG K (gName j) [j] d Γ (Γ.set j (.dat d)) := fun v σ I H L w hv Q q =>
  q _ ⟨w.env.setN hv j h, w.nd, w.fr, w.sub⟩ fun vs hj => wipe_set_mem (hj j (by simp))
theorem rg_nil : RunGs K gNil [] [] Γ Γ := fun vs σ I H L w hv Q q => by
  cases hv
  exact ⟨rfl, q σ w fun _ _ => rfl⟩
theorem rg_cons {g : TG} {gs : TGs} {js ks : List Nat} {ds : List D} (h : RunG K g js d Γ Γ1) (h2 : RunGs K gs ks ds Γ1 Γ2) : RunGs K (gCons g gs) (js ++ ks) (d :: ds) Γ Γ2 := fun vs σ I H L w hv Q q => by
  cases hv with
  | cons hv1 hv2 => exact ⟨_, _, rfl, h _ σ I H L w hv1 _ fun σ1 w1 e1 => h2 _ σ1 I H L w1 hv2 _ fun σ2 w2 e2 => q σ2 w2 fun vs hj => (e2 vs fun j h => hj j (by simp [h])).trans (e1 vs fun j h => hj j (by simp [h]))⟩
theorem rg_tup {n : Nat} {gs : TGs} {js : List Nat} {ds : List D} (h : RunGs K gs js ds Γ Γ1) (hn : ds.length = n) : RunG K (gTup K n gs) js (.tup ds) Γ Γ1 := fun v σ I H L w hv Q q => by
  cases hv with
  | tup h1 h2 => exact ⟨_, _, rfl, w.sub.t h1, by rw [h2.length]; exact hn, h _ σ I H L w h2 Q q⟩
theorem turn_g {g : TG} {js : List Nat} {ts : TS} {o : Out} (h : RunG K g js d Γ Γ1) (k : Run K ts Γ1 o) : Turn K g ts d Γ o := fun v σ I H L w hv Dn p => h v σ I H L w hv _ fun σ' w' _ => k σ' I H L w' Dn p
theorem Turn.ghost {g : TG} {ts : TS} {o : Out} (gh : ∀ σ I H L, Wd K Γ σ I H L → ∃ I' L', Wd K Γ1 σ I' H L' ∧ Step I H L I' H L') (h : Turn K g ts d Γ1 o) : Turn K g ts d Γ o := fun v σ I H L w hv Dn p => by
  obtain ⟨I', L', w', s⟩ := gh σ I H L w
  exact h v σ I' H L' w' (hv.mono s.i) Dn (p.later s)

/-! what walks -/
theorem it_list {ds : List D} (h : Ev K m tl Γ (.lst ds) Γ1) : ItD K m (iList K tl) Γ ds Γ1 := fun σ I H L w R k => h σ I H L w _ fun v I1 H1 L1 w1 g1 hv => by
  cases hv with
  | lst hs ha =>
    rename_i a xs
    have hl := ha.length
    refine ⟨a, rfl, ⟨xs, (w1.sub.l hs)⟩, k _ I1 H1 L1 (fun H' => SqL K H' a xs) (YAt xs) w1 g1 (fun H' e => e.l hs) (hl ▸ walk_list) fun i I2 H2 x H3 hi e1 e2 y => ?_⟩
    obtain ⟨rfl, hx⟩ := y
    obtain ⟨d, hd, hv⟩ := ha.get hx
    exact ⟨d, I2, hd, New.refl I2 _, e2, hv.mono e1⟩
theorem it_tup {ds : List D} (h : Ev K m tl Γ (.tup ds) Γ1) : ItD K m (iTup K tl) Γ ds Γ1 := fun σ I H L w R k => h σ I H L w _ fun v I1 H1 L1 w1 g1 hv => by
  cases hv with
  | tup hs ha =>
    rename_i a xs
    have hl := ha.length
    refine ⟨a, rfl, ⟨xs, w1.sub.t hs⟩, k _ I1 H1 L1 _ (YAt xs) w1 g1 (fun H' e => e.t hs) (hl ▸ walk_tup) fun i I2 H2 x H3 hi e1 e2 y => ?_⟩
    obtain ⟨rfl, hx⟩ := y
    obtain ⟨d, hd, hv⟩ := ha.get hx
    exact ⟨d, I2, hd, New.refl I2 _, e2, hv.mono e1⟩
def intsD (lo : Int) (n : Nat) : List D := (List.range n).map fun i => .int (lo + (i : Nat))
theorem it_rng1 {ta : TA} {n : Int} (h : EvA K m ta Γ [.int n] Γ1) (hn : -(2 ^ 62) ≤ n ∧ n < 2 ^ 62) : ItD K m (iRng1 ta) Γ (intsD 0 n.toNat) Γ1 := fun σ I H L w R k => h σ I H L w _ fun vs I1 H1 L1 w1 g1 hv => by
  cases hv with
  | cons h1 h2 =>
    cases h1
    cases h2
    refine ⟨n, rfl, hn.1, hn.2, k _ I1 H1 L1 (fun _ => True) (YFn fun i => .int (0 + (i : Nat))) w1 g1 (fun _ _ => trivial) (by simp only [intsD, List.length_map, List.length_range]; exact walk_range) fun i I2 H2 x H3 hi e1 e2 y => ?_⟩
    obtain ⟨rfl, rfl⟩ := y
    have hi' : i < n.toNat := by simpa [intsD] using hi
    exact ⟨.int (0 + (i : Nat)), I2, by simp [intsD, hi'], New.refl I2 _, e2, .int _⟩
theorem it_rng2 {ta : TA} {lo n : Int} (h : EvA K m ta Γ [.int lo, .int n] Γ1) (hn : -(2 ^ 62) ≤ lo ∧ lo < 2 ^ 62 ∧ -(2 ^ 62) ≤ n ∧ n < 2 ^ 62) : ItD K m (iRng2 ta) Γ (intsD lo (n - lo).toNat) Γ1 := fun σ I H L w R k => h σ I H L w _ fun vs I1 H1 L1 w1 g1 hv => by
  cases hv with
  | cons h1 h2 =>
    cases h1
    cases h2 with
    | cons h2 h3 =>
      cases h2
      cases h3
      refine ⟨lo, n, rfl, hn, k _ I1 H1 L1 (fun _ => True) (YFn fun i => .int (lo + (i : Nat))) w1 g1 (fun _ _ => trivial) (by simp only [intsD, List.length_map, List.length_range]; exact walk_range) fun i I2 H2 x H3 hi e1 e2 y => ?_⟩
      obtain ⟨rfl, rfl⟩ := y
      have hi' : i < (n - lo).toNat := by simpa [intsD] using hi
      exact ⟨.int (lo + (i : Nat)), I2, by simp [intsD, hi'], New.refl I2 _, e2, .int _⟩
def enumD (ds : List D) : List D := ds.zipIdx.map fun p => .tup [.int (p.2 : Nat), p.1]
theorem it_enum {ta : TA} {ds : List D} (h : EvA K m ta Γ [.lst ds] Γ1) : ItD K m (iEnum K ta) Γ (enumD ds) Γ1 := fun σ I H L w R k => h σ I H L w _ fun vs I1 H1 L1 w1 g1 hv => by
  cases hv with
  | cons h1 h2 =>
    cases h2
    cases h1 with
    | lst hs ha =>
      rename_i a xs
      have hl := ha.length
      refine ⟨a, xs, rfl, (w1.sub.l hs), k _ I1 H1 L1 (fun H' => SqL K H' a xs) _ w1 g1 (fun H' e => e.l hs) (by simp only [enumD, List.length_map, List.length_zipIdx, ← hl]; exact walk_enum) fun i I2 H2 v H3 hi e1 e2 y => ?_⟩
      obtain ⟨T, x, z, rfl, hT, rfl, hx, hz⟩ := y
      cases hx
      obtain ⟨d, hd, hv⟩ := ha.get hz
      have hdl : i < ds.length := by simpa [enumD] using hi
      obtain ⟨n, s⟩ := alloc (o := .tup [.int (i : Nat), z]) e2 hT
      refine ⟨.tup [.int (i : Nat), d], _, ?_, n, s, .tup (st_of upd_same) (.cons (.int _) (.cons ((hv.mono e1).mono n.i) .nil))⟩
      have hdd : ds[i] = d := by
        rw [List.getElem?_eq_getElem hdl] at hd
        exact Option.some.inj hd
      simp [enumD, hdl, hdd]
/-- a text's signs -/
def signs (s : Str) : List D := s.cps.toList.map fun c => .str ⟨#[c]⟩
theorem it_str {s : Str} (h : Ev K m tl Γ (.str s) Γ1) : ItD K m (iStr tl) Γ (signs s) Γ1 := fun σ I H L w R k => h σ I H L w _ fun v I1 H1 L1 w1 g1 hv => by
  cases hv
  refine ⟨s, rfl, k _ I1 H1 L1 (fun _ => True) _ w1 g1 (fun _ _ => trivial) (by simp only [signs, List.length_map, Array.length_toList]; exact walk_str) fun i I2 H2 x H3 hi e1 e2 y => ?_⟩
  obtain ⟨rfl, c, hc, rfl⟩ := y
  exact ⟨.str ⟨#[c]⟩, I2, by simp [signs, hc], New.refl I2 _, e2, .str _⟩

/-! for -/
theorem run_for {wi : TI} {g : TG} {ts : TS} {ds : List D} {n : Nat} {o : Out} (G : Nat → List Sl) (hit : ItD K m wi Γ ds Γ1) (h0 : Γ1 = G 0) (hn : n ≤ ds.length) (hs : ∀ i d, i < n → ds[i]? = some d → Turn K g ts d (G i) (.lp (G (i + 1))))
    (hx : (n = ds.length ∧ o = .nx (G n)) ∨ (n < ds.length ∧ ∃ o', (∀ d, ds[n]? = some d → Turn K g ts d (G n) o') ∧ match o' with
      | .rt _ _ => o = o'
      | .rtR _ _ => o = o'
      | .bk Γb => o = .nx Γb
      | _ => False)) : Run K (tFor wi g ts) Γ o := fun σ I H L w Dn p => hit σ I H L w _ fun J I1 H1 L1 Gd Y w1 g1 hG hw hy => by
  subst h0
  refine for_it hw (fun i σ' H' => i ≤ n ∧ ∃ I' L', Wd K (G i) σ' I' H' L' ∧ Step I1 H1 L1 I' H' L') ⟨Nat.zero_le _, I1, L1, w1, Step.refl _ _ _⟩ (fun i σ' H' _ q => ?_) (fun i x σ' H' H2 hi q y => ?_) fun σ' H' q => ?_
  · obtain ⟨_, I', L', w', s'⟩ := q
    exact hG H' (s'.i.trans w'.sub)
  · obtain ⟨hin, I', L', w', s'⟩ := q
    obtain ⟨d, I3, hd, n3, e3, hv⟩ := hy i I' H' x H2 hi s'.i w'.sub y
    have w3 := w'.new n3 e3
    have s3 : Step I1 H1 L1 I3 H2 L' := s'.trans (n3.step L')
    by_cases hlt : i < n
    · refine hs i d hlt hd x σ' I3 H2 L' w3 hv _ fun σ4 I4 H4 L4 w4 s4 => ?_
      exact ⟨⟨hlt, I4, L4, w4, s3.trans s4⟩, ⟨hlt, I4, L4, w4, s3.trans s4⟩⟩
    · have e : i = n := by omega
      subst e
      rcases hx with ⟨rfl, _⟩ | ⟨_, o', ho, hm⟩
      · exact absurd hi (Nat.lt_irrefl _)
      · have pl := p.later (g1.step.trans s3)
        refine ho d hd x σ' I3 H2 L' w3 hv _ ?_
        cases o' with
        | rt d Γ => subst hm; exact pl
        | rtR d Γ => subst hm; exact pl
        | bk Γ => subst hm; exact pl
        | nx _ => exact hm.elim
        | lp _ => exact hm.elim
        | ct _ => exact hm.elim
  · obtain ⟨hin, I', L', w', s'⟩ := q
    rcases hx with ⟨rfl, rfl⟩ | ⟨h, _⟩
    · exact p σ' I' H' L' w' (g1.step.trans s')
    · omega
/-- all turns go on; the state by a fold -/
theorem run_forFold {wi : TI} {g : TG} {ts : TS} {α S : Type} {xs : List α} {enc : α → D} (G : S → List Sl) (step : S → α → S) (P : S → Prop) (s0 : S) (hit : ItD K m wi Γ (xs.map enc) Γ1) (h0 : Γ1 = G s0) (hP : P s0) (hPs : ∀ s x, P s → x ∈ xs → P (step s x))
    (hs : ∀ s x, P s → x ∈ xs → Turn K g ts (enc x) (G s) (.lp (G (step s x)))) : Run K (tFor wi g ts) Γ (.nx (G (xs.foldl step s0))) := by
  have hPi : ∀ i, P ((xs.take i).foldl step s0) := by
    intro i
    induction i with
    | zero => simpa using hP
    | succ i ih =>
      by_cases hi : i < xs.length
      · rw [List.take_succ_eq_append_getElem hi, List.foldl_append]
        exact hPs _ _ ih (List.getElem_mem hi)
      · rw [List.take_of_length_le (by omega)]
        rw [List.take_of_length_le (by omega)] at ih
        exact ih
  refine run_for (n := xs.length) (fun i => G ((xs.take i).foldl step s0)) hit h0 (by simp) (fun i d hi hd => ?_) (.inl ⟨by simp, by simp⟩)
  rw [List.getElem?_map, List.getElem?_eq_getElem hi] at hd
  cases hd
  rw [List.take_succ_eq_append_getElem hi, List.foldl_append]
  exact hs _ _ (hPi i) (List.getElem_mem hi)

/-! comprehensions that change nothing -/
theorem ev_lc {wi : TI} {g : TG} {tt : TT} {vs js : List Nat} {α : Type} {xs : List α} {enc : α → D} (p : α → Bool) (w : α → D) (Γi Γx : α → List Sl) (hit : ItD K m wi Γ (xs.map enc) Γ1) (hem : ∀ k ∈ vs, (Γ1[k]?.all Sl.isEm) = true) (hj : ∀ j ∈ js, j ∈ vs) (hz : xs.length < sizeLine)
    (hg : ∀ x ∈ xs, RunG K g js (enc x) Γ1 (Γi x)) (ht : ∀ x ∈ xs, EvT K .p tt (Γi x) (p x) (Γx x)) (he : ∀ x ∈ xs, p x = true → ∃ Γy, Ev K .p te (Γx x) (w x) Γy) :
    Ev K m (tLc wi g tt te vs) Γ (.lst ((xs.filter p).map w)) Γ1 := fun σ I H L W0 Q q => hit σ I H L W0 _ fun J I1 H1 L1 Gd Y w1 g1 hG hw hy Dl hD => by
  have lenF : ∀ i, (((xs.take i).filter p).map w).length ≤ i := fun i => by
    rw [List.length_map]
    exact Nat.le_trans (List.length_filter_le _ _) (by rw [List.length_take]; exact Nat.min_le_left _ _)
  refine lc_it hw (fun i H' => ∃ I' acc, New I1 H1 I' H' ∧ Ex I' H' ∧ I' Dl = none ∧ H' Dl = some (.lst acc) ∧ IsA K I' acc (((xs.take i).filter p).map w)) ?_ (fun i H' _ q => ?_) (fun i x H' H2 hi q y => ?_) fun H' q' => ?_
  · refine ⟨I1, [], ⟨Ex.refl I1, Ex.new hD, fun a o h => .inl h⟩, fun a o h => Ex.new hD a o (w1.sub a o h), w1.sub.back hD, upd_same, ?_⟩
    simp
    exact .nil
  · obtain ⟨I', acc, n, e, _⟩ := q
    exact hG H' (n.i.trans e)
  · obtain ⟨I', acc, n, e, hID, hHD, hA⟩ := q
    obtain ⟨d, I3, hd, n3, e3, hv⟩ := hy i I' H' x H2 hi n.i e y
    have hix : i < xs.length := by simpa using hi
    rw [List.getElem?_map, List.getElem?_eq_getElem hix] at hd
    cases hd
    have hmem := List.getElem_mem hix
    have nn := n.trans n3
    have w3 : Wd K Γ1 (wipe σ vs) I3 H2 L1 := by
      have := w1.new nn e3
      exact ⟨this.env.wipe hem, this.nd, this.fr, this.sub⟩
    have hD2 : H2 Dl = some (.lst acc) := n3.h _ _ hHD
    have hI3 : I3 Dl = none := by
      cases q : I3 Dl with
      | none => rfl
      | some o =>
        rcases n3.n Dl o q with z | z
        · rw [hID] at z; cases z
        · rw [hHD] at z; cases z
    refine hg _ hmem x _ I3 H2 L1 w3 hv _ fun σ2 w4 e4 => ⟨(e4 vs hj).trans (wipe_idem vs σ), ?_⟩
    refine ht _ hmem σ2 I3 H2 L1 w4 _ fun I5 H5 L5 w5 g5 => ?_
    obtain ⟨n5, rfl⟩ := g5
    have out : ∀ {I6 H6 : Hp}, New I3 H2 I6 H6 → I6 Dl = none := fun {I6 H6} n6 => by
      cases q : I6 Dl with
      | none => rfl
      | some o =>
        rcases n6.n Dl o q with z | z
        · rw [hI3] at z; cases z
        · rw [hD2] at z; cases z
    cases hp : p xs[i] with
    | false =>
      show ∃ I' acc, _
      refine ⟨I5, acc, nn.trans n5, w5.sub, out n5, n5.h _ _ hD2, ?_⟩
      rw [List.take_succ_eq_append_getElem hix, List.filter_append, List.filter_cons, if_neg (by rw [hp]; decide)]
      simp only [List.filter_nil, List.append_nil]
      exact hA.mono (n3.i.trans n5.i)
    | true =>
      obtain ⟨Γy, hE⟩ := he _ hmem hp
      show te σ2 H5 _
      refine hE σ2 I5 H5 _ w5 _ fun v I6 H6 L6 w6 g6 hv6 => ?_
      obtain ⟨n6, rfl⟩ := g6
      have n56 := n5.trans n6
      have hD6 : H6 Dl = some (.lst acc) := n56.h _ _ hD2
      have hI6 := out n56
      have hla := hA.length
      refine ⟨acc, hD6, by rw [hla]; exact Nat.lt_of_le_of_lt (lenF i) (by omega), I6, acc ++ [v], ⟨(nn.trans n56).i, fun a o h => ?_, fun a o h => (nn.trans n56).n a o h⟩, fun a o h => ?_, hI6, upd_same, ?_⟩
      · rw [upd_ne (ne_of_none h hD)]
        exact (nn.trans n56).h a o h
      · rw [upd_ne (ne_of_none h hI6)]
        exact w6.sub a o h
      · rw [List.take_succ_eq_append_getElem hix, List.filter_append, List.filter_cons, if_pos hp, List.map_append]
        simp only [List.filter_nil, List.map_cons, List.map_nil]
        exact (hA.mono (n3.i.trans n56.i)).append (.cons hv6 .nil)
  · obtain ⟨I', acc, n, e, hID, hHD, hA⟩ := q'
    have n' : New I1 H1 (upd I' Dl (.lst acc)) H' := ⟨fun a o h => Ex.new hID a o (n.i a o h), n.h, fun a o h => by
      by_cases hh : a = Dl
      · subst hh; exact .inr hD
      · rw [upd_ne hh] at h; exact n.n a o h⟩
    have e' : Ex (upd I' Dl (.lst acc)) H' := fun a o h => by
      by_cases hh : a = Dl
      · subst hh; rw [upd_same] at h; cases h; exact hHD
      · rw [upd_ne hh] at h; exact e a o h
    refine q (.ref Dl) _ H' L1 (w1.new n' e') (g1.trans (Guar.new n')) (.lst (sq_of upd_same) ?_)
    rw [List.length_map, List.take_length] at hA
    exact hA.mono (Ex.new hID)
end
end FD

/-! FD3: operations on data, lists that change, defs by contracts. -/
namespace FD
open PySem PySem.Spec PyProof.Rows L2

mutual
def D.py : D → PyData
  | .non => .none
  | .bl b => .bool b
  | .int i => .int i
  | .str x => .str x
  | .lst ds => .list (D.pyA ds)
  | .tup ds => .tuple (D.pyA ds)
  | .dic _ _ => .none
  | .ins _ _ _ => .none
  | .raw _ => .none
def D.pyA : List D → List PyData
  | [] => []
  | d :: ds => D.py d :: D.pyA ds
end
mutual
/-- data that the library's PyData tells -/
def D.pure : D → Bool
  | .lst ds => D.pureA ds
  | .tup ds => D.pureA ds
  | .dic _ _ => false
  | .ins _ _ _ => false
  | .raw _ => false
  | _ => true
def D.pureA : List D → Bool
  | [] => true
  | d :: ds => D.pure d && D.pureA ds
end
/-- without objects -/
def D.scalar : D → Bool
  | .non => true
  | .bl _ => true
  | .int _ => true
  | .str _ => true
  | .raw _ => true
  | _ => false
section
variable {K : PySem.W.Frag} {I H : Hp}
mutual
theorem Is.dp (e : Ex I H) : ∀ {d : D} {v : V}, D.pure d = true → Is K I v d → Dp K H v d.py
  | .non, _, _, h => by cases h; exact .non
  | .bl _, _, _, h => by cases h; exact .bl _
  | .int _, _, _, h => by cases h; exact .int _
  | .str _, _, _, h => by cases h; exact .str _
  | .lst ds, _, p, h => by
    cases h with
    | lst h1 h2 => exact .lst (e.l h1) (IsA.dp e (by simpa [D.pure] using p) h2)
  | .tup ds, _, p, h => by
    cases h with
    | tup h1 h2 => exact .tup (e.t h1) (IsA.dp e (by simpa [D.pure] using p) h2)
  | .dic _ _, _, p, _ => by simp [D.pure] at p
  | .ins _ _ _, _, p, _ => by simp [D.pure] at p
  | .raw _, _, p, _ => by simp [D.pure] at p
theorem IsA.dp (e : Ex I H) : ∀ {ds : List D} {vs : List V}, D.pureA ds = true → IsA K I vs ds → DpAll K H vs (D.pyA ds)
  | [], _, _, h => by cases h; exact .nil
  | d :: ds, _, p, h => by
    cases h with
    | cons h1 h2 =>
      simp only [D.pureA, Bool.and_eq_true] at p
      exact .cons (Is.dp e p.1 h1) (IsA.dp e p.2 h2)
end
theorem Is.scalar {I' : Hp} {d : D} {v : V} (h : Is K I v d) (s : d.scalar = true) : Is K I' v d := by
  cases d with
  | non => cases h; exact .non
  | bl _ => cases h; exact .bl _
  | int _ => cases h; exact .int _
  | str _ => cases h; exact .str _
  | raw _ => cases h; exact .raw _
  | lst _ => cases s
  | tup _ => cases s
  | dic _ _ => cases s
  | ins _ _ _ => cases s
end
/-- == of data -/
def D.eqv (x y : D) : Bool := PyData.eqv x.py y.py
def D.shaped (x : D) : Bool := D.pure x && SeqAt.shaped x.py
/-- the i-th of a list by Python's index -/
abbrev dAt (ds : List D) (i : Int) : Option D := atI ds i
theorem IsA.atI {K : PySem.W.Frag} {I : Hp} {vs : List V} {ds : List D} {i : Int} {d : D} (h : IsA K I vs ds) (e : atI ds i = some d) : ∃ v, L2.atI vs i = some v ∧ Is K I v d := by
  unfold L2.atI at e ⊢
  rw [h.length]
  cases q : ixN ds.length i with
  | none => rw [q] at e; cases e
  | some j => rw [q] at e; exact h.getD e
def cutD (ds : List D) (lo hi : Option Int) : List D := (ds.drop (HT.sIx ds.length 0 lo)).take (HT.sIx ds.length ds.length hi - HT.sIx ds.length 0 lo)
theorem IsA.cut {K : PySem.W.Frag} {I : Hp} {vs : List V} {ds : List D} (h : IsA K I vs ds) (lo hi : Option Int) : IsA K I (cutV vs lo hi) (cutD ds lo hi) := by
  unfold cutV cutD
  rw [h.length]
  exact (h.drop _).take _

section
variable {K : PySem.W.Frag} {m : Md} {Γ Γ' Γ1 Γ2 Γ3 : List Sl} {ta tb te tx tl ti : TE} {t u : TT} {x y z d : D} {r r' : R2} {a b c : Bool} {I H I' H' : Hp} {L L' : List Addr} {i j : Int} {o : Out}
theorem pureR_here {r : Hp → VK → Prop} {v : V} (s : Ex I H) (hv : Is K I v z) (h : ∀ Q : VK, Q v H → r H Q) : PureR K I H r z := fun Q q => h Q (q v I H (New.refl I H) s hv)
/-! operators -/
theorem opd_or1 (h : OpD K r x y z) : OpD K (fun x y H Q => r x y H Q ∨ r' x y H Q) x y z := fun I H v w s hv hw Q q => .inl (h I H v w s hv hw Q q)
theorem opd_or2 (h : OpD K r' x y z) : OpD K (fun x y H Q => r x y H Q ∨ r' x y H Q) x y z := fun I H v w s hv hw Q q => .inr (h I H v w s hv hw Q q)
theorem opd_Ii {f : Int → Int → Int} : OpD K (rI0 fun i j => .int (f i j)) (.int i) (.int j) (.int (f i j)) := fun I H v w s hv hw => by
  cases hv; cases hw
  exact pureR_here s (.int _) fun Q q => ⟨i, j, rfl, rfl, q⟩
theorem opd_Ib {f : Int → Int → Bool} : OpD K (rI0 fun i j => .bl (f i j)) (.int i) (.int j) (.bl (f i j)) := fun I H v w s hv hw => by
  cases hv; cases hw
  exact pureR_here s (.bl _) fun Q q => ⟨i, j, rfl, rfl, q⟩
theorem opd_IC {C : Int → Int → Prop} {f : Int → Int → Int} (hc : C i j) : OpD K (rI C fun i j => .int (f i j)) (.int i) (.int j) (.int (f i j)) := fun I H v w s hv hw => by
  cases hv; cases hw
  exact pureR_here s (.int _) fun Q q => ⟨i, j, rfl, rfl, hc, q⟩
theorem opd_eqD (hx : x.shaped = true) (hy : y.shaped = true) : OpD K (rEqD K) x y (.bl (D.eqv x y)) := fun I H v w s hv hw => by
  simp only [D.shaped, Bool.and_eq_true] at hx hy
  exact pureR_here s (.bl _) fun Q q => ⟨x.py, y.py, hv.dp s hx.1, hw.dp s hy.1, hx.2, hy.2, q⟩
theorem opd_neD (hx : x.shaped = true) (hy : y.shaped = true) : OpD K (rNeD K) x y (.bl (!D.eqv x y)) := fun I H v w s hv hw => by
  simp only [D.shaped, Bool.and_eq_true] at hx hy
  exact pureR_here s (.bl _) fun Q q => ⟨x.py, y.py, hv.dp s hx.1, hw.dp s hy.1, hx.2, hy.2, q⟩
theorem py_list (ds : List D) : (D.lst ds).py = .list (D.pyA ds) := by simp [D.py]
theorem opd_inD {ds : List D} (hx : x.shaped = true) (hy : (D.lst ds).shaped = true) : OpD K (rInD K) x (.lst ds) (.bl ((D.pyA ds).any fun z => PyData.eqv z x.py)) := fun I H v w s hv hw => by
  simp only [D.shaped, Bool.and_eq_true] at hx hy
  rw [py_list] at hy
  have hd := hw.dp s hy.1
  rw [py_list] at hd
  exact pureR_here s (.bl _) fun Q q => ⟨x.py, D.pyA ds, hv.dp s hx.1, hd, hx.2, hy.2, q⟩
theorem opd_notInD {ds : List D} (hx : x.shaped = true) (hy : (D.lst ds).shaped = true) : OpD K (rNotInD K) x (.lst ds) (.bl (!(D.pyA ds).any fun z => PyData.eqv z x.py)) := fun I H v w s hv hw => by
  simp only [D.shaped, Bool.and_eq_true] at hx hy
  rw [py_list] at hy
  have hd := hw.dp s hy.1
  rw [py_list] at hd
  exact pureR_here s (.bl _) fun Q q => ⟨x.py, D.pyA ds, hv.dp s hx.1, hd, hx.2, hy.2, q⟩
theorem opd_isN : OpD K (fun x y H Q => y = .non ∧ Q (.bl (decide (x = .non))) H) x .non (.bl (match x with | .non => true | .raw v => decide (v = .non) | _ => false)) := fun I H v w s hv hw => by
  cases hw
  cases hv <;> exact pureR_here s (.bl _) fun Q q => ⟨rfl, by simpa using q⟩
theorem opd_notN : OpD K (fun x y H Q => y = .non ∧ Q (.bl (!decide (x = .non))) H) x .non (.bl (!match x with | .non => true | .raw v => decide (v = .non) | _ => false)) := fun I H v w s hv hw => by
  cases hw
  cases hv <;> exact pureR_here s (.bl _) fun Q q => ⟨rfl, by simpa using q⟩
theorem opd_ixL {ds : List D} {k : Int} (h : atI ds k = some d) : OpD K (rIx K) (.lst ds) (.int k) d := fun I H v w s hv hw => by
  cases hw
  cases hv with
  | lst h1 h2 =>
    obtain ⟨v, e, hv⟩ := h2.atI h
    exact pureR_here s hv fun Q q => .inl ⟨_, _, k, v, rfl, rfl, (s.l h1), e, q⟩
theorem opd_ixT {ds : List D} {k : Int} (h : atI ds k = some d) : OpD K (rIx K) (.tup ds) (.int k) d := fun I H v w s hv hw => by
  cases hw
  cases hv with
  | tup h1 h2 =>
    obtain ⟨v, e, hv⟩ := h2.atI h
    exact pureR_here s hv fun Q q => .inr (.inl ⟨_, _, k, v, rfl, rfl, s.t h1, e, q⟩)
theorem opd_ixS {w : Str} {k : Int} {c : Nat} (hl : w.length ≤ sizeLine) (h : atI w.cps.toList k = some c) : OpD K (rIx K) (.str w) (.int k) (.str ⟨#[c]⟩) := fun I H v u s hv hw => by
  cases hv; cases hw
  exact pureR_here s (.str _) fun Q q => .inr (.inr ⟨w, k, c, rfl, rfl, hl, h, q⟩)
theorem sld_L {ds : List D} {lo hi : Option Int} : SlD K (rSlL K) (.lst ds) lo hi (.lst (cutD ds lo hi)) := fun I H v s hv Q q => by
  cases hv with
  | lst h1 h2 => exact ⟨_, _, rfl, (s.l h1), fun p hp => let ⟨n, e⟩ := alloc (o := .lst _) s hp; q _ _ _ n e (.lst (sq_of upd_same) ((h2.cut lo hi).mono n.i))⟩
theorem opd_addS {v w : Str} (h : v.length + w.length ≤ sizeLine) : OpD K (fun x y H Q => ∃ i j, x = .str i ∧ y = .str j ∧ i.length + j.length ≤ sizeLine ∧ Q (.str (i ++ j)) H) (.str v) (.str w) (.str (v ++ w)) := fun I H a b s ha hb => by
  cases ha; cases hb
  exact pureR_here s (.str _) fun Q q => ⟨v, w, rfl, rfl, h, q⟩
/-! built-in functions -/
theorem cd_int {i : Int} : CallD K (fun xs H Q => (∃ i, xs = [.int i] ∧ Q (.int i) H) ∨ ∃ k, xs = [.bl k] ∧ Q (.int (if k then 1 else 0)) H) [.int i] (.int i) := fun I H vs s h => by
  cases h with
  | cons h1 h2 =>
    cases h1; cases h2
    exact pureR_here s (.int i) fun Q q => .inl ⟨i, rfl, q⟩
theorem cd_abs {i : Int} : CallD K (fun xs H Q => ∃ i, xs = [.int i] ∧ Q (.int (if i < 0 then -i else i)) H) [.int i] (.int (if i < 0 then -i else i)) := fun I H vs s h => by
  cases h with
  | cons h1 h2 =>
    cases h1; cases h2
    exact pureR_here s (.int _) fun Q q => ⟨i, rfl, q⟩
theorem cd_max2 {i j : Int} : CallD K (fun xs H Q => ∃ i j, xs = [.int i, .int j] ∧ Q (.int (if j > i then j else i)) H) [.int i, .int j] (.int (if j > i then j else i)) := fun I H vs s h => by
  cases h with
  | cons h1 h2 =>
    cases h2 with
    | cons h2 h3 =>
      cases h1; cases h2; cases h3
      exact pureR_here s (.int _) fun Q q => ⟨i, j, rfl, q⟩
theorem cd_min2 {i j : Int} : CallD K (fun xs H Q => ∃ i j, xs = [.int i, .int j] ∧ Q (.int (if j < i then j else i)) H) [.int i, .int j] (.int (if j < i then j else i)) := fun I H vs s h => by
  cases h with
  | cons h1 h2 =>
    cases h2 with
    | cons h2 h3 =>
      cases h1; cases h2; cases h3
      exact pureR_here s (.int _) fun Q q => ⟨i, j, rfl, q⟩
def rLenS (K : PySem.W.Frag) : List V → Hp → VK → Prop := fun xs H Q => ∃ p ys, xs = [.ref p] ∧ (SqL K H p ys ∨ SqT K H p ys) ∧ Q (.int ys.length) H
theorem cd_lenL {ds : List D} : CallD K (fun xs H Q => ∃ p ys, xs = [.ref p] ∧ (SqL K H p ys ∨ SqT K H p ys) ∧ Q (.int ys.length) H) [.lst ds] (.int (ds.length : Nat)) := fun I H vs s h => by
  cases h with
  | cons h1 h2 =>
    cases h2
    cases h1 with
    | lst q1 q2 => exact pureR_here s (.int _) fun Q q => ⟨_, _, rfl, .inl (s.l q1), by rw [q2.length]; exact q⟩
theorem cd_lenT {ds : List D} : CallD K (fun xs H Q => ∃ p ys, xs = [.ref p] ∧ (SqL K H p ys ∨ SqT K H p ys) ∧ Q (.int ys.length) H) [.tup ds] (.int (ds.length : Nat)) := fun I H vs s h => by
  cases h with
  | cons h1 h2 =>
    cases h2
    cases h1 with
    | tup q1 q2 => exact pureR_here s (.int _) fun Q q => ⟨_, _, rfl, .inr (s.t q1), by rw [q2.length]; exact q⟩
theorem cd_listL {ds : List D} : CallD K (fun xs H Q => ∃ p ys, xs = [.ref p] ∧ (SqL K H p ys ∨ SqT K H p ys) ∧ ∀ l, H l = none → Q (.ref l) (upd H l (.lst ys))) [.lst ds] (.lst ds) := fun I H vs s h Q q => by
  cases h with
  | cons h1 h2 =>
    cases h2
    cases h1 with
    | lst q1 q2 => exact ⟨_, _, rfl, .inl (s.l q1), fun p hp => let ⟨n, e⟩ := alloc (o := .lst _) s hp; q _ _ _ n e (.lst (sq_of upd_same) (q2.mono n.i))⟩
theorem cd_listT {ds : List D} : CallD K (fun xs H Q => ∃ p ys, xs = [.ref p] ∧ (SqL K H p ys ∨ SqT K H p ys) ∧ ∀ l, H l = none → Q (.ref l) (upd H l (.lst ys))) [.tup ds] (.lst ds) := fun I H vs s h Q q => by
  cases h with
  | cons h1 h2 =>
    cases h2
    cases h1 with
    | tup q1 q2 => exact ⟨_, _, rfl, .inr (s.t q1), fun p hp => let ⟨n, e⟩ := alloc (o := .lst _) s hp; q _ _ _ n e (.lst (sq_of upd_same) (q2.mono n.i))⟩

/-! lists that change -/
/-- a changeable list read as data, where the answer is no object -/
theorem ev_borrow {k : Nat} {v : V} {ds : List D} (hi : Γ[k]? = some (.res v (Rlst K ds))) (h : ∀ Γ0 : List Sl, Γ0 = Γ.set k (.dat (.lst ds)) → Ev K .p te Γ0 z Γ') (hz : z.scalar = true) : Ev K m te Γ z Γ := fun σ I H L w Q q => by
  obtain ⟨I1, L1, w1, s1, hv⟩ := w.frz hi
  refine h _ rfl σ I1 H L1 w1 Q fun u I2 H2 L2 w2 g2 hu => ?_
  obtain ⟨n, rfl⟩ := g2
  have n' : New I H I H2 := ⟨Ex.refl I, n.h, fun a o h => .inl h⟩
  exact q u I H2 L (w.new n' (w.sub.trans n.h)) (Guar.new n') (hu.scalar hz)
theorem ev_ixR {k : Nat} {v : V} {ds : List D} {j : Int} (h0 : Γ[k]? = some (.res v (Rlst K ds))) (h : Ev K m ti Γ (.int j) Γ1) (hi : Γ1[k]? = some (.res v (Rlst K ds))) (hd : atI ds j = some d) : Ev K m (tOp (rIx K) (tVar k) ti) Γ d Γ1 := fun σ I H L w Q q => by
  obtain ⟨hσ, _⟩ := w.stepR h0
  refine ⟨v, hσ, h σ I H L w _ fun u I1 H1 L1 w1 g1 hu => ?_⟩
  cases hu
  obtain ⟨_, Li, ⟨a, xs, rfl, rfl, ha, hx⟩, _⟩ := w1.stepR hi
  obtain ⟨v, e, hv⟩ := hx.atI hd
  exact .inl ⟨a, xs, j, v, rfl, rfl, sq_of ha, e, q v I1 H1 L1 w1 g1 hv⟩
/-- the list at slot k becomes ds' -/
theorem Wd.wr {σ : Sg} {k : Nat} {v : V} {ds ds' : List D} (w : Wd K Γ σ I H L) (hi : Γ[k]? = some (.res v (Rlst K ds))) : σ[k]? = some (some v) ∧ ∃ a xs, v = .ref a ∧ H a = some (.lst xs) ∧ IsA K I xs ds ∧
    ∀ xs', IsA K I xs' ds' → ∃ L', Wd K (Γ.set k (.res v (Rlst K ds'))) σ I (upd H a (.lst xs')) L' ∧ Step I H L I (upd H a (.lst xs')) L' := by
  obtain ⟨hσ, Li, ⟨a, xs, rfl, rfl, ha, hx⟩, nd, fr, fin⟩ := w.stepR hi
  refine ⟨hσ, a, xs, rfl, ha, hx, fun xs' hx' => ?_⟩
  refine fin I (upd H a (.lst xs')) (Rlst K ds') [a] ⟨Ex.refl I, fun b o e hb => ?_, fun b hb => .inl hb, fun b o e => .inl e⟩ nd fr (fun b o e => ?_) ⟨a, xs', rfl, rfl, upd_same, hx'⟩
  · rw [upd_ne (by simpa using hb)]
    exact e
  · rw [upd_ne (ne_of_none e (fr a (by simp)))]
    exact w.sub b o e
theorem run_app {k : Nat} {v : V} {ds : List D} (h0 : Γ[k]? = some (.res v (Rlst K ds))) (h : Ev K m te Γ d Γ1) (hi : Γ1[k]? = some (.res v (Rlst K ds))) (hz : ds.length < sizeLine) : Run K (tDrop (tBM K "list" rAppend (tVar k) (tCons te tNil))) Γ (.nx (Γ1.set k (.res v (Rlst K (ds ++ [d]))))) := fun σ I H L w Dn p => by
  obtain ⟨hσ, a, xs, rfl, ha, hx, _⟩ := w.wr (ds' := []) h0
  refine ⟨_, hσ, .inl ⟨rfl, _, sq_of ha⟩, h σ I H L w _ fun u I1 H1 L1 w1 g1 hu => ?_⟩
  obtain ⟨hσ1, a', xs1, e, ha1, hx1, fin⟩ := w1.wr (ds' := ds ++ [d]) hi
  cases e
  obtain ⟨L2, w2, s2⟩ := fin (xs1 ++ [u]) (hx1.append (.cons hu .nil))
  exact ⟨_, xs1, u, rfl, rfl, ha1, by rw [hx1.length]; exact hz, p σ I1 _ L2 w2 (g1.step.trans s2)⟩
theorem run_setI {k : Nat} {v : V} {ds : List D} {j : Int} {n : Nat} (h : Ev K m te Γ d Γ1) (hk : ∀ v', Γ1[k]? = some (.res v' (Rlst K ds)) → v' = v) (hi1 : Γ1[k]? = some (.res v (Rlst K ds))) (h2 : Ev K .p ti Γ1 (.int j) Γ1) (hn : ixN ds.length j = some n) : Run K (tAsg te (gSub (tVar k) ti rSetL)) Γ (.nx (Γ1.set k (.res v (Rlst K (ds.set n d))))) := fun σ I H L w Dn p => h σ I H L w _ fun u I1 H1 L1 w1 g1 hu => by
  obtain ⟨hσ, _⟩ := w1.stepR hi1
  refine ⟨v, hσ, h2 σ I1 H1 L1 w1 _ fun q I2 H2 L2 w2 g2 hq => ?_⟩
  cases hq
  obtain ⟨_, a, xs, rfl, ha, hx, fin⟩ := w2.wr (ds' := ds.set n d) hi1
  obtain ⟨L3, w3, s3⟩ := fin (xs.set n u) (hx.set n (hu.mono g2.i))
  exact ⟨a, xs, j, n, rfl, rfl, ha, by rw [hx.length]; exact hn, p σ I2 _ L3 w3 ((g1.step.trans g2.step).trans s3)⟩
theorem ev_popAt {k : Nat} {v : V} {ds : List D} {j : Int} {n : Nat} (h0 : Γ[k]? = some (.res v (Rlst K ds))) (h : Ev K m te Γ (.int j) Γ1) (hi : Γ1[k]? = some (.res v (Rlst K ds))) (hj : -(2 ^ 63) ≤ j ∧ j < 2 ^ 63) (hn : seqIndex? j ds.length = some n) (hd : ds[n]? = some d) :
    Ev K .e (tBM K "list" rPopAt (tVar k) (tCons te tNil)) Γ d (Γ1.set k (.res v (Rlst K (ds.eraseIdx n)))) := fun σ I H L w Q q => by
  obtain ⟨hσ, a, xs, rfl, ha, hx, _⟩ := w.wr (ds' := []) h0
  refine ⟨_, hσ, .inl ⟨rfl, _, sq_of ha⟩, h σ I H L w _ fun u I1 H1 L1 w1 g1 hu => ?_⟩
  cases hu
  obtain ⟨hσ1, a', xs1, e, ha1, hx1, fin⟩ := w1.wr (ds' := ds.eraseIdx n) hi
  cases e
  obtain ⟨y, hy, hv⟩ := hx1.getD hd
  obtain ⟨L2, w2, s2⟩ := fin (xs1.eraseIdx n) (hx1.erase n)
  exact ⟨_, xs1, j, n, y, rfl, rfl, ha1, hj.1, hj.2, by rw [hx1.length]; exact hn, hy, q y I1 _ L2 w2 (g1.step.trans s2) hv⟩
end

/-! ### defs -/
/-- a contract: the parameters ahead, what comes back, the parameters behind -/
inductive Pr where
  | d (pre : List Sl) (z : D) (post : List Sl)
  | r (pre : List Sl) (R : Res) (post : List Sl)
def Pr.pre : Pr → List Sl
  | .d p _ _ => p
  | .r p _ _ => p
def spC (K : PySem.W.Frag) (C : Pr → Prop) : Sp := fun vs H Q _ =>
  (∃ pre z post I L, C (.d pre z post) ∧ Wd K pre (vs.map some) I H L ∧ ∀ v I' H' L', Wd K post (vs.map some) I' H' L' → Step I H L I' H' L' → Is K I' v z → Q v H') ∨
  ∃ pre R post I L, C (.r pre R post) ∧ Wd K pre (vs.map some) I H L ∧ ∀ v I' H' L', Wd K (.res v R :: post) (some v :: vs.map some) I' H' L' → Step I H L I' H' L' → Q v H'
/-- the parameters behind the body -/
inductive PoK : List Sl → List Sl → List Sl → Prop
  | nil {Γ : List Sl} : PoK [] Γ []
  | dat {d : D} {x : Sl} {pre Γ post : List Sl} : PoK pre Γ post → PoK (.dat d :: pre) (x :: Γ) (.dat d :: post)
  | res {v : V} {R R' : Res} {pre Γ post : List Sl} : PoK pre Γ post → PoK (.res v R :: pre) (.res v R' :: Γ) (.res v R' :: post)
  | resW {v : V} {R R1 R' : Res} {pre Γ post : List Sl} (h : ∀ I H L, R1.P I v H L → R'.P I v H L) : PoK pre Γ post → PoK (.res v R :: pre) (.res v R1 :: Γ) (.res v R' :: post)
section
variable {K : PySem.W.Frag}
theorem con_of {C : Pr → Prop} {pre post : List Sl} {z : D} (h : C (.d pre z post)) : Con K (spC K C) pre z post := fun vs I H L w Q E q => .inl ⟨pre, z, post, I, L, h, w, q⟩
theorem conR_of {C : Pr → Prop} {pre post : List Sl} {R : Res} (h : C (.r pre R post)) : ConR K (spC K C) pre R post := fun vs I H L w Q E q => .inr ⟨pre, R, post, I, L, h, w, q⟩
theorem EnvOk.post {I H I' H' : Hp} (e : Ex I I') : ∀ {pre Γ post : List Sl} {vs : List V} {σ : Sg} {L L1 : List Addr}, PoK pre Γ post → EnvOk K I H pre (vs.map some) L → EnvOk K I' H' Γ σ L1 → ∃ L', L'.Sublist L1 ∧ EnvOk K I' H' post (vs.map some) L'
  | _, _, _, [], _, _, L1, .nil, _, _ => ⟨[], List.nil_sublist _, .nil⟩
  | _, _, _, _ :: _, _, _, _, .nil, h, _ => by cases h
  | _, _, _, v :: vs, _, _, _, .dat k, .dat p h, .em _ g => let ⟨L', s, r⟩ := EnvOk.post e k h g; ⟨L', s, .dat (p.mono e) r⟩
  | _, _, _, v :: vs, _, _, _, .dat k, .dat p h, .dat _ g => let ⟨L', s, r⟩ := EnvOk.post e k h g; ⟨L', s, .dat (p.mono e) r⟩
  | _, _, _, v :: vs, _, _, _, .dat k, .dat p h, .res (L1 := M) _ g => let ⟨L', s, r⟩ := EnvOk.post e k h g; ⟨L', s.trans (List.sublist_append_right _ _), .dat (p.mono e) r⟩
  | _, _, _, v :: vs, _, _, _, .resW hw k, .res p h, .res (L1 := M) q g => let ⟨L', s, r⟩ := EnvOk.post e k h g; ⟨M ++ L', List.Sublist.append_left s _, .res (hw _ _ _ q) r⟩
  | _, _, _, v :: vs, _, _, _, .res k, .res p h, .res (L1 := M) q g => let ⟨L', s, r⟩ := EnvOk.post e k h g; ⟨M ++ L', List.Sublist.append_left s _, .res q r⟩
/-- the body keeps the contract -/
def Body (K : PySem.W.Frag) (t : TS) (n : Nat) : Pr → Prop
  | .d pre z post => ∃ Γ o, Run K t (pre ++ List.replicate (n - pre.length) .em) o ∧ PoK pre Γ post ∧ (o = .rt z Γ ∨ (o = .nx Γ ∧ z = .non))
  | .r pre R post => ∃ Γ, Run K t (pre ++ List.replicate (n - pre.length) .em) (.rtR R Γ) ∧ PoK pre Γ post
theorem EnvOk.more {I H : Hp} : ∀ {Γ : List Sl} {σ : Sg} {L : List Addr} (n : Nat), EnvOk K I H Γ σ L → EnvOk K I H (Γ ++ List.replicate n .em) (σ ++ List.replicate n none) L
  | _, _, _, 0, .nil => .nil
  | _, _, _, n + 1, .nil => .em _ (EnvOk.more n .nil)
  | _, _, _, n, .em x e => .em x (EnvOk.more n e)
  | _, _, _, n, .dat p e => .dat p (EnvOk.more n e)
  | _, _, _, n, .res p e => .res p (EnvOk.more n e)
theorem body_ok {t : TS} {N : List Str} {C : Pr → Prop} (hb : ∀ c, C c → Body K t N.length c) {vs : List V} {H : Hp} {Q : VK} {E : XK} (h : spC K C vs H Q E) : t { nx := fun _ H' => Q .non H', rt := Q } (start N vs) H := by
  rcases h with ⟨pre, z, post, I, L, hc, w, q⟩ | ⟨pre, R, post, I, L, hc, w, q⟩
  · obtain ⟨Γ, o, hr, hp, ho⟩ := hb _ hc
    have hl : pre.length = vs.length := by simpa using w.env.len
    have w0 : Wd K (pre ++ List.replicate (N.length - pre.length) .em) (start N vs) I H L := ⟨by
      have := EnvOk.more (N.length - pre.length) w.env
      rw [show start N vs = vs.map some ++ List.replicate (N.length - pre.length) none from by rw [hl]; rfl]
      exact this, w.nd, w.fr, w.sub⟩
    have fin : ∀ v σ' I' H' L', Wd K Γ σ' I' H' L' → Step I H L I' H' L' → Is K I' v z → Q v H' := fun v σ' I' H' L' w' s hv => by
      obtain ⟨L2, sl, e⟩ := EnvOk.post s.i hp w.env w'.env
      exact q v I' H' L2 (w'.sublist sl e) (s.trans (Step.sublist sl)) hv
    rcases ho with rfl | ⟨rfl, rfl⟩
    · exact hr _ I H L w0 _ fun v σ' I' H' L' w' s hv => fin v σ' I' H' L' w' s hv
    · exact hr _ I H L w0 _ fun σ' I' H' L' w' s => fin .non σ' I' H' L' w' s .non
  · obtain ⟨Γ, hr, hp⟩ := hb _ hc
    have hl : pre.length = vs.length := by simpa using w.env.len
    have w0 : Wd K (pre ++ List.replicate (N.length - pre.length) .em) (start N vs) I H L := ⟨by
      have := EnvOk.more (N.length - pre.length) w.env
      rw [show start N vs = vs.map some ++ List.replicate (N.length - pre.length) none from by rw [hl]; rfl]
      exact this, w.nd, w.fr, w.sub⟩
    refine hr _ I H L w0 _ fun v σ' I' H' L' w' s => ?_
    have e0 := w'.env
    cases e0 with
    | @res _ _ L1 L2 _ _ p e1 =>
      obtain ⟨L3, sl, e⟩ := EnvOk.post s.i hp w.env e1
      have sl' : (L1 ++ L3).Sublist (L1 ++ L2) := List.Sublist.append_left sl _
      exact q v I' H' (L1 ++ L3) (w'.sublist sl' (.res p e)) (s.trans (Step.sublist sl'))
variable {P : Program} {w : PySem.World} {mg : Str → Option Value} {base : Heap}
/-- THE RULE for a def by contracts -/
theorem okC {x qual : Str} {st : Stmt} {f : Addr} {fd : FuncData} {N ps : List Str} {k : Nat} {C : Pr → Prop} (F : Fun K x qual st f fd) (S : FnScope N ps (defScope st)) (len : ∀ c, C c → c.pre.length = ps.length)
    (hbody : ∀ (cdv : Value) (A : Around) (outer : List Env) (s : Shared) (H : Hp) (vs : List V) (Q : VK) (E : XK), Room k (A.deeper (envOfC qual (defScope st) s.heap.objs.size f cdv)) →
      ∃ t, PSs (cxOf CX0 P w K mg base N qual (defScope st) f cdv A outer s H E).nox (defBody st) t ∧ ∀ c, C c → Body K t N.length c) : FnOk P w K mg base CX0 (k + 1) f fd ps (spC K C) := by
  refine F.ok S (fun vs H Q E h => ?_) fun cdv A outer s H vs Q E hr h => ?_
  · rcases h with ⟨pre, z, post, I, L, hc, w, _⟩ | ⟨pre, R, post, I, L, hc, w, _⟩
    · have := len _ hc
      have hl := w.env.len
      simp [Pr.pre] at this hl
      omega
    · have := len _ hc
      have hl := w.env.len
      simp [Pr.pre] at this hl
      omega
  · obtain ⟨t, ht, hb⟩ := hbody cdv A outer s H vs Q E hr
    exact ⟨t, ht, body_ok hb h⟩
end
end FD

/-! FD4: one rule an operator, whatever the kinds. -/
namespace FD
open PySem PySem.Spec PyProof.Rows L2
theorem fd_addL {prog : Program} {w : PySem.World} {A : Around} {E : Value → Shared → Prop} {s : Shared} {l b : Addr} {vs ws : List Value} {Q : Value → Shared → Prop} (hl : s.heap.IsList l vs.toArray) (hb : s.heap.IsList b ws.toArray) (hsz : vs.length + ws.length ≤ sizeLine)
    (h : Q (.ref s.heap.objs.size) { s with heap := s.heap.push { cls := .type "list", data := .seq (vs ++ ws).toArray } }) : wpAny (model prog w) A (binaryOp .Add (.ref l) (.ref b)) Q E s := by
  obtain ⟨⟨cls, dd, data, sl⟩, ho, hc, n, hd⟩ := id hl
  obtain ⟨⟨cls2, dd2, data2, sl2⟩, ho2, hc2, n2, hd2⟩ := id hb
  simp only at hc hd hc2 hd2
  subst hc hd hc2 hd2
  have e : vs.toArray ++ ws.toArray = (vs ++ ws).toArray := by simp
  refine PySem.concat_meets ⟨_, ho, rfl⟩ ⟨_, ho2, rfl⟩ PySem.noFill_list_add PySem.seq_list_add PySem.F.slot_list_add PySem.F.entry_list_add (PySem.F.args_list_add_2 _ _) (PyProof.Rows.list_addW l b vs.toArray ws.toArray n n2 dd dd2 sl sl2 (by simpa using hsz)) ⟨ho, ho2, ?_⟩
  rw [e]
  exact h
section
variable {X : Cx}
/-- list + list, read -/
def rCatL (K : PySem.W.Frag) : R2 := fun x y H Q => ∃ l b xs zs, x = .ref l ∧ y = .ref b ∧ SqL K H l xs ∧ SqL K H b zs ∧ xs.length + zs.length ≤ sizeLine ∧ ∀ p, H p = none → Q (.ref p) (upd H p (.lst (xs ++ zs)))
theorem op_catL : OpR X (binaryOp .Add) (rCatL X.K) := by
  intro pins s σ H x y v u Q I rx ry h
  obtain ⟨l, b, xs, zs, rfl, rfl, hH, hB, hz, q⟩ := h
  cases rx
  cases ry
  obtain ⟨its, r, pl, z⟩ := I.list hH
  obtain ⟨its2, r2, pl2, z2⟩ := I.list hB
  have hl := r.length
  have hl2 := r2.length
  exact fd_addL pl.isList pl2.isList (by omega) ⟨.ref _, _, I.lnew (t' := s.toks) (r.append r2) (by rw [List.length_append]; omega), rfl, q _ I.fresh⟩
def rAddA (K : PySem.W.Frag) : R2 := fun x y H Q => (rI0 (fun i j => .int (i + j)) x y H Q) ∨ (fun x y H Q => (∃ i j, x = .str i ∧ y = .str j ∧ i.length + j.length ≤ sizeLine ∧ Q (.str (i ++ j)) H) ∨ (fun x y H Q => rCatL K x y H Q ∨ rCatA K x y H Q) x y H Q) x y H Q
theorem op_addA : OpR X (binaryOp .Add) (rAddA X.K) := OpR.or op_add (OpR.or op_add_str (OpR.or op_catL op_catA))
/-- <, <=, >, >= of ints and of texts -/
def rLtA : R2 := fun x y H Q => (rI0 (fun i j => .bl (decide (i < j))) x y H Q) ∨ (∃ i j, x = .str i ∧ y = .str j ∧ Q (.bl (decide (i.cps.toList < j.cps.toList))) H)
def rLeA : R2 := fun x y H Q => (rI0 (fun i j => .bl (decide (i ≤ j))) x y H Q) ∨ (∃ i j, x = .str i ∧ y = .str j ∧ Q (.bl (!decide (j.cps.toList < i.cps.toList))) H)
def rGtA : R2 := fun x y H Q => (rI0 (fun i j => .bl (decide (j < i))) x y H Q) ∨ (∃ i j, x = .str i ∧ y = .str j ∧ Q (.bl (decide (j.cps.toList < i.cps.toList))) H)
def rGeA : R2 := fun x y H Q => (rI0 (fun i j => .bl (decide (j ≤ i))) x y H Q) ∨ (∃ i j, x = .str i ∧ y = .str j ∧ Q (.bl (!decide (i.cps.toList < j.cps.toList))) H)
theorem op_ltA : OpR X (compareOp .Lt) rLtA := OpR.or op_lt op_lt_str
theorem op_leA : OpR X (compareOp .LtE) rLeA := OpR.or op_le op_le_str
theorem op_gtA : OpR X (compareOp .Gt) rGtA := OpR.or op_gt op_gt_str
theorem op_geA : OpR X (compareOp .GtE) rGeA := OpR.or op_ge op_ge_str
/-- slices of lists, tuples, texts -/
def rSlAny (K : PySem.W.Frag) : V → Option Int → Option Int → Hp → VK → Prop := fun x lo hi H Q => rSlL K x lo hi H Q ∨ (fun x lo hi H Q => rSlA K x lo hi H Q ∨ rSlS x lo hi H Q) x lo hi H Q
theorem sl_any : SlR X (rSlAny X.K) := SlR.or sl_list (SlR.or sl_tupA sl_str)
/-- len of lists, tuples, texts -/
def rLenA (K : PySem.W.Frag) : List V → Hp → VK → Prop := fun xs H Q => (∃ p ys, xs = [.ref p] ∧ (SqL K H p ys ∨ SqT K H p ys) ∧ Q (.int ys.length) H) ∨ (∃ z, xs = [.str z] ∧ z.length ≤ sizeLine ∧ Q (.int z.length) H)
theorem call_lenA : CallR X (.builtin "len") (rLenA X.K) := CallR.or call_len_seq call_len_str
end
section
variable {K : PySem.W.Frag} {m : Md} {Γ Γ' Γ1 Γ2 Γ3 : List Sl} {ta tb te tx tl ti : TE} {t u : TT} {x y z d : D} {r r' : R2} {a b c : Bool} {I H I' H' : Hp} {L L' : List Addr} {i j : Int} {o : Out}
theorem opd_add : OpD K (rAddA K) (.int i) (.int j) (.int (i + j)) := opd_or1 opd_Ii
theorem opd_addStr {v w : Str} (h : v.length + w.length ≤ sizeLine) : OpD K (rAddA K) (.str v) (.str w) (.str (v ++ w)) := opd_or2 (opd_or1 (opd_addS h))
theorem opd_addL {ds es : List D} (h : ds.length + es.length ≤ sizeLine) : OpD K (rAddA K) (.lst ds) (.lst es) (.lst (ds ++ es)) := fun I H v w s hv hw Q q => by
  cases hv with
  | lst h1 h2 =>
    cases hw with
    | lst h3 h4 => exact .inr (.inr (.inl ⟨_, _, _, _, rfl, rfl, s.l h1, s.l h3, by rw [h2.length, h4.length]; exact h, fun p hp => let ⟨n, e⟩ := alloc (o := .lst _) s hp; q _ _ _ n e (.lst (sq_of upd_same) ((h2.append h4).mono n.i))⟩))
theorem opd_addT {ds es : List D} (h : ds.length + es.length ≤ sizeLine) : OpD K (rAddA K) (.tup ds) (.tup es) (.tup (ds ++ es)) := fun I H v w s hv hw Q q => by
  cases hv with
  | @tup a1 xs _ h1 h2 =>
    cases hw with
    | @tup a2 zs _ h3 h4 =>
      refine .inr (.inr (.inr ⟨_, _, _, _, rfl, rfl, s.t h1, s.t h3, by rw [h2.length, h4.length]; exact h, fun e => ?_, fun ne e => ?_, fun n1 n2 p hp => ?_⟩))
      · subst e
        cases h2
        exact q _ I H (New.refl I H) s (.tup h3 h4)
      · subst e
        cases h4
        exact q _ I H (New.refl I H) s (by rw [List.append_nil]; exact .tup h1 h2)
      · obtain ⟨n, e⟩ := alloc (o := .tup (xs ++ zs)) s hp
        exact q _ _ _ n e (.tup (st_of upd_same) ((h2.append h4).mono n.i))
theorem opd_sub : OpD K (rI0 fun i j => .int (i - j)) (.int i) (.int j) (.int (i - j)) := opd_Ii
theorem opd_mul (h : i.natAbs.log2 + j.natAbs.log2 < 1000000) : OpD K (rI CMulW fun i j => .int (i * j)) (.int i) (.int j) (.int (i * j)) := opd_IC h
theorem opd_fdiv (h : 0 < j ∧ j.natAbs.log2 < 9000) : OpD K (rI CDivW fun i j => .int (i / j)) (.int i) (.int j) (.int (i / j)) := opd_IC h
theorem opd_mod (h : 0 < j) : OpD K (rI (fun _ j => 0 < j) fun i j => .int (i % j)) (.int i) (.int j) (.int (i % j)) := opd_IC h
theorem opd_pow (h : 0 ≤ j ∧ j ≤ 1000000 ∧ i.natAbs < 2 ^ 64) : OpD K (rI CPow fun i j => .int (i ^ j.toNat)) (.int i) (.int j) (.int (i ^ j.toNat)) := opd_IC h
theorem opd_lt : OpD K rLtA (.int i) (.int j) (.bl (decide (i < j))) := opd_or1 opd_Ib
theorem opd_le : OpD K rLeA (.int i) (.int j) (.bl (decide (i ≤ j))) := opd_or1 opd_Ib
theorem opd_gt : OpD K rGtA (.int i) (.int j) (.bl (decide (j < i))) := opd_or1 (opd_Ib (f := fun i j => decide (j < i)))
theorem opd_ge : OpD K rGeA (.int i) (.int j) (.bl (decide (j ≤ i))) := opd_or1 (opd_Ib (f := fun i j => decide (j ≤ i)))
theorem sld_list {ds : List D} {lo hi : Option Int} : SlD K (rSlAny K) (.lst ds) lo hi (.lst (cutD ds lo hi)) := fun I H v s hv Q q => .inl (sld_L I H v s hv Q q)
theorem cd_lenList {ds : List D} : CallD K (rLenA K) [.lst ds] (.int (ds.length : Nat)) := fun I H vs s h Q q => .inl (cd_lenL I H vs s h Q q)
theorem cd_lenTup {ds : List D} : CallD K (rLenA K) [.tup ds] (.int (ds.length : Nat)) := fun I H vs s h Q q => .inl (cd_lenT I H vs s h Q q)
theorem cd_lenStr {w : Str} (hw : w.length ≤ sizeLine) : CallD K (rLenA K) [.str w] (.int (w.length : Nat)) := fun I H vs s h Q q => by
  cases h with
  | cons h1 h2 =>
    cases h1; cases h2
    exact .inr ⟨w, rfl, hw, q _ I H (New.refl I H) s (.int _)⟩
end
end FD
namespace FD
open PySem PySem.Spec PyProof.Rows L2
section
variable {X : Cx}
theorem pi_or {tg it : Expr} {w1 w2 : TI} (h1 : PI X tg it w1) (h2 : PI X tg it w2) : PI X tg it (fun σ H R => w1 σ H R ∨ w2 σ H R) :=
  ⟨fun pins s σ H R I h => h.elim (h1.run pins s σ H R I) (h2.run pins s σ H R I)⟩
/-- a list, a tuple or a text -/
def iAny (K : PySem.W.Frag) (te : TE) : TI := fun σ H R => iList K te σ H R ∨ (fun σ H R => iTup K te σ H R ∨ iStr te σ H R) σ H R
theorem pi_any {tg e : Expr} {te : TE} (h : PE X e te) : PI X tg e (iAny X.K te) := pi_or (pi_list h) (pi_or (pi_tup h) (pi_str h))
end
section
variable {K : PySem.W.Frag} {m : Md} {Γ Γ1 : List Sl} {tl : TE}
theorem it_or1 {w1 w2 : TI} {ds : List D} (h : ItD K m w1 Γ ds Γ1) : ItD K m (fun σ H R => w1 σ H R ∨ w2 σ H R) Γ ds Γ1 := fun σ I H L w R k => .inl (h σ I H L w R k)
theorem it_or2 {w1 w2 : TI} {ds : List D} (h : ItD K m w2 Γ ds Γ1) : ItD K m (fun σ H R => w1 σ H R ∨ w2 σ H R) Γ ds Γ1 := fun σ I H L w R k => .inr (h σ I H L w R k)
theorem it_anyL {ds : List D} (h : Ev K m tl Γ (.lst ds) Γ1) : ItD K m (iAny K tl) Γ ds Γ1 := it_or1 (it_list h)
theorem it_anyT {ds : List D} (h : Ev K m tl Γ (.tup ds) Γ1) : ItD K m (iAny K tl) Γ ds Γ1 := it_or2 (it_or1 (it_tup h))
theorem it_anyS {s : Str} (h : Ev K m tl Γ (.str s) Γ1) : ItD K m (iAny K tl) Γ (signs s) Γ1 := it_or2 (it_or2 (it_str h))
end
end FD
namespace FD
open PySem PySem.Spec PyProof.Rows L2
theorem hu64 {A : Around} {k : Nat} (hr : Room k A) : A.units + 64 < cLine := hr.units
end FD
namespace FD
open PySem PySem.Spec PyProof.Rows L2
section
variable {K : PySem.W.Frag} {t : TS} {n : Nat} {pre post Γ Γ0 : List Sl} {z z' : D} {R : Res}
theorem body_d (h : Run K t Γ0 (.rt z' Γ)) (h0 : Γ0 = pre ++ List.replicate (n - pre.length) .em) (hp : PoK pre Γ post) (e : z' = z) : Body K t n (.d pre z post) := by
  subst e h0
  exact ⟨Γ, _, h, hp, .inl rfl⟩
theorem body_n (h : Run K t Γ0 (.nx Γ)) (h0 : Γ0 = pre ++ List.replicate (n - pre.length) .em) (hp : PoK pre Γ post) : Body K t n (.d pre .non post) := by
  subst h0
  exact ⟨Γ, _, h, hp, .inr ⟨rfl, rfl⟩⟩
theorem body_r (h : Run K t Γ0 (.rtR R Γ)) (h0 : Γ0 = pre ++ List.replicate (n - pre.length) .em) (hp : PoK pre Γ post) : Body K t n (.r pre R post) := by
  subst h0
  exact ⟨Γ, h, hp⟩
end
end FD
namespace FD
theorem lg1 {x : Int} (h : -18446744073709551616 ≤ x ∧ x ≤ 18446744073709551616) : x.natAbs.log2 ≤ 64 := by
  by_cases h0 : x.natAbs = 0
  · rw [h0]; decide
  · have h1 : x.natAbs < 2 ^ 65 := by omega
    exact Nat.le_of_lt_succ ((Nat.log2_lt h0).mpr h1)
theorem lgMul {x y : Int} (h : -18446744073709551616 ≤ x ∧ x ≤ 18446744073709551616) (h' : -18446744073709551616 ≤ y ∧ y ≤ 18446744073709551616) : x.natAbs.log2 + y.natAbs.log2 < 1000000 := by
  have := lg1 h
  have := lg1 h'
  omega
theorem lgDiv {x : Int} (h : 0 < x ∧ x ≤ 18446744073709551616) : 0 < x ∧ x.natAbs.log2 < 9000 := by
  have := lg1 (x := x) ⟨by omega, h.2⟩
  exact ⟨h.1, by omega⟩
end FD

/-! FD5: calls that give resources, comprehensions that change resources. -/
namespace FD
open PySem PySem.Spec PyProof.Rows L2
section
variable {K : PySem.W.Frag} {m : Md} {Γ Γ' Γ1 Γ2 Γ3 : List Sl} {ta tb te tx tl ti : TE} {t u : TT} {x y z d : D} {r r' : R2} {a b c : Bool} {I H I' H' : Hp} {L L' : List Addr} {i j : Int} {o : Out}
/-- a new world part beside: what a call with data alone gives as a resource -/
theorem er_call0 {sp : Sp} {ds : List D} {E : XK} {ta : TA} {R : Res} {post : List Sl} (h : EvA K m ta Γ ds Γ') (hs : ConR K sp (ds.map .dat) R post) : EvR K (tCall sp [] E ta) Γ R Γ' := fun σ I H L w Q q =>
  h σ I H L w _ fun vs I1 H1 L1 w1 g1 hv => by
    show sp (vs ++ []) H1 Q E
    rw [List.append_nil]
    refine hs vs I1 H1 [] (wd_dats hv w1.sub) Q E fun v I2 H2 L2 w2 s2 => ?_
    have n : New I1 H1 I2 H2 := ⟨s2.i, fun a o h => s2.keep a o h (by simp), fun a o h => (s2.n a o h).elim .inl fun z => z.elim (fun q => by simp at q) .inr⟩
    have w3 := w1.new n w2.sub
    have e2 := w2.env
    cases e2 with
    | @res _ _ M1 M2 _ _ p e =>
      have apart : ∀ a ∈ M1, a ∉ L1 := fun a h z => by
        rcases s2.l a (by simp [h]) with q | q
        · simp at q
        · exact w1.live a z q
      have nd2 := List.nodup_append.mp w2.nd
      refine q v I2 H2 (M1 ++ L1) ⟨.res p w3.env, List.nodup_append.mpr ⟨nd2.1, w3.nd, fun a h b hb e => apart a h (e ▸ hb)⟩, fun a h => ?_, w2.sub⟩ (g1.step.trans ⟨n.i, fun a o h _ => n.h a o h, fun a h => ?_, fun a o h => (n.n a o h).elim .inl fun z => .inr (.inr z)⟩)
      · rcases List.mem_append.mp h with h | h
        · exact w2.fr a (by simp [h])
        · exact w3.fr a h
      · rcases List.mem_append.mp h with h | h
        · rcases s2.l a (by simp [h]) with q | q
          · simp at q
          · exact .inr q
        · exact .inl h
/-- a resource in a slot stays, the answer is one more -/
theorem er_call1 {sp : Sp} {ds : List D} {E : XK} {ta : TA} {k : Nat} {v : V} {R R' Rn : Res} (h : EvA K m ta Γ ds Γ') (hi : Γ'[k]? = some (.res v R)) (h0 : Γ[k]? = some (.res v R)) (hs : ConR K sp (.res v R :: ds.map .dat) Rn (.res v R' :: ds.map .dat)) :
    EvR K (tCall sp [] E (tCons (tVar k) ta)) Γ Rn (Γ'.set k (.res v R')) := fun σ I H L w Q q => by
  obtain ⟨hσ, _⟩ := w.stepR h0
  refine ⟨v, hσ, ?_⟩
  refine h σ I H L w _ fun vs I1 H1 L1 w1 g1 hv => ?_
  show sp (v :: vs ++ []) H1 Q E
  rw [List.append_nil]
  obtain ⟨_, M1, Mi, M2, rfl, hp, hk⟩ := w1.env.getR hi
  have nd := w1.nd
  have ndA := List.nodup_append.mp nd
  have ndB := List.nodup_append.mp ndA.2.1
  refine hs (v :: vs) I1 H1 Mi ⟨?_, ndB.1, fun a h => w1.fr a (by simp [h]), w1.sub⟩ Q E fun u I2 H2 L2 w2 s2 => ?_
  · have := EnvOk.res (L1 := Mi) (L2 := []) hp (env_dats (H := H1) hv)
    rw [List.append_nil] at this
    exact this
  · have e2 := w2.env
    cases e2 with
    | @res _ _ N0 N1 _ _ pu e2 =>
      cases e2 with
      | @res _ _ N2 N3 _ _ pv e3 =>
        have hN : N3 = [] := by
          have : ∀ {ds : List D} {vs : Sg} {L : List Addr}, EnvOk K I2 H2 (ds.map .dat) vs L → L = [] := by
            intro ds
            induction ds with
            | nil => intro vs L h; cases h; rfl
            | cons d ds ih => intro vs L h; cases h with | dat _ e => exact ih e
          exact this e3
        subst hN
        have ndU := w2.nd
        rw [List.append_nil] at ndU
        have ndU2 := List.nodup_append.mp ndU
        have memU : ∀ a, a ∈ N0 ∨ a ∈ N2 → a ∈ Mi ∨ H1 a = none := fun a h => s2.l a (by simp; exact h)
        have out : ∀ a, a ∈ M1 ++ M2 → a ∉ Mi := fun a h z => by
          rcases List.mem_append.mp h with h | h
          · exact ndA.2.2 a h a (by simp [z]) rfl
          · exact ndB.2.2 a z a h rfl
        have lv : ∀ a, a ∈ M1 ++ M2 → H1 a ≠ none := fun a h => w1.live a (by
          rcases List.mem_append.mp h with h | h
          · simp [h]
          · simp [h])
        have kp : ∀ a, a ∈ M1 ++ M2 → H2 a = H1 a := fun a h => by
          cases e : H1 a with
          | none => exact absurd e (lv a h)
          | some o => exact s2.keep a o e (out a h)
        have apart : ∀ a, a ∈ N0 ∨ a ∈ N2 → a ∉ M1 ++ M2 := fun a h z => (memU a h).elim (out a z) (lv a z)
        have eΓ := hk I2 H2 R' N2 s2.i kp pv
        refine q u I2 H2 (N0 ++ (M1 ++ (N2 ++ M2))) ⟨.res pu eΓ, ?_, fun a h => ?_, w2.sub⟩ (g1.step.trans ⟨s2.i, fun a o e hl => s2.keep a o e fun z => hl (by simp [z]), fun a h => ?_, fun a o h => ?_⟩)
        · refine List.nodup_append.mpr ⟨ndU2.1, List.nodup_append.mpr ⟨ndA.1, List.nodup_append.mpr ⟨ndU2.2.1, ndB.2.1, fun a h b hb e => apart a (.inr h) (by subst e; simp [hb])⟩, fun a h b hb e => ?_⟩, fun a h b hb e => ?_⟩
          · subst e
            rcases List.mem_append.mp hb with hb | hb
            · exact apart a (.inr hb) (by simp [h])
            · exact ndA.2.2 a h a (by simp [hb]) rfl
          · subst e
            simp at hb
            rcases hb with hb | hb | hb
            · exact apart a (.inl h) (by simp [hb])
            · exact ndU2.2.2 a h a hb rfl
            · exact apart a (.inl h) (by simp [hb])
        · by_cases hU : a ∈ N0 ∨ a ∈ N2
          · exact w2.fr a (by simp; exact hU)
          · have ha : a ∈ M1 ++ M2 := by
              simp at h ⊢
              rcases h with h | h | h | h
              · exact absurd (.inl h) hU
              · exact .inl h
              · exact absurd (.inr h) hU
              · exact .inr h
            cases e : I2 a with
            | none => rfl
            | some o =>
              rcases s2.n a o e with q | q | q
              · rw [w1.fr a (by simp at ha ⊢; rcases ha with h | h; exact .inl h; exact .inr (.inr h))] at q; cases q
              · exact absurd q (out a ha)
              · exact absurd q (lv a ha)
        · simp at h
          rcases h with h | h | h | h
          · exact (memU a (.inl h)).elim (fun z => .inl (by simp [z])) .inr
          · exact .inl (by simp [h])
          · exact (memU a (.inr h)).elim (fun z => .inl (by simp [z])) .inr
          · exact .inl (by simp [h])
        · rcases s2.n a o h with q | q | q
          · exact .inl q
          · exact .inr (.inl (by simp [q]))
          · exact .inr (.inr q)

/-! comprehensions whose element changes resources -/
/-- beside a list that is being made -/
theorem Wd.side {σ : Sg} {p : Addr} {xs : List V} (w : Wd K Γ σ I H L) (hp : H p = some (.lst xs)) (hI : I p = none) (hL : p ∉ L) {I' H' : Hp} {L' : List Addr} (s : Step I H L I' H' L') : H' p = some (.lst xs) ∧ I' p = none ∧ p ∉ L' := by
  refine ⟨s.keep p _ hp hL, ?_, fun h => ?_⟩
  · cases e : I' p with
    | none => rfl
    | some o =>
      rcases s.n p o e with q | q | q
      · rw [hI] at q; cases q
      · exact absurd q hL
      · rw [hp] at q; cases q
  · rcases s.l p h with q | q
    · exact hL q
    · rw [hp] at q; cases q
theorem er_lc {wi : TI} {g : TG} {tt : TT} {vs js : List Nat} {ds : List D} (G : Nat → List Sl) (f : Nat → Bool) (w : Nat → D) (hit : ItD K m wi Γ ds (G 0)) (hem : ∀ i, i ≤ ds.length → ∀ k ∈ vs, ((G i)[k]?.all Sl.isEm) = true) (hj : ∀ j ∈ js, j ∈ vs) (hz : ds.length < sizeLine)
    (hs : ∀ i d, i < ds.length → ds[i]? = some d → ∃ Γi Γx, RunG K g js d (G i) Γi ∧ EvT K .e tt Γi (f i) Γx ∧ (f i = true → ∃ Γy, Ev K .e te Γx (w i) Γy ∧ Wk Γy (G (i + 1))) ∧ (f i = false → Wk Γx (G (i + 1)))) :
    EvR K (tLc wi g tt te vs) Γ (Rlst K (((List.range ds.length).filter f).map w)) (G ds.length) := fun σ I H L W0 Q q => hit σ I H L W0 _ fun J I1 H1 L1 Gd Y w1 g1 hG hw hy Dl hD => by
  refine lc_it hw (fun i H' => i ≤ ds.length ∧ ∃ I' L' acc, Wd K (G i) σ I' H' L' ∧ I' Dl = none ∧ Dl ∉ L' ∧ H' Dl = some (.lst acc) ∧ IsA K I' acc (((List.range i).filter f).map w) ∧ Step I1 H1 L1 I' H' (Dl :: L')) ?_ (fun i H' hi q => ?_) (fun i x H' H2 hi q y => ?_) fun H' q' => ?_
  · have hDL : Dl ∉ L1 := fun h => w1.live Dl h hD
    refine ⟨Nat.zero_le _, I1, L1, [], ⟨w1.env.keep (Ex.refl I1) fun a h => upd_ne fun e => hDL (e ▸ h), w1.nd, w1.fr, fun a o h => Ex.new hD a o (w1.sub a o h)⟩, w1.sub.back hD, hDL, upd_same, by simp; exact .nil, ⟨Ex.refl I1, fun a o h _ => Ex.new hD a o h, fun a h => ?_, fun a o h => .inl h⟩⟩
    rcases List.mem_cons.mp h with rfl | h
    · exact .inr hD
    · exact .inl h
  · obtain ⟨_, I', L', acc, w', _, _, _, _, s⟩ := q
    exact hG H' (s.i.trans w'.sub)
  · obtain ⟨_, I', L', acc, w', hID, hLD, hHD, hA, s⟩ := q
    obtain ⟨d, I3, hd, n3, e3, hv⟩ := hy i I' H' x H2 hi s.i w'.sub y
    obtain ⟨Γi, Γx, hg, ht, hyes, hno⟩ := hs i d hi hd
    have w3 := w'.new n3 e3
    obtain ⟨hD3, hI3, hL3⟩ := w'.side hHD hID hLD (n3.step L')
    have w3' : Wd K (G i) (wipe σ vs) I3 H2 L' := ⟨w3.env.wipe (hem i (by omega)), w3.nd, w3.fr, w3.sub⟩
    refine hg x _ I3 H2 L' w3' hv _ fun σ2 w4 e4 => ⟨(e4 vs hj).trans (wipe_idem vs σ), ?_⟩
    refine ht σ2 I3 H2 L' w4 _ fun I5 H5 L5 w5 g5 => ?_
    have g5 : Step I3 H2 L' I5 H5 L5 := g5
    obtain ⟨hD5, hI5, hL5⟩ := w4.side hD3 hI3 hL3 g5
    have back : ∀ {Γ : List Sl} {I6 H6 : Hp} {L6 : List Addr}, Wd K Γ σ2 I6 H6 L6 → (∀ k ∈ vs, (Γ[k]?.all Sl.isEm) = true) → Wd K Γ σ I6 H6 L6 := fun {Γ I6 H6 L6} w6 he => by
      have e : wipe σ2 vs = wipe σ vs := (e4 vs hj).trans (wipe_idem vs σ)
      have := w6.env.wipe he
      rw [e] at this
      exact ⟨this.unwipe he, w6.nd, w6.fr, w6.sub⟩
    have lift : ∀ {I6 H6 : Hp} {L6 : List Addr}, Step I3 H2 L' I6 H6 L6 → Step I1 H1 L1 I6 H6 (Dl :: L6) := fun {I6 H6 L6} s6 => by
      have s36 := (n3.step L').trans s6
      refine ⟨s.i.trans s36.i, fun a o h hl => ?_, fun a h => ?_, fun a o h => ?_⟩
      · have h' := s.keep a o h hl
        refine s36.keep a o h' fun z => ?_
        rcases s.l a (by simp [z]) with q | q
        · exact hl q
        · rw [h] at q; cases q
      · rcases List.mem_cons.mp h with rfl | h
        · exact .inr hD
        · rcases s36.l a h with q | q
          · exact s.l a (by simp [q])
          · by_cases hL1 : a ∈ L1
            · exact .inl hL1
            · cases e : H1 a with
              | none => exact .inr rfl
              | some o => rw [s.keep a o e hL1] at q; cases q
      · rcases s36.n a o h with q | q | q
        · exact s.n a o q
        · exact .inr (s.l a (by simp [q]))
        · by_cases hL1 : a ∈ L1
          · exact .inr (.inl hL1)
          · cases e : H1 a with
            | none => exact .inr (.inr rfl)
            | some o => rw [s.keep a o e hL1] at q; cases q
    cases hf : f i with
    | false =>
      obtain ⟨L6, w6, s6⟩ := w5.weak (hno hf)
      obtain ⟨hD6, hI6, hL6⟩ := w5.side hD5 hI5 hL5 s6
      have w7 := back w6 (hem (i + 1) (by omega))
      refine ⟨by omega, I5, L6, acc, w7, hI6, hL6, hD6, ?_, lift (g5.trans s6)⟩
      rw [List.range_succ, List.filter_append, List.filter_cons, if_neg (by rw [hf]; decide)]
      simp only [List.filter_nil, List.append_nil]
      exact hA.mono (n3.i.trans g5.i)
    | true =>
      obtain ⟨Γy, hE, hW⟩ := hyes hf
      show te σ2 H5 _
      refine hE σ2 I5 H5 L5 w5 _ fun v I6 H6 L6 w6 g6 hv6 => ?_
      have g6 : Step I5 H5 L5 I6 H6 L6 := g6
      obtain ⟨L7, w7, s7⟩ := w6.weak hW
      have s67 := g6.trans s7
      obtain ⟨hD7, hI7, hL7⟩ := w5.side hD5 hI5 hL5 s67
      have w8 := back w7 (hem (i + 1) (by omega))
      have hla := hA.length
      have lenF : (((List.range i).filter f).map w).length ≤ i := by
        rw [List.length_map]
        exact Nat.le_trans (List.length_filter_le _ _) (by rw [List.length_range]; exact Nat.le_refl _)
      have L9 := lift (g5.trans s67)
      refine ⟨acc, hD7, by rw [hla]; exact Nat.lt_of_le_of_lt lenF (by omega), by omega, I6, L7, acc ++ [v], ⟨w8.env.keep (Ex.refl I6) fun a h => upd_ne fun e => hL7 (e ▸ h), w8.nd, w8.fr, fun a o h => ?_⟩, hI7, hL7, upd_same, ?_, ⟨L9.i, fun a o h hl => ?_, L9.l, L9.n⟩⟩
      · rw [upd_ne (ne_of_none h hI7)]
        exact w8.sub a o h
      · rw [List.range_succ, List.filter_append, List.filter_cons, if_pos hf, List.map_append]
        simp only [List.filter_nil, List.map_cons, List.map_nil]
        exact (hA.mono (n3.i.trans (g5.i.trans g6.i))).append (.cons hv6 .nil)
      · rw [upd_ne (ne_of_none h hD)]
        exact L9.keep a o h hl
  · obtain ⟨_, I', L', acc, w', hID, hLD, hHD, hA, s⟩ := q'
    refine q (.ref Dl) I' H' (Dl :: L') ⟨.res (L1 := [Dl]) ⟨Dl, acc, rfl, rfl, hHD, hA⟩ w'.env, List.nodup_cons.mpr ⟨hLD, w'.nd⟩, fun a h => ?_, w'.sub⟩ (g1.step.trans s)
    rcases List.mem_cons.mp h with rfl | h
    · exact hID
    · exact w'.fr a h
end
end FD

/-! FD6: objects with fields, dicts, places of resources. -/
namespace FD
open PySem PySem.Spec PyProof.Rows L2

theorem Step.frame {I H I' H' : Hp} {L L' : List Addr} (s : Step I H L I' H' L') (M : List Addr) : Step I H (M ++ L) I' H' (M ++ L') where
  i := s.i
  keep a o h hl := s.keep a o h fun z => hl (by simp [z])
  l a h := by
    rcases List.mem_append.mp h with h | h
    · exact .inl (by simp [h])
    · exact (s.l a h).elim (fun z => .inl (by simp [z])) .inr
  n a o h := (s.n a o h).elim .inl fun z => .inr (z.elim (fun q => .inl (by simp [q])) .inr)

/-- an object of the class at C, its fields by name -/
def Robj (K : PySem.W.Frag) (C : Addr) (ns : List Str) (fs : List Sl) : Res where
  P I v H L := ∃ p dx vs Lf, v = .ref p ∧ L = [p, dx] ++ Lf ∧ p ≠ dx ∧ H p = some (.ins C dx (ns.zip vs)) ∧ H dx = some (.own p) ∧ ns.length = vs.length ∧ EnvOk K I H fs (vs.map some) Lf
  mono e h := by
    obtain ⟨p, dx, vs, Lf, h1, h2, h0, h3, h4, h5, h6⟩ := h
    exact ⟨p, dx, vs, Lf, h1, h2, h0, h3, h4, h5, h6.keep e fun _ _ => rfl⟩
  frame f h := by
    obtain ⟨p, dx, vs, Lf, h1, h2, h0, h3, h4, h5, h6⟩ := h
    subst h2
    exact ⟨p, dx, vs, Lf, h1, rfl, h0, (f p (by simp)).trans h3, (f dx (by simp)).trans h4, h5, h6.keep (Ex.refl _) fun a h => f a (by simp [h])⟩
  live h := by
    obtain ⟨p, dx, vs, Lf, h1, h2, h0, h3, h4, h5, h6⟩ := h
    subst h2
    intro a ha
    simp at ha
    rcases ha with rfl | rfl | ha
    · rw [h3]; exact fun z => nomatch z
    · rw [h4]; exact fun z => nomatch z
    · exact h6.live a ha
/-- a dict's pairs -/
inductive IsK (K : PySem.W.Frag) (I : Hp) : List (Key × V) → List (Key × D) → Prop
  | nil : IsK K I [] []
  | cons {k : Key} {v : V} {d : D} {kvs : List (Key × V)} {es : List (Key × D)} : Is K I v d → IsK K I kvs es → IsK K I ((k, v) :: kvs) ((k, d) :: es)
def look (es : List (Key × D)) (k : Key) : Option D := (es.find? fun e => decide (e.1 = k)).map (·.2)
def putD (es : List (Key × D)) (k : Key) (d : D) : List (Key × D) :=
  if (es.any fun e => decide (e.1 = k)) = true then es.map (fun e => if e.1 = k then (e.1, d) else e) else es ++ [(k, d)]
def dropD (es : List (Key × D)) (k : Key) : List (Key × D) := es.filter fun e => decide (e.1 ≠ k)
def D.dict (es : List (Key × D)) : D := .dic (es.map (·.1)) (es.map (·.2))
section
variable {K : PySem.W.Frag} {I I' : Hp}
theorem IsK.mono (e : Ex I I') : ∀ {kvs : List (Key × V)} {es : List (Key × D)}, IsK K I kvs es → IsK K I' kvs es
  | _, _, .nil => .nil
  | _, _, .cons h t => .cons (h.mono e) (t.mono e)
theorem IsK.len : ∀ {kvs : List (Key × V)} {es : List (Key × D)}, IsK K I kvs es → kvs.length = es.length
  | _, _, .nil => rfl
  | _, _, .cons _ t => by simp [t.len]
theorem IsK.keys : ∀ {kvs : List (Key × V)} {es : List (Key × D)}, IsK K I kvs es → kvs.map (·.1) = es.map (·.1)
  | _, _, .nil => rfl
  | _, _, .cons _ t => by simp [t.keys]
theorem IsK.vals : ∀ {kvs : List (Key × V)} {es : List (Key × D)}, IsK K I kvs es → IsA K I (kvs.map (·.2)) (es.map (·.2))
  | _, _, .nil => .nil
  | _, _, .cons h t => .cons h t.vals
theorem IsK.of : ∀ {kvs : List (Key × V)} {es : List (Key × D)}, kvs.map (·.1) = es.map (·.1) → IsA K I (kvs.map (·.2)) (es.map (·.2)) → IsK K I kvs es
  | [], [], _, _ => .nil
  | [], _ :: _, h, _ => by simp at h
  | _ :: _, [], h, _ => by simp at h
  | (k, v) :: kvs, (k', d) :: es, h, g => by
    simp at h
    obtain ⟨rfl, h⟩ := h
    cases g with
    | cons g1 g2 => exact .cons g1 (IsK.of h g2)
theorem IsK.any (k : Key) : ∀ {kvs : List (Key × V)} {es : List (Key × D)}, IsK K I kvs es → (kvs.any fun e => decide (e.1 = k)) = (es.any fun e => decide (e.1 = k))
  | _, _, .nil => rfl
  | _, _, .cons _ t => by simp [t.any k]
theorem IsK.look (k : Key) : ∀ {kvs : List (Key × V)} {es : List (Key × D)}, IsK K I kvs es → (valV kvs k = none ∧ look es k = none) ∨ ∃ v d, valV kvs k = some v ∧ look es k = some d ∧ Is K I v d
  | _, _, .nil => .inl ⟨rfl, rfl⟩
  | _, _, .cons (k := k') (v := v) (d := d) h t => by
    by_cases e : k' = k
    · subst e
      exact .inr ⟨v, d, valV_pos rfl, by simp [FD.look], h⟩
    · rw [valV_neg e]
      have : ∀ es : List (Key × D), FD.look ((k', d) :: es) k = FD.look es k := fun es => by simp [FD.look, e]
      rw [this]
      exact t.look k
theorem IsK.putIn {k : Key} {v : V} {d : D} (h : Is K I v d) : ∀ {kvs : List (Key × V)} {es : List (Key × D)}, IsK K I kvs es → IsK K I (kvs.map fun kv => if kv.1 = k then (kv.1, v) else kv) (es.map fun e => if e.1 = k then (e.1, d) else e)
  | _, _, .nil => .nil
  | _, _, .cons (k := k') h' t => by
    simp only [List.map_cons]
    by_cases e : k' = k
    · rw [if_pos e, if_pos e]; exact .cons h (IsK.putIn h t)
    · rw [if_neg e, if_neg e]; exact .cons h' (IsK.putIn h t)
theorem IsK.putEnd {k : Key} {v : V} {d : D} (h : Is K I v d) : ∀ {kvs : List (Key × V)} {es : List (Key × D)}, IsK K I kvs es → IsK K I (kvs ++ [(k, v)]) (es ++ [(k, d)])
  | _, _, .nil => .cons h .nil
  | _, _, .cons h' t => .cons h' (IsK.putEnd h t)
theorem IsK.put {k : Key} {v : V} {d : D} (h : Is K I v d) {kvs : List (Key × V)} {es : List (Key × D)} (t : IsK K I kvs es) : IsK K I (putK kvs k v) (putD es k d) := by
  unfold putK putD
  rw [t.any k]
  split
  · exact IsK.putIn h t
  · exact IsK.putEnd h t
theorem is_dict {a : Addr} {kvs : List (Key × V)} {es : List (Key × D)} (h : Rd I a (.dK kvs)) (t : IsK K I kvs es) : Is K I (.ref a) (D.dict es) := .dic h t.keys.symm t.vals
theorem dict_is {v : V} {es : List (Key × D)} (h : Is K I v (D.dict es)) : ∃ a kvs, v = .ref a ∧ Rd I a (.dK kvs) ∧ IsK K I kvs es := by
  unfold D.dict at h
  cases h with
  | dic h1 h2 h3 => exact ⟨_, _, rfl, h1, IsK.of h2.symm h3⟩
end
/-- a dict that may be changed -/
def Rdic (K : PySem.W.Frag) (es : List (Key × D)) : Res where
  P I v H L := ∃ q kvs, v = .ref q ∧ L = [q] ∧ H q = some (.dK kvs) ∧ IsK K I kvs es
  mono e h := by
    obtain ⟨q, kvs, h1, h2, h3, h4⟩ := h
    exact ⟨q, kvs, h1, h2, h3, h4.mono e⟩
  frame f h := by
    obtain ⟨q, kvs, h1, h2, h3, h4⟩ := h
    subst h2
    exact ⟨q, kvs, h1, rfl, (f q (by simp)).trans h3, h4⟩
  live h := by
    obtain ⟨q, kvs, h1, h2, h3, h4⟩ := h
    subst h2
    intro b hb
    simp at hb
    subst hb
    rw [h3]
    exact fun z => nomatch z

/-- the value u holds the resource R at a place of Γ; up: Γ with another resource there -/
def Plc (K : PySem.W.Frag) (Γ : List Sl) (u : V) (R : Res) (up : Res → List Sl) : Prop := ∀ σ I H L, Wd K Γ σ I H L → ∃ Li, R.P I u H Li ∧ Li.Nodup ∧ (∀ a ∈ Li, I a = none) ∧
  ∀ (I' H' : Hp) (R' : Res) (Li' : List Addr), Step I H Li I' H' Li' → Li'.Nodup → (∀ a ∈ Li', I' a = none) → Ex I' H' → R'.P I' u H' Li' → ∃ L', Wd K (up R') σ I' H' L' ∧ Step I H L I' H' L'
/-- te is the place's value, read without more -/
def RefE (K : PySem.W.Frag) (te : TE) (Γ : List Sl) (u : V) : Prop := ∀ σ I H L, Wd K Γ σ I H L → ∀ Q : VK, Q u H → te σ H Q
section
variable {K : PySem.W.Frag} {m : Md} {Γ Γ' Γ1 Γ2 Γ3 : List Sl} {ta tb te tx tl ti td ty : TE} {t u : TT} {x y z d : D} {r r' : R2} {a b c : Bool} {I H I' H' : Hp} {L L' : List Addr} {i j k : Nat} {o : Out} {v w : V} {R R' : Res} {C : Addr} {ns : List Str} {fs : List Sl} {f : Str} {up : Res → List Sl}
theorem plc_slot (h : Γ[k]? = some (.res v R)) : Plc K Γ v R (fun R' => Γ.set k (.res v R')) := fun σ I H L w => (w.stepR h).2
theorem refE_var (h : Γ[k]? = some (.res v R)) : RefE K (tVar k) Γ v := fun σ I H L w Q q => ⟨v, (w.stepR h).1, q⟩
theorem lookup_zip : ∀ {ns : List Str} {vs : List V} {i : Nat} {f : Str} {v : V}, ns.Nodup → ns[i]? = some f → vs[i]? = some v → (ns.zip vs).lookup f = some v
  | [], _, i, _, _, _, h, _ => by simp at h
  | n :: ns, [], i, _, _, _, _, h => by simp at h
  | n :: ns, v :: vs, 0, f, w, _, h, h' => by simp at h h'; subst h h'; simp [List.lookup_cons]
  | n :: ns, v :: vs, i + 1, f, w, nd, h, h' => by
    simp at h h'
    have ne : (f == n) = false := beq_eq_false_iff_ne.mpr fun e => (List.nodup_cons.mp nd).1 (e ▸ List.mem_of_getElem? h)
    show ((n, v) :: ns.zip vs).lookup f = some w
    rw [List.lookup_cons, ne]
    exact lookup_zip (List.nodup_cons.mp nd).2 h h'
theorem refE_fld (nd : ns.Nodup) (c : Cls K C) (hn : NoAttr K C f) (hr : RefE K te Γ v) (hp : Plc K Γ v (Robj K C ns fs) up) (hi : ns[i]? = some f) (hf : fs[i]? = some (.res w R)) : RefE K (tFld K te f) Γ w := fun σ I H L wd Q q => by
  obtain ⟨Li, ⟨p, dx, vs, Lf, rfl, rfl, _, h3, h4, h5, h6⟩, _⟩ := hp σ I H L wd
  refine hr σ I H L wd _ ⟨p, C, dx, _, w, rfl, h3, c, hn, ?_, q⟩
  obtain ⟨e, _⟩ := h6.getR hf
  exact lookup_zip nd hi (by simpa using e)
/-- a field's data -/
theorem ev_fld (nd : ns.Nodup) (c : Cls K C) (hn : NoAttr K C f) (hr : RefE K te Γ v) (hp : Plc K Γ v (Robj K C ns fs) up) (hi : ns[i]? = some f) (hf : fs[i]? = some (.dat d)) : Ev K m (tFld K te f) Γ d Γ := fun σ I H L wd Q q => by
  obtain ⟨Li, ⟨p, dx, vs, Lf, rfl, rfl, _, h3, h4, h5, h6⟩, _⟩ := hp σ I H L wd
  obtain ⟨x, e, hx⟩ := h6.get hf
  exact hr σ I H L wd _ ⟨p, C, dx, _, x, rfl, h3, c, hn, lookup_zip nd hi (by simpa using e), q x I H L wd Guar.refl hx⟩
/-- a resource in a field of the object at a place -/
theorem plc_fld (hp : Plc K Γ v (Robj K C ns fs) up) (hf : fs[i]? = some (.res w R)) : Plc K Γ w R (fun R' => up (Robj K C ns (fs.set i (.res w R')))) := fun σ I H L wd => by
  obtain ⟨Li, ⟨p, dx, vs, Lf, rfl, rfl, hne, h3, h4, h5, h6⟩, nd, fr, fin⟩ := hp σ I H L wd
  have nd2 := List.nodup_append.mp nd
  have wf : Wd K fs (vs.map some) I H Lf := ⟨h6, nd2.2.1, fun a h => fr a (by simp [h]), wd.sub⟩
  obtain ⟨_, Lg, hg, ndg, frg, fing⟩ := wf.stepR hf
  refine ⟨Lg, hg, ndg, frg, fun I' H' R' Lg' s ndg' frg' sub' hR' => ?_⟩
  obtain ⟨Lf', wf', sf⟩ := fing I' H' R' Lg' s ndg' frg' sub' hR'
  have pn : p ∉ Lf := fun h => nd2.2.2 p (by simp) p h rfl
  have dn : dx ∉ Lf := fun h => nd2.2.2 dx (by simp) dx h rfl
  have pn' : p ∉ Lf' := fun h => (sf.l p h).elim pn fun q => by rw [h3] at q; cases q
  have dn' : dx ∉ Lf' := fun h => (sf.l dx h).elim dn fun q => by rw [h4] at q; cases q
  have non : ∀ a, a = p ∨ a = dx → I' a = none := fun a ha => by
    cases e : I' a with
    | none => rfl
    | some o =>
      rcases sf.n a o e with q | q | q
      · rw [fr a (by simp; rcases ha with h | h; exact .inl h; exact .inr (.inl h))] at q; cases q
      · rcases ha with rfl | rfl
        · exact absurd q pn
        · exact absurd q dn
      · rcases ha with rfl | rfl
        · rw [h3] at q; cases q
        · rw [h4] at q; cases q
  refine fin I' H' (Robj K C ns (fs.set i (.res w R'))) ([p, dx] ++ Lf') (sf.frame [p, dx]) (List.nodup_append.mpr ⟨nd2.1, wf'.nd, fun a ha b hb e => ?_⟩) (fun a ha => ?_) sub' ⟨p, dx, vs, Lf', rfl, rfl, hne, sf.keep p _ h3 pn, sf.keep dx _ h4 dn, h5, wf'.env⟩
  · subst e
    simp at ha
    rcases ha with rfl | rfl
    · exact pn' hb
    · exact dn' hb
  · rcases List.mem_append.mp ha with ha | ha
    · exact non a (by simpa using ha)
    · exact wf'.fr a ha

/-! dicts as data -/
theorem ev_dget {es : List (Key × D)} {k : Key} {kd : D} (h1 : Ev K m td Γ (D.dict es) Γ1) (h2 : Ev K m ty Γ1 kd Γ2) (hk : ∀ I v, Is K I v kd → v = kV k) (hl : look es k = some d) : Ev K m (tDGet td ty) Γ d Γ2 := fun σ I H L w Q q =>
  h1 σ I H L w _ fun v I1 H1 L1 w1 g1 hv => h2 σ I1 H1 L1 w1 _ fun y I2 H2 L2 w2 g2 hy => by
    obtain ⟨a, kvs, rfl, hr, hK⟩ := dict_is hv
    rcases (hK.mono g2.i).look k with ⟨_, e⟩ | ⟨x, d', e1, e2, hx⟩
    · rw [e] at hl; cases hl
    · rw [hl] at e2
      cases e2
      exact ⟨a, x, rfl, .inl ⟨kvs, k, w2.sub.rd (g2.i.rd hr), hk _ _ hy, e1.symm⟩, q x I2 H2 L2 w2 (g1.trans g2) hx⟩
theorem ev_din {es : List (Key × D)} {k : Key} {kd : D} (h2 : Ev K m ty Γ kd Γ1) (h1 : Ev K m td Γ1 (D.dict es) Γ2) (hk : ∀ I v, Is K I v kd → v = kV k) : Ev K m (tDIn ty td) Γ (.bl (look es k).isSome) Γ2 := fun σ I H L w Q q =>
  h2 σ I H L w _ fun y I1 H1 L1 w1 g1 hy => h1 σ I1 H1 L1 w1 _ fun v I2 H2 L2 w2 g2 hv => by
    obtain ⟨a, kvs, rfl, hr, hK⟩ := dict_is hv
    have key : (valV kvs k).isSome = (look es k).isSome := by
      rcases hK.look k with ⟨e1, e2⟩ | ⟨x, d', e1, e2, hx⟩
      · rw [e1, e2]; rfl
      · rw [e1, e2]; rfl
    exact ⟨a, _, rfl, .inl ⟨kvs, k, w2.sub.rd hr, hk _ _ hy, rfl⟩, by rw [key]; exact q _ I2 H2 L2 w2 (g1.trans g2) (.bl _)⟩
theorem ev_dnotin {es : List (Key × D)} {k : Key} {kd : D} (h2 : Ev K m ty Γ kd Γ1) (h1 : Ev K m td Γ1 (D.dict es) Γ2) (hk : ∀ I v, Is K I v kd → v = kV k) : Ev K m (tDNotIn ty td) Γ (.bl (!(look es k).isSome)) Γ2 := fun σ I H L w Q q =>
  h2 σ I H L w _ fun y I1 H1 L1 w1 g1 hy => h1 σ I1 H1 L1 w1 _ fun v I2 H2 L2 w2 g2 hv => by
    obtain ⟨a, kvs, rfl, hr, hK⟩ := dict_is hv
    have key : (valV kvs k).isSome = (look es k).isSome := by
      rcases hK.look k with ⟨e1, e2⟩ | ⟨x, d', e1, e2, hx⟩
      · rw [e1, e2]; rfl
      · rw [e1, e2]; rfl
    exact ⟨a, _, rfl, .inl ⟨kvs, k, w2.sub.rd hr, hk _ _ hy, rfl⟩, by rw [key]; exact q _ I2 H2 L2 w2 (g1.trans g2) (.bl _)⟩
theorem kInt {n : Int} : ∀ I v, Is K I v (.int n) → v = kV (.inl n) := fun I v h => by cases h; rfl
theorem kStr {s : Str} : ∀ I v, Is K I v (.str s) → v = kV (.inr s) := fun I v h => by cases h; rfl
/-! dicts at places -/
theorem er_dnew : EvR K tDNewK Γ (Rdic K []) Γ := fun σ I H L w Q q p hp => by
  obtain ⟨w2, s2⟩ := w.allocR (o := .dK []) (R := Rdic K []) hp ⟨p, [], rfl, rfl, upd_same, .nil⟩
  exact q _ _ _ _ w2 s2
theorem ev_dget1P {es es' : List (Key × D)} {k : Key} {kd : D} {up' : Res → List Sl} (hr : RefE K td Γ v) (hp : Plc K Γ v (Rdic K es) up) (h2 : Ev K m ty Γ kd Γ1) (hp' : Plc K Γ1 v (Rdic K es') up') (hk : ∀ I v, Is K I v kd → v = kV k) : Ev K m (tDGet1 td ty) Γ ((look es' k).getD .non) Γ1 := fun σ I H L w Q q =>
  hr σ I H L w _ (by
    obtain ⟨Li, ⟨a, kvs, rfl, _, ha, _⟩, _⟩ := hp σ I H L w
    refine ⟨a, rfl, .inl ⟨kvs, .inl ha⟩, h2 σ I H L w _ fun y I1 H1 L1 w1 g1 hy => ?_⟩
    obtain ⟨Li1, ⟨a1, kvs1, e, _, ha1, hK⟩, _⟩ := hp' σ I1 H1 L1 w1
    cases e
    rcases hK.look k with ⟨e1, e2⟩ | ⟨x, d', e1, e2, hx⟩
    · exact ⟨none, .inl ⟨kvs1, k, .inl ha1, hk _ _ hy, e1.symm⟩, q _ I1 H1 L1 w1 g1 (by rw [e2]; exact .non)⟩
    · exact ⟨some x, .inl ⟨kvs1, k, .inl ha1, hk _ _ hy, e1.symm⟩, q _ I1 H1 L1 w1 g1 (by rw [e2]; exact hx)⟩)
theorem ev_dget2P {es es' : List (Key × D)} {k : Key} {kd e0 : D} {up' : Res → List Sl} (hr : RefE K td Γ v) (hp : Plc K Γ v (Rdic K es) up) (h2 : Ev K m ty Γ kd Γ1) (h3 : Ev K m tx Γ1 e0 Γ2) (hp' : Plc K Γ2 v (Rdic K es') up') (hk : ∀ I v, Is K I v kd → v = kV k) : Ev K m (tDGet2 td ty tx) Γ ((look es' k).getD e0) Γ2 := fun σ I H L w Q q =>
  hr σ I H L w _ (by
    obtain ⟨Li, ⟨a, kvs, rfl, _, ha, _⟩, _⟩ := hp σ I H L w
    refine ⟨a, rfl, .inl ⟨kvs, .inl ha⟩, h2 σ I H L w _ fun y I1 H1 L1 w1 g1 hy => h3 σ I1 H1 L1 w1 _ fun z I2 H2 L2 w2 g2 hz => ?_⟩
    obtain ⟨Li1, ⟨a1, kvs1, e, _, ha1, hK⟩, _⟩ := hp' σ I2 H2 L2 w2
    cases e
    rcases hK.look k with ⟨e1, e2⟩ | ⟨x, d', e1, e2, hx⟩
    · exact ⟨none, .inl ⟨kvs1, k, .inl ha1, hk _ _ hy, e1.symm⟩, q _ I2 H2 L2 w2 (g1.trans g2) (by rw [e2]; exact hz)⟩
    · exact ⟨some x, .inl ⟨kvs1, k, .inl ha1, hk _ _ hy, e1.symm⟩, q _ I2 H2 L2 w2 (g1.trans g2) (by rw [e2]; exact hx)⟩)
theorem ev_dgetP {es : List (Key × D)} {k : Key} {kd : D} (hr : RefE K td Γ v) (h2 : Ev K m ty Γ kd Γ1) (hp' : Plc K Γ1 v (Rdic K es) up) (hk : ∀ I v, Is K I v kd → v = kV k) (hl : look es k = some d) : Ev K m (tDGet td ty) Γ d Γ1 := fun σ I H L w Q q =>
  hr σ I H L w _ (h2 σ I H L w _ fun y I1 H1 L1 w1 g1 hy => by
    obtain ⟨Li1, ⟨a1, kvs1, e, _, ha1, hK⟩, _⟩ := hp' σ I1 H1 L1 w1
    subst e
    rcases hK.look k with ⟨e1, e2⟩ | ⟨x, d', e1, e2, hx⟩
    · rw [hl] at e2; cases e2
    · rw [hl] at e2
      cases e2
      exact ⟨a1, x, rfl, .inl ⟨kvs1, k, .inl ha1, hk _ _ hy, e1.symm⟩, q _ I1 H1 L1 w1 g1 hx⟩)
theorem isSome_of {kvs : List (Key × V)} {es : List (Key × D)} {k : Key} (hK : IsK K I kvs es) : (valV kvs k).isSome = (look es k).isSome := by
  rcases hK.look k with ⟨e1, e2⟩ | ⟨x, d', e1, e2, hx⟩
  · rw [e1, e2]; rfl
  · rw [e1, e2]; rfl
theorem ev_dinP {es : List (Key × D)} {k : Key} {kd : D} (h2 : Ev K m ty Γ kd Γ1) (hr : RefE K td Γ1 v) (hp : Plc K Γ1 v (Rdic K es) up) (hk : ∀ I v, Is K I v kd → v = kV k) : Ev K m (tDIn ty td) Γ (.bl (look es k).isSome) Γ1 := fun σ I H L w Q q =>
  h2 σ I H L w _ fun y I1 H1 L1 w1 g1 hy => hr σ I1 H1 L1 w1 _ (by
    obtain ⟨Li1, ⟨a1, kvs1, rfl, _, ha1, hK⟩, _⟩ := hp σ I1 H1 L1 w1
    exact ⟨a1, _, rfl, .inl ⟨kvs1, k, .inl ha1, hk _ _ hy, rfl⟩, by rw [isSome_of hK]; exact q _ I1 H1 L1 w1 g1 (.bl _)⟩)
theorem ev_dnotinP {es : List (Key × D)} {k : Key} {kd : D} (h2 : Ev K m ty Γ kd Γ1) (hr : RefE K td Γ1 v) (hp : Plc K Γ1 v (Rdic K es) up) (hk : ∀ I v, Is K I v kd → v = kV k) : Ev K m (tDNotIn ty td) Γ (.bl (!(look es k).isSome)) Γ1 := fun σ I H L w Q q =>
  h2 σ I H L w _ fun y I1 H1 L1 w1 g1 hy => hr σ I1 H1 L1 w1 _ (by
    obtain ⟨Li1, ⟨a1, kvs1, rfl, _, ha1, hK⟩, _⟩ := hp σ I1 H1 L1 w1
    exact ⟨a1, _, rfl, .inl ⟨kvs1, k, .inl ha1, hk _ _ hy, rfl⟩, by rw [isSome_of hK]; exact q _ I1 H1 L1 w1 g1 (.bl _)⟩)
/-- d[k] = e -/
theorem run_dput {es : List (Key × D)} {k : Key} {kd : D} {tv : TE} (h1 : Ev K m tv Γ d Γ1) (hr : RefE K td Γ1 v) (h2 : Ev K m ty Γ1 kd Γ2) (hp : Plc K Γ2 v (Rdic K es) up) (hk : ∀ I v, Is K I v kd → v = kV k) (hz : es.length < sizeLine) : Run K (sDPut td ty tv) Γ (.nx (up (Rdic K (putD es k d)))) := fun σ I H L w Dn p =>
  h1 σ I H L w _ fun x I1 H1 L1 w1 g1 hx => hr σ I1 H1 L1 w1 _ (h2 σ I1 H1 L1 w1 _ fun y I2 H2 L2 w2 g2 hy => by
    obtain ⟨Li, ⟨a, kvs, rfl, rfl, ha, hK⟩, nd, fr, fin⟩ := hp σ I2 H2 L2 w2
    obtain ⟨L3, w3, s3⟩ := fin I2 (upd H2 a (.dK (putK kvs k x))) (Rdic K (putD es k d)) [a] ⟨Ex.refl _, fun b o e hb => by rw [upd_ne (by simpa using hb)]; exact e, fun b hb => .inl hb, fun b o e => .inl e⟩ nd fr (fun b o e => by
      rw [upd_ne (ne_of_none e (fr a (by simp)))]
      exact w2.sub b o e) ⟨a, _, rfl, rfl, upd_same, hK.put (hx.mono g2.i)⟩
    exact ⟨a, _, rfl, .inl ⟨kvs, k, ha, hk _ _ hy, by rw [hK.len]; exact hz, rfl⟩, p σ I2 _ L3 w3 ((g1.step.trans g2.step).trans s3)⟩)
/-- what stands in a slot as a dict is data from now on -/
theorem Wd.frzD {σ : Sg} {es : List (Key × D)} (w : Wd K Γ σ I H L) (hi : Γ[i]? = some (.res v (Rdic K es))) :
    ∃ I' L', Wd K (Γ.set i (.dat (D.dict es))) σ I' H L' ∧ Step I H L I' H L' ∧ Is K I' v (D.dict es) := by
  obtain ⟨h1, L1, Li, L2, rfl, ⟨a, kvs, rfl, rfl, ha, hK⟩, hk⟩ := w.env.getR hi
  have Ia : I a = none := w.fr a (by simp)
  have ei : Ex I (upd I a (.dK kvs)) := Ex.new Ia
  have w0 : EnvOk K (upd I a (.dK kvs)) H Γ σ (L1 ++ ([a] ++ L2)) := w.env.keep ei fun _ _ => rfl
  have hd : Is K (upd I a (.dK kvs)) (.ref a) (D.dict es) := is_dict (.inl upd_same) (hK.mono ei)
  have key : ∀ {Γ : List Sl} {σ : Sg} {L : List Addr} {i : Nat}, EnvOk K (upd I a (.dK kvs)) H Γ σ L → L.Nodup → Γ[i]? = some (.res (.ref a) (Rdic K es)) → ∃ L', L'.Sublist L ∧ a ∉ L' ∧ EnvOk K (upd I a (.dK kvs)) H (Γ.set i (.dat (D.dict es))) σ L' := by
    intro Γ σ L i e
    induction e generalizing i with
    | nil => intro _ h; simp at h
    | em x e ih =>
      intro nd h
      cases i with
      | zero => simp at h
      | succ i => obtain ⟨L', s, na, r⟩ := ih nd (by simpa using h); exact ⟨L', s, na, .em x r⟩
    | dat p e ih =>
      intro nd h
      cases i with
      | zero => simp at h
      | succ i => obtain ⟨L', s, na, r⟩ := ih nd (by simpa using h); exact ⟨L', s, na, .dat p r⟩
    | @res Γ σ L1 L2 v R p e ih =>
      intro nd h
      have nd' := List.nodup_append.mp nd
      cases i with
      | zero =>
        simp at h
        obtain ⟨rfl, rfl⟩ := h
        obtain ⟨b, ys, e1, rfl, _, _⟩ := p
        cases e1
        exact ⟨L2, List.sublist_append_right _ _, fun h => nd'.2.2 a (by simp) a h rfl, .dat hd e⟩
      | succ i =>
        have h' : Γ[i]? = some (.res (.ref a) (Rdic K es)) := by simpa using h
        obtain ⟨L', s, na, r⟩ := ih nd'.2.1 h'
        refine ⟨L1 ++ L', List.Sublist.append_left s _, fun h => ?_, .res p r⟩
        rcases List.mem_append.mp h with h | h
        · obtain ⟨_, M1, Mi, M2, hM, ⟨b, ys, e1, rfl, _, _⟩, _⟩ := e.getR h'
          cases e1
          exact nd'.2.2 a h a (by rw [hM]; simp) rfl
        · exact na h
  obtain ⟨L', s, na, r⟩ := key w0 w.nd hi
  have memL : ∀ b, b ∈ L' → b ∈ L1 ++ ([a] ++ L2) := fun b hb => s.subset hb
  refine ⟨upd I a (.dK kvs), L', ⟨r, w.nd.sublist s, fun b hb => ?_, fun b o e => ?_⟩, ⟨ei, fun _ _ h _ => h, fun b hb => .inl (memL b hb), fun b o e => ?_⟩, hd⟩
  · have hne : b ≠ a := fun e => na (e ▸ hb)
    rw [upd_ne hne]
    exact w.fr b (memL b hb)
  · by_cases h : b = a
    · subst h; rw [upd_same] at e; cases e; exact ha
    · rw [upd_ne h] at e; exact w.sub b o e
  · by_cases h : b = a
    · subst h; exact .inr (.inl (by simp))
    · rw [upd_ne h] at e; exact .inl e
theorem Run.frzD {ts : TS} {es : List (Key × D)} (hi : Γ[i]? = some (.res v (Rdic K es))) (h : Run K ts (Γ.set i (.dat (D.dict es))) o) : Run K ts Γ o :=
  Run.ghost (fun σ I H L w => let ⟨I', L', w', s, _⟩ := w.frzD hi; ⟨I', L', w', s⟩) h
/-- a slot's resource taken out -/
theorem EnvOk.takeR : ∀ {Γ : List Sl} {σ : Sg} {L : List Addr} {k : Nat}, EnvOk K I H Γ σ L → Γ[k]? = some (.res v R) → ∃ M1 Mi M2, L = M1 ++ (Mi ++ M2) ∧ R.P I v H Mi ∧ EnvOk K I H (Γ.set k .em) σ (M1 ++ M2)
  | _, _, _, k, .nil, h => by simp at h
  | _, _, _, 0, .em x e, h => by simp at h
  | _, _, _, 0, .dat x e, h => by simp at h
  | _, _, _, 0, .res (L1 := N1) (L2 := N2) q e, h => by simp at h; obtain ⟨rfl, rfl⟩ := h; exact ⟨[], N1, N2, rfl, q, .em _ e⟩
  | _, _, _, k + 1, .em x e, h => by
    obtain ⟨M1, Mi, M2, e1, e2, e3⟩ := EnvOk.takeR (k := k) e (by simpa using h)
    exact ⟨M1, Mi, M2, e1, e2, .em x e3⟩
  | _, _, _, k + 1, .dat q e, h => by
    obtain ⟨M1, Mi, M2, e1, e2, e3⟩ := EnvOk.takeR (k := k) e (by simpa using h)
    exact ⟨M1, Mi, M2, e1, e2, .dat q e3⟩
  | _, _, _, k + 1, .res (L1 := N1) q e, h => by
    obtain ⟨M1, Mi, M2, e1, e2, e3⟩ := EnvOk.takeR (k := k) e (by simpa using h)
    exact ⟨N1 ++ M1, Mi, M2, by rw [e1, List.append_assoc], e2, by rw [List.append_assoc]; exact .res q e3⟩
theorem Wd.takeR {σ : Sg} {k : Nat} (w : Wd K Γ σ I H L) (h : Γ[k]? = some (.res v R)) : σ[k]? = some (some v) ∧ ∃ L', Wd K (.res v R :: Γ.set k .em) (some v :: σ) I H L' ∧ Step I H L I H L' := by
  obtain ⟨M1, Mi, M2, rfl, hp, e⟩ := w.env.takeR h
  have pm : (Mi ++ (M1 ++ M2)).Perm (M1 ++ (Mi ++ M2)) := List.perm_append_comm_assoc Mi M1 M2
  exact ⟨(w.stepR h).1, Mi ++ (M1 ++ M2), ⟨.res hp e, pm.nodup_iff.mpr w.nd, fun a ha => w.fr a (pm.mem_iff.mp ha), w.sub⟩, ⟨Ex.refl I, fun _ _ q _ => q, fun a ha => .inl (pm.mem_iff.mp ha), fun _ _ q => .inl q⟩⟩
/-- return of a slot's resource -/
theorem run_retRes {k : Nat} (h : Γ[k]? = some (.res v R)) : Run K (tRet (tVar k)) Γ (.rtR R (Γ.set k .em)) := fun σ I H L w Dn p => by
  obtain ⟨hσ, L', w', s⟩ := w.takeR h
  exact ⟨v, hσ, p v σ I H L' w' s⟩
end
end FD

/-! FD7: methods, makers, fields written, hidden values. -/
namespace FD
open PySem PySem.Spec PyProof.Rows L2

/-- a resource with a hidden value -/
def Rex (F : V → Res) : Res where
  P I v H L := ∃ w, (F w).P I v H L
  mono e h := h.imp fun w h => (F w).mono e h
  frame f h := h.imp fun w h => (F w).frame f h
  live h := by
    obtain ⟨w, h⟩ := h
    exact (F w).live h
section
variable {K : PySem.W.Frag} {m : Md} {Γ Γ' Γ1 Γ2 Γ3 : List Sl} {ta tb te tx tl ti td ty to : TE} {t u : TT} {x y z d : D} {r r' : R2} {a b c : Bool} {I H I' H' : Hp} {L L' : List Addr} {i j k : Nat} {o : Out} {v w : V} {R R' : Res} {C : Addr} {ns : List Str} {fs : List Sl} {f mm : Str} {up up0 : Res → List Sl}
theorem EnvOk.openX {F : V → Res} : ∀ {Γ : List Sl} {σ : Sg} {L : List Addr} {k : Nat}, EnvOk K I H Γ σ L → Γ[k]? = some (.res v (Rex F)) → ∃ w, EnvOk K I H (Γ.set k (.res v (F w))) σ L
  | _, _, _, k, .nil, h => by simp at h
  | _, _, _, 0, .em x e, h => by simp at h
  | _, _, _, 0, .dat x e, h => by simp at h
  | _, _, _, 0, .res q e, h => by
    simp at h
    obtain ⟨rfl, rfl⟩ := h
    obtain ⟨w, q⟩ := q
    exact ⟨w, .res q e⟩
  | _, _, _, k + 1, .em x e, h => by
    obtain ⟨w, q⟩ := EnvOk.openX (k := k) e (by simpa using h)
    exact ⟨w, .em x q⟩
  | _, _, _, k + 1, .dat p e, h => by
    obtain ⟨w, q⟩ := EnvOk.openX (k := k) e (by simpa using h)
    exact ⟨w, .dat p q⟩
  | _, _, _, k + 1, .res p e, h => by
    obtain ⟨w, q⟩ := EnvOk.openX (k := k) e (by simpa using h)
    exact ⟨w, .res p q⟩
theorem Run.openX {ts : TS} {F : V → Res} (hi : Γ[k]? = some (.res v (Rex F))) (h : ∀ w, Run K ts (Γ.set k (.res v (F w))) o) : Run K ts Γ o := fun σ I H L wd Dn p => by
  obtain ⟨w, e⟩ := wd.env.openX hi
  exact h w σ I H L ⟨e, wd.nd, wd.fr, wd.sub⟩ Dn p
theorem allDat : ∀ {I H : Hp} {ds : List D} {vs : Sg} {L : List Addr}, EnvOk K I H (ds.map .dat) vs L → L = [] := by
  intro I H ds
  induction ds with
  | nil => intro vs L h; cases h; rfl
  | cons d ds ih => intro vs L h; cases h with | dat _ e => exact ih e
/-- a call whose first argument is the resource at a place -/
theorem call_place {sp : Sp} {ds : List D} {vs : List V} {σ : Sg} {E : XK} (w1 : Wd K Γ σ I H L) (hp : Plc K Γ v R up) (hv : IsA K I vs ds) (hs : Con K sp (.res v R :: ds.map .dat) z (.res v R' :: ds.map .dat)) (Q : VK)
    (q : ∀ u I2 H2 L2, Wd K (up R') σ I2 H2 L2 → Step I H L I2 H2 L2 → Is K I2 u z → Q u H2) : sp (v :: vs) H Q E := by
  obtain ⟨Li, hR, nd, fr, fin⟩ := hp σ I H L w1
  refine hs (v :: vs) I H Li ⟨?_, nd, fr, w1.sub⟩ Q E fun u I2 H2 L2 w2 s2 hu => ?_
  · have := EnvOk.res (L1 := Li) (L2 := []) hR (env_dats (H := H) hv)
    rw [List.append_nil] at this
    exact this
  · have e2 := w2.env
    cases e2 with
    | @res _ _ M1 M2 _ _ p e =>
      have hM := allDat e
      subst hM
      rw [List.append_nil] at s2
      have nd2 : M1.Nodup := by simpa using w2.nd
      obtain ⟨L', w3, s3⟩ := fin I2 H2 R' M1 s2 nd2 (fun a h => w2.fr a (by simp [h])) w2.sub p
      exact q u I2 H2 L' w3 s3 hu
theorem ev_callP {sp : Sp} {ds : List D} {E : XK} {ta : TA} (hr : RefE K to Γ v) (h : EvA K m ta Γ ds Γ') (hp : Plc K Γ' v R up) (hs : Con K sp (.res v R :: ds.map .dat) z (.res v R' :: ds.map .dat)) : Ev K .e (tCall sp [] E (tCons to ta)) Γ z (up R') := fun σ I H L w Q q =>
  hr σ I H L w _ (h σ I H L w _ fun vs I1 H1 L1 w1 g1 hv => by
    show sp (v :: vs ++ []) H1 Q E
    rw [List.append_nil]
    exact call_place w1 hp hv hs Q fun u I2 H2 L2 w2 s2 hu => q u I2 H2 L2 w2 (g1.step.trans s2) hu)
theorem no_lookup : ∀ {ns : List Str} {vs : List V}, mm ∉ ns → (ns.zip vs).lookup mm = none
  | [], _, _ => rfl
  | _ :: _, [], _ => rfl
  | n :: ns, v :: vs, h => by
    simp only [List.mem_cons, not_or] at h
    have ne : (mm == n) = false := beq_eq_false_iff_ne.mpr h.1
    show ((n, v) :: ns.zip vs).lookup mm = none
    rw [List.lookup_cons, ne]
    exact no_lookup h.2
/-- what a method's call asks of the object: an instance of the class at C without an attribute of that name -/
def ObjAt (K : PySem.W.Frag) (C : Addr) (mm : Str) (R : Res) : Prop := ∀ I v H L, R.P I v H L → ∃ p dx fv, v = .ref p ∧ H p = some (.ins C dx fv) ∧ fv.lookup mm = none
theorem objAt_obj (h : mm ∉ ns) : ObjAt K C mm (Robj K C ns fs) := fun I v H L ⟨p, dx, vs, Lf, h1, h2, h0, h3, h4, h5, h6⟩ => ⟨p, dx, _, h1, h3, no_lookup h⟩
theorem objAt_ex {F : V → Res} (h : ∀ w, ObjAt K C mm (F w)) : ObjAt K C mm (Rex F) := fun I v H L ⟨w, q⟩ => h w I v H L q
theorem ev_meth {sp : Sp} {ds : List D} {E : XK} {ta : TA} (hr : RefE K to Γ v) (hp0 : Plc K Γ v R up0) (hc : ObjAt K C mm R) (h : EvA K m ta Γ ds Γ') (hp : Plc K Γ' v R up) (hs : Con K sp (.res v R :: ds.map .dat) z (.res v R' :: ds.map .dat)) : Ev K .e (tMeth C mm sp [] E to ta) Γ z (up R') := fun σ I H L w Q q =>
  hr σ I H L w _ (by
    obtain ⟨Li, hR, _⟩ := hp0 σ I H L w
    obtain ⟨p, dx, fv, rfl, e1, e2⟩ := hc _ _ _ _ hR
    refine ⟨p, dx, fv, rfl, e1, e2, h σ I H L w _ fun vs I1 H1 L1 w1 g1 hv => ?_⟩
    show sp (V.ref p :: (vs ++ [])) H1 Q E
    rw [List.append_nil]
    exact call_place w1 hp hv hs Q fun u I2 H2 L2 w2 s2 hu => q u I2 H2 L2 w2 (g1.step.trans s2) hu)
/-- with keywords behind, in the parameters' order -/
def tMethN (C : Addr) (mm : Str) (n l : Nat) (sp : Sp) (gV : List V → List V → List V) (E : XK) (to : TE) (t tk : TA) : TE := fun σ H Q => to σ H fun x H1 => ∃ a dx fs, x = .ref a ∧ H1 a = some (.ins C dx fs) ∧ fs.lookup mm = none ∧
  t σ H1 fun vs H2 => tk σ H2 fun zs H3 => (x :: vs).length = n ∧ zs.length = l ∧ sp (gV (x :: vs) zs) H3 Q E
theorem ev_methN {sp : Sp} {ds es : List D} {E : XK} {ta tk : TA} {n l : Nat} {gV : List V → List V → List V} (hr : RefE K to Γ v) (hp0 : Plc K Γ v R up0) (hc : ObjAt K C mm R) (h : EvA K m ta Γ ds Γ1) (h2 : EvA K m tk Γ1 es Γ') (hp : Plc K Γ' v R up)
    (hn : ds.length + 1 = n) (hl : es.length = l) (hg : ∀ vs zs, vs.length = ds.length → zs.length = es.length → gV (v :: vs) zs = v :: (vs ++ zs)) (hs : Con K sp (.res v R :: (ds ++ es).map .dat) z (.res v R' :: (ds ++ es).map .dat)) : Ev K .e (tMethN C mm n l sp gV E to ta tk) Γ z (up R') := fun σ I H L w Q q =>
  hr σ I H L w _ (by
    obtain ⟨Li, hR, _⟩ := hp0 σ I H L w
    obtain ⟨p, dx, fv, rfl, e1, e2⟩ := hc _ _ _ _ hR
    refine ⟨p, dx, fv, rfl, e1, e2, h σ I H L w _ fun vs I1 H1 L1 w1 g1 hv => h2 σ I1 H1 L1 w1 _ fun zs I2 H2 L2 w2 g2 hz => ⟨by rw [List.length_cons, hv.length]; exact hn, by rw [hz.length]; exact hl, ?_⟩⟩
    rw [hg vs zs hv.length hz.length]
    exact call_place w2 hp ((hv.mono g2.i).append hz) hs Q fun u I3 H3 L3 w3 s3 hu => q u I3 H3 L3 w3 ((g1.step.trans g2.step).trans s3) hu)
/-! a new object -/
theorem make_new {σ : Sg} {sp : Sp} {ds : List D} {vs : List V} {E : XK} {p dx : Addr} {Q : VK} (w1 : Wd K Γ σ I H L) (hp : H p = none) (hd : H dx = none) (hne : dx ≠ p) (hv : IsA K I vs ds) (hs : ∀ v, Con K sp (.res v (Robj K C [] []) :: ds.map .dat) .non (.res v R' :: ds.map .dat))
    (q : ∀ I2 H2 L2, Wd K (.res (.ref p) R' :: Γ) (some (.ref p) :: σ) I2 H2 L2 → Step I H L I2 H2 L2 → Q (.ref p) H2) : sp (.ref p :: vs) (upd (upd H dx (.own p)) p (.ins C dx [])) (fun v H2 => v = .non ∧ Q (.ref p) H2) E := by
  have hpL : p ∉ L := fun h => w1.live p h hp
  have hdL : dx ∉ L := fun h => w1.live dx h hd
  have Ip := w1.sub.back hp
  have Id := w1.sub.back hd
  have exH : Ex H (upd (upd H dx (.own p)) p (.ins C dx [])) := fun a o h => by
    rw [upd_ne (ne_of_none h hp), upd_ne (ne_of_none h hd)]
    exact h
  refine hs (.ref p) (.ref p :: vs) I _ [p, dx] ⟨?_, by simp [Ne.symm hne], fun a h => by simp at h; rcases h with rfl | rfl; exact Ip; exact Id, w1.sub.trans exH⟩ _ E fun u I2 H2 L2 w2 s2 hu => ?_
  · have := EnvOk.res (K := K) (I := I) (H := upd (upd H dx (.own p)) p (.ins C dx [])) (L1 := [p, dx]) (L2 := []) (R := Robj K C [] []) (v := .ref p) ⟨p, dx, [], [], rfl, rfl, Ne.symm hne, upd_same, by rw [upd_ne hne, upd_same], rfl, .nil⟩ (env_dats hv)
    rw [List.append_nil] at this
    exact this
  · cases hu
    refine ⟨rfl, ?_⟩
    have e2 := w2.env
    cases e2 with
    | @res _ _ M1 M2 _ _ pR e =>
      have hM := allDat e
      subst hM
      rw [List.append_nil] at s2 w2
      have nd2 := w2.nd
      have memM : ∀ a ∈ M1, H a = none := fun a h => by
        rcases s2.l a h with q | q
        · simp at q
          rcases q with rfl | rfl
          · exact hp
          · exact hd
        · exact exH.back q
      have n : New I H I2 H2 := ⟨s2.i, fun a o h => s2.keep a o (exH a o h) (by simp; exact ⟨ne_of_none h hp, ne_of_none h hd⟩), fun a o h => by
        rcases s2.n a o h with q | q | q
        · exact .inl q
        · simp at q
          rcases q with rfl | rfl
          · exact .inr hp
          · exact .inr hd
        · exact .inr (exH.back q)⟩
      have w3 := w1.new n w2.sub
      refine q I2 H2 (M1 ++ L) ⟨.res pR w3.env, List.nodup_append.mpr ⟨nd2, w3.nd, fun a h b hb e => w1.live a (e ▸ hb) (memM a h)⟩, fun a h => ?_, w2.sub⟩ ⟨n.i, fun a o h _ => n.h a o h, fun a h => ?_, fun a o h => (n.n a o h).elim .inl fun z => .inr (.inr z)⟩
      · rcases List.mem_append.mp h with h | h
        · exact w2.fr a h
        · exact w3.fr a h
      · rcases List.mem_append.mp h with h | h
        · exact .inr (memM a h)
        · exact .inl h
theorem er_makeR {sp : Sp} {ds : List D} {E : XK} {ta : TA} (h : EvA K m ta Γ ds Γ') (hs : ∀ v, Con K sp (.res v (Robj K C [] []) :: ds.map .dat) .non (.res v R' :: ds.map .dat)) : EvR K (StX.tMakeR C sp E ta) Γ R' Γ' := fun σ I H L w Q q =>
  h σ I H L w _ fun vs I1 H1 L1 w1 g1 hv p dx hp hd hne => make_new w1 hp hd hne hv hs fun I2 H2 L2 w2 s2 => q _ I2 H2 L2 w2 (g1.step.trans s2)
theorem er_make {sp : Sp} {ds : List D} {E : XK} {ta : TA} (h : EvA K m ta Γ ds Γ') (hs : ∀ v, Con K sp (.res v (Robj K C [] []) :: ds.map .dat) .non (.res v R' :: ds.map .dat)) : EvR K (tMake C sp [] E ta) Γ R' Γ' := fun σ I H L w Q q =>
  h σ I H L w _ fun vs I1 H1 L1 w1 g1 hv p dx hp hd hne => by
    show sp (V.ref p :: (vs ++ [])) _ _ E
    rw [List.append_nil]
    exact make_new w1 hp hd hne hv hs fun I2 H2 L2 w2 s2 => q _ I2 H2 L2 w2 (g1.step.trans s2)
/-- *e among arguments: a list's or a tuple's items -/
theorem ea_star {tr : TA} {ds es : List D} (h : Ev K m te Γ x Γ1) (hx : x = .lst ds ∨ x = .tup ds) (hr : EvA K m tr Γ1 es Γ2) : EvA K m (StX.tStar K te tr) Γ (ds ++ es) Γ2 := fun σ I H L w Q q =>
  h σ I H L w _ fun v I1 H1 L1 w1 g1 hv => by
    rcases hx with rfl | rfl
    · cases hv with
      | lst q1 q2 => exact ⟨_, _, rfl, .inr (w1.sub.l q1), hr σ I1 H1 L1 w1 _ fun vs I2 H2 L2 w2 g2 hvs => q _ I2 H2 L2 w2 (g1.trans g2) ((q2.mono g2.i).append hvs)⟩
    · cases hv with
      | tup q1 q2 => exact ⟨_, _, rfl, .inl (w1.sub.t q1), hr σ I1 H1 L1 w1 _ fun vs I2 H2 L2 w2 g2 hvs => q _ I2 H2 L2 w2 (g1.trans g2) ((q2.mono g2.i).append hvs)⟩
/-! fields written -/
theorem putF_new : ∀ {ns : List Str} {vs : List V} {y : V}, f ∉ ns → ns.length = vs.length → putF f y (ns.zip vs) = (ns ++ [f]).zip (vs ++ [y])
  | [], [], _, _, _ => by simp [putF]
  | [], _ :: _, _, _, h => by simp at h
  | _ :: _, [], _, _, h => by simp at h
  | n :: ns, v :: vs, y, h, hl => by
    simp only [List.mem_cons, not_or] at h
    have ih := putF_new (ns := ns) (vs := vs) (y := y) h.2 (by simpa using hl)
    simp only [List.zip_cons_cons, List.cons_append]
    rw [← ih]
    simp [putF, h.1, Ne.symm h.1]
theorem env_snoc {σ : Sg} {L1 L2 : List Addr} (e : EnvOk K I H Γ σ L1) (hR : R.P I v H L2) : EnvOk K I H (Γ ++ [.res v R]) (σ ++ [some v]) (L1 ++ L2) := by
  induction e with
  | nil =>
    have := EnvOk.res (L2 := []) hR (.nil : EnvOk K I H [] [] [])
    rw [List.append_nil] at this
    exact this
  | em x e ih => exact .em x ih
  | dat p e ih => exact .dat p ih
  | res p e ih => rw [List.append_assoc]; exact .res p ih
theorem env_snocD {σ : Sg} {L1 : List Addr} (e : EnvOk K I H Γ σ L1) (hR : Is K I v d) : EnvOk K I H (Γ ++ [.dat d]) (σ ++ [some v]) L1 := by
  induction e with
  | nil => exact .dat hR .nil
  | em x e ih => exact .em x ih
  | dat p e ih => exact .dat p ih
  | res p e ih => exact .res p ih
theorem run_fldD {tv : TE} (h : Ev K m tv Γ d Γ1) (hr : RefE K ta Γ1 v) (hp : Plc K Γ1 v (Robj K C ns fs) up) (c : Cls K C) (hn : NoAttr K C f) (hf : f ∉ ns) (hz : ns.length < 1000) : Run K (sFld K ta tv f) Γ (.nx (up (Robj K C (ns ++ [f]) (fs ++ [.dat d])))) := fun σ I H L wd Dn q =>
  h σ I H L wd _ fun y I1 H1 L1 w1 g1 hy => hr σ I1 H1 L1 w1 _ (by
    obtain ⟨Li, ⟨p, dx, vs, Lf, rfl, rfl, hne, h3, h4, h5, h6⟩, nd, fr, fin⟩ := hp σ I1 H1 L1 w1
    refine ⟨p, C, dx, _, rfl, h3, c, hn, by rw [List.length_zip, h5, Nat.min_self]; omega, ?_⟩
    rw [putF_new hf h5]
    have nd2 := List.nodup_append.mp nd
    have pn : p ∉ Lf := fun h => nd2.2.2 p (by simp) p h rfl
    obtain ⟨L2, w2, s2⟩ := fin I1 (upd H1 p (.ins C dx ((ns ++ [f]).zip (vs ++ [y])))) (Robj K C (ns ++ [f]) (fs ++ [.dat d])) ([p, dx] ++ Lf) ⟨Ex.refl _, fun b o e hb => by rw [upd_ne (fun z => hb (by simp [z]))]; exact e, fun b hb => .inl hb, fun b o e => .inl e⟩ nd fr (fun b o e => by
      rw [upd_ne (ne_of_none e (fr p (by simp)))]
      exact w1.sub b o e) ⟨p, dx, vs ++ [y], Lf, rfl, rfl, hne, upd_same, by rw [upd_ne (Ne.symm hne)]; exact h4, by simp [h5], by
        have := env_snocD h6 hy
        rw [List.map_append]
        exact this.keep (Ex.refl _) fun a h => upd_ne fun e => pn (e ▸ h)⟩
    exact q σ I1 _ L2 w2 (g1.step.trans s2))
/-- self.f = a new resource -/
theorem run_fldR {tv : TE} (h : EvR K tv Γ R Γ1) (hk : Γ1[k]? = some (.res v (Robj K C ns fs))) (c : Cls K C) (hn : NoAttr K C f) (hf : f ∉ ns) (hz : ns.length < 1000) : Run K (sFld K (tVar k) tv f) Γ (.nx (Γ1.set k (.res v (Rex fun w => Robj K C (ns ++ [f]) (fs ++ [.res w R]))))) := fun σ I H L wd Dn q =>
  h σ I H L wd _ fun y I1 H1 L1 w1 g1 => by
    have e1 := w1.env
    cases e1 with
    | @res _ _ N1 N2 _ _ pR eΓ =>
      have ndN := List.nodup_append.mp w1.nd
      obtain ⟨hσ, M1, Mi, M2, rfl, ⟨p, dx, vs, Lf, rfl, rfl, hne, h3, h4, h5, h6⟩, hk2⟩ := eΓ.getR hk
      refine ⟨_, hσ, p, C, dx, _, rfl, h3, c, hn, by rw [List.length_zip, h5, Nat.min_self]; omega, ?_⟩
      rw [putF_new hf h5]
      have ndA := List.nodup_append.mp ndN.2.1
      have ndB := List.nodup_append.mp ndA.2.1
      have ndC := List.nodup_append.mp ndB.1
      have pLf : p ∉ Lf := fun h => ndC.2.2 p (by simp) p h rfl
      have pM : p ∉ M1 ++ M2 := fun h => by
        rcases List.mem_append.mp h with h | h
        · exact ndA.2.2 p h p (by simp) rfl
        · exact ndB.2.2 p (by simp) p h rfl
      have pN : p ∉ N1 := fun h => ndN.2.2 p h p (by simp) rfl
      have fr := w1.fr
      have Ip : I1 p = none := fr p (by simp)
      have eF : EnvOk K I1 (upd H1 p (.ins C dx ((ns ++ [f]).zip (vs ++ [y])))) (fs ++ [.res y R]) ((vs ++ [y]).map some) (Lf ++ N1) := by
        have e := env_snoc h6 pR
        rw [List.map_append]
        exact e.keep (Ex.refl _) fun a ha => upd_ne fun e => by
          subst e
          rcases List.mem_append.mp ha with ha | ha
          · exact pLf ha
          · exact pN ha
      have e2 := hk2 I1 (upd H1 p (.ins C dx ((ns ++ [f]).zip (vs ++ [y])))) (Rex fun w => Robj K C (ns ++ [f]) (fs ++ [.res w R])) ([p, dx] ++ (Lf ++ N1)) (Ex.refl _) (fun a ha => upd_ne fun e => pM (e ▸ ha)) ⟨y, p, dx, vs ++ [y], Lf ++ N1, rfl, rfl, hne, upd_same, by rw [upd_ne (Ne.symm hne)]; exact h4, by simp [h5], eF⟩
      have pm : (M1 ++ (([p, dx] ++ (Lf ++ N1)) ++ M2)).Perm (N1 ++ (M1 ++ (([p, dx] ++ Lf) ++ M2))) := by
        have q1 : (M1 ++ (([p, dx] ++ (Lf ++ N1)) ++ M2)) = (M1 ++ ([p, dx] ++ Lf)) ++ (N1 ++ M2) := by simp
        have q2 : (N1 ++ (M1 ++ (([p, dx] ++ Lf) ++ M2))) = N1 ++ ((M1 ++ ([p, dx] ++ Lf)) ++ M2) := by simp
        rw [q1, q2]
        exact List.perm_append_comm_assoc _ _ _
      refine q σ I1 _ _ ⟨e2, pm.nodup_iff.mpr w1.nd, fun a ha => fr a (pm.mem_iff.mp ha), fun a o e => ?_⟩ (g1.trans ⟨Ex.refl _, fun a o e ha => ?_, fun a ha => .inl (pm.mem_iff.mp ha), fun a o e => .inl e⟩)
      · rw [upd_ne (ne_of_none e Ip)]
        exact w1.sub a o e
      · rw [upd_ne (fun z => ha (by rw [z]; simp))]
        exact e
end
end FD

/-! FD8: more rules of calls. -/
namespace FD
open PySem PySem.Spec PyProof.Rows L2
section
variable {X : Cx} {CX : CXT} {k n : Nat} {C f : Addr} {fd : FuncData} {ps ks : List Str} {sp : Sp} {E : XK} {m : Str} {apos pos : Pos} {e o : Expr} {es : List Expr} {kws : List Keyword} {ta : TE} {t tk : TA} {g : List Value → List Value → List Value} {gV : List V → List V → List V}
/-- o.m(e, .., k = v, ..) -/
theorem pe_methN {pl : Sem Bool} (he : PE X o ta) (c : Cls X.K C) (hm : Meth X.K C m f) (F : FnOk X.prog X.w X.K X.mg X.base CX k f fd ps sp) (hr : Room k X.A) (hb : KBn X.K fd ps n ks g gV) (hx : Passes CX X E)
    (ha : PA X (e :: es) t) (hkw : PK X kws tk) (hall : (backToKw pos (keywordEach kws X.env)).all (·.1.isSome) = true := by rfl) (hks : (backToKw pos (keywordEach kws X.env)).filterMap (·.1) = ks := by rfl)
    (hst : starEach (e :: es) X.env = (false, eval e X.env) :: starEach es X.env := by rfl)
    (hpl : ((backTo pos (starEach (e :: es) X.env)).any (·.1) || (backToKw pos (keywordEach kws X.env)).any (·.1.isNone)) = false := by rfl)
    (ht : eval (.Call (.Attribute o m apos) (e :: es) kws pos) X.env = (do
      let ov ← eval o X.env
      standAt apos.atName
      let (f, first) ← holding [ov] (getMethod ov m pl)
      callWith pos f first (backTo pos (starEach (e :: es) X.env)) (backToKw pos (keywordEach kws X.env))) := by rfl) :
    PE X (.Call (.Attribute o m apos) (e :: es) kws pos) (tMethN C m n ks.length sp gV E ta t tk) := by
  refine ⟨fun pins s σ H Q I h => ?_⟩
  refine PySem.W.methodCall_KW (pl := pl) (thn (he.run pins s σ H _ I h) fun u s1 ⟨x, H1, I1, rx, a, dx, fs, ex, ea, l, q⟩ => ?_) ht
  subst ex
  obtain rfl : u = Value.ref a := rx
  refine getmeth_ok I1 ea c hm l ?_
  refine PySem.W.callWith_KW (first := [.ref a]) (h₀ := X.base) I.ok.mod.kin hm.kp hall (thn (ha.run pos pins s1 σ H1 _ I1 q) fun us s2 ⟨vs, H2, I2, r, q2⟩ => ?_) hpl hst
  refine thn (hkw.run pos pins s2 σ H2 _ I2 q2) fun ws s3 ⟨zs, H3, I3, rz, l1, l2, q3⟩ => ⟨I3.kIn, ?_⟩
  rw [hks]
  exact run_fnN (us := .ref a :: us) (vs := .ref a :: vs) F hr hb hx I3 (.cons rfl r) rz l1 l2 q3
end
end FD

/-! FD9: comparisons of any data, of dicts; isinstance; is. -/
namespace FD
open PySem PySem.Spec PyProof.Rows L2
/-! ### < and its like -/
def Cmpb (d e : PyData) : Prop := PySem.W.alike d e = true ∧ d ≠ .none ∧ d.depth ≤ 60
def rCmpD (K : PySem.W.Frag) (f : PyData → PyData → Bool) : R2 := fun x y H Q => ∃ d e, Dp K H x d ∧ Dp K H y e ∧ Cmpb d e ∧ Q (.bl (f d e)) H
section
variable {X : Cx}
theorem op_cmpD {c : Value → Value → Sem Value} {f : PyData → PyData → Bool} (hu : X.A.units + 64 < cLine)
    (hc : ∀ {prog : Program} {w : PySem.World} {A : Around} {E : Value → Shared → Prop} {s : Shared} {a b : Value} {da db : PyData} {as bs : List Addr} {Q : Value → Shared → Prop}, Reads s.heap a da as → Reads s.heap b db bs → PySem.W.alike da db = true → da ≠ .none → A.units + min da.depth db.depth < cLine → Q (.bool (f da db)) s → wpAny (model prog w) A (c a b) Q E s) : OpR X c (rCmpD X.K f) := by
  intro pins s σ H x y v u Q I rx ry h
  obtain ⟨d, e, hd, he, hc1, q⟩ := h
  obtain ⟨as, r1⟩ := Dp.reads I d x v hd rx
  obtain ⟨bs, r2⟩ := Dp.reads I e y u he ry
  refine hc r1 r2 hc1.1 hc1.2.1 ?_ ⟨.bl _, H, I, rfl, q⟩
  have := hc1.2.2
  have h2 : min d.depth e.depth ≤ d.depth := Nat.min_le_left _ _
  omega
theorem op_ltD (hu : X.A.units + 64 < cLine) : OpR X (compareOp .Lt) (rCmpD X.K PySem.W.dataLt) := op_cmpD hu fun ra rb h hn hu hq => PySem.W.lt_data ra rb h hn hu hq
theorem op_gtD (hu : X.A.units + 64 < cLine) : OpR X (compareOp .Gt) (rCmpD X.K fun d e => PySem.W.dataLt e d) := op_cmpD hu fun ra rb h hn hu hq => PySem.W.gt_data ra rb h hn hu hq
theorem op_leD (hu : X.A.units + 64 < cLine) : OpR X (compareOp .LtE) (rCmpD X.K fun d e => !PySem.W.dataLt e d) := op_cmpD hu fun ra rb h hn hu hq => PySem.W.le_data ra rb h hn hu hq
theorem op_geD (hu : X.A.units + 64 < cLine) : OpR X (compareOp .GtE) (rCmpD X.K fun d e => !PySem.W.dataLt d e) := op_cmpD hu fun ra rb h hn hu hq => PySem.W.ge_data ra rb h hn hu hq
end
section
variable {K : PySem.W.Frag} {x y : D}
theorem opd_cmpD {f : PyData → PyData → Bool} (hx : x.pure = true) (hy : y.pure = true) (h : Cmpb x.py y.py) : OpD K (rCmpD K f) x y (.bl (f x.py y.py)) := fun I H v w s hv hw =>
  pureR_here s (.bl _) fun Q q => ⟨_, _, Is.dp s hx hv, Is.dp s hy hw, h, q⟩
end
/-! ### == of dicts -/
def eqDic (es fs : List (Key × D)) : Bool := es.length == fs.length && es.all fun e => match look fs e.1 with | some d => D.eqv e.2 d | none => false
def shapedV (es : List (Key × D)) : Prop := ∀ e ∈ es, e.2.shaped = true
def rEqDic (K : PySem.W.Frag) (ng : Bool) : R2 := fun x y H Q => ∃ a b kvs kws es fs, x = .ref a ∧ y = .ref b ∧ Rd H a (.dK kvs) ∧ Rd H b (.dK kws) ∧ IsK K H kvs es ∧ IsK K H kws fs ∧ shapedV es ∧ shapedV fs ∧ Q (.bl (eqDic es fs ^^ ng)) H
section
variable {X : Cx} {pins : List (Addr × Obj)} {σ : Sg} {H : Hp} {s : Shared}
theorem dic_hits (I : Inv X pins σ H s) {A : Around} (hu : A.units + 64 < cLine) {kws : List (Key × V)} {fs : List (Key × D)} {vb : List (Key × Value)} (hb : IsK X.K H kws fs) (rb : KV kws vb) (sb : shapedV fs) : ∀ {kvs : List (Key × V)} {es : List (Key × D)} {va : List (Key × Value)}, IsK X.K H kvs es → KV kvs va → shapedV es →
    PySem.W.KeqHits A s vb va (es.all fun e => match look fs e.1 with | some d => D.eqv e.2 d | none => false)
  | _, _, _, .nil, ra, _ => by
    cases ra
    exact .nil
  | _, _, _, .cons (k := k) (v := v) (d := d) (es := es) hd ha, ra, sa => by
    cases ra with
    | @cons _ q _ qs hq t =>
      obtain ⟨h1, h2⟩ := hq
      obtain ⟨key, u⟩ := q
      cases (show k = key from h1)
      have ih := dic_hits I hu hb rb sb ha t fun e he => sa e (by simp [he])
      rw [List.all_cons]
      have rr := rb.val k
      rcases hb.look k with ⟨e1, e2⟩ | ⟨y, d2, e1, e2, hy⟩
      · rw [e1] at rr
        rw [e2]
        exact .miss (RelO.none_of rr)
      · rw [e1] at rr
        obtain ⟨y', hy', ry⟩ := rr.some_of
        rw [e2]
        obtain ⟨as, r1⟩ := Dp.reads I d.py v u (Is.dp (Ex.refl H) (by have := sa _ List.mem_cons_self; simp [D.shaped] at this; exact this.1) hd) h2
        have hs2 : d2.shaped = true := by
          unfold look at e2
          cases hf : fs.find? (fun e => decide (e.1 = k)) with
          | none => rw [hf] at e2; cases e2
          | some e => rw [hf] at e2; cases e2; exact sb e (List.mem_of_find?_eq_some hf)
        have hs1 : d.shaped = true := sa _ List.mem_cons_self
        simp only [D.shaped, Bool.and_eq_true] at hs1 hs2
        obtain ⟨bs, r2⟩ := Dp.reads I d2.py y y' (Is.dp (Ex.refl H) hs2.1 hy) ry
        exact .hit hy' (SeqAt.eqAt_reads _ _ A s u y' as bs r1 r2 (SeqAt.canLay_of_shaped hs1.2) (SeqAt.canLay_of_shaped hs2.2) (SeqAt.room_of_shaped hs1.2 hu)) ih
theorem eqDic_run (I : Inv X pins σ H s) {a b : Addr} {kvs kws : List (Key × V)} {es fs : List (Key × D)} (ha : Rd H a (.dK kvs)) (hb : Rd H b (.dK kws)) (h1 : IsK X.K H kvs es) (h2 : IsK X.K H kws fs) (s1 : shapedV es) (s2 : shapedV fs) :
    ∃ ka kb, (a == sysModules) = false ∧ (b == sysModules) = false ∧ s.heap.DictOf (mixKind X.prog X.w) a ka ∧ s.heap.DictOf (mixKind X.prog X.w) b kb ∧ ka.length = es.length ∧ kb.length = fs.length ∧ ∀ {A : Around}, A.units + 64 < cLine → PySem.W.KeqHits A s kb ka (es.all fun e => match look fs e.1 with | some d => D.eqv e.2 d | none => false) := by
  obtain ⟨_, ya, va, ra, da⟩ := dk_rd I.hok ha
  obtain ⟨_, yb, vb, rb, db⟩ := dk_rd I.hok hb
  exact ⟨va, vb, ya, yb, da, db, by rw [← ra.length, h1.len], by rw [← rb.length, h2.len], fun hu => dic_hits I hu h2 rb s2 h1 ra s1⟩
end
section
variable {X : Cx}
theorem op_eqDic (hu : X.A.units + 65 < cLine) : OpR X (compareOp .Eq) (rEqDic X.K false) := by
  intro pins s σ H x y v u Q I rx ry h
  obtain ⟨a, b, kvs, kws, es, fs, rfl, rfl, ha, hb, h1, h2, s1, s2, q⟩ := h
  cases (show v = Value.ref a from rx)
  cases (show u = Value.ref b from ry)
  obtain ⟨ka, kb, ya, yb, da, db, la, lb, hits⟩ := eqDic_run I ha hb h1 h2 s1 s2
  refine PySem.W.keq_eq ya yb da db (by omega) (fun _ => hits (by show X.A.units + 1 + 64 < cLine; omega)) ⟨.bl _, H, I, rfl, ?_⟩
  rw [la, lb]
  simpa [eqDic] using q
theorem op_neDic (hu : X.A.units + 65 < cLine) : OpR X (compareOp .NotEq) (rEqDic X.K true) := by
  intro pins s σ H x y v u Q I rx ry h
  obtain ⟨a, b, kvs, kws, es, fs, rfl, rfl, ha, hb, h1, h2, s1, s2, q⟩ := h
  cases (show v = Value.ref a from rx)
  cases (show u = Value.ref b from ry)
  obtain ⟨ka, kb, ya, yb, da, db, la, lb, hits⟩ := eqDic_run I ha hb h1 h2 s1 s2
  refine PySem.W.keq_ne ya yb da db (by omega) (fun _ => hits (by show X.A.units + 1 + 64 < cLine; omega)) ⟨.bl _, H, I, rfl, ?_⟩
  rw [la, lb]
  simpa [eqDic, Bool.xor_true] using q
end
section
variable {K : PySem.W.Frag}
theorem opd_eqDic {es fs : List (Key × D)} {ng : Bool} (h1 : shapedV es) (h2 : shapedV fs) : OpD K (rEqDic K ng) (D.dict es) (D.dict fs) (.bl (eqDic es fs ^^ ng)) := fun I H v w s hv hw => by
  obtain ⟨a, kvs, rfl, ra, ka⟩ := dict_is hv
  obtain ⟨b, kws, rfl, rb, kb⟩ := dict_is hw
  exact pureR_here s (.bl _) fun Q q => ⟨a, b, kvs, kws, es, fs, rfl, rfl, s.rd ra, s.rd rb, ka.mono s, kb.mono s, h1, h2, q⟩
end
end FD

/-! FDa: isinstance, is, sorted and list of dicts. -/
namespace FD
open PySem PySem.Spec PyProof.Rows L2
def D.tyN : D → String
  | .non => "NoneType" | .bl _ => "bool" | .int _ => "int" | .str _ => "str" | .lst _ => "list" | .tup _ => "tuple" | .dic _ _ => "dict" | .ins _ _ _ => "" | .raw _ => ""
def D.typed : D → Bool
  | .ins _ _ _ => false | .raw _ => false | _ => true
section
variable {K : PySem.W.Frag} {x : D} {I H : Hp} {v : V}
theorem tyx_rdL {a : Addr} {xs : List V} (h : Rd H a (.lst xs)) : TyX K H (.ref a) (.type "list") := by
  rcases h with h | ⟨o, h⟩
  · exact .base (.lst h)
  · exact .base (.frz h)
theorem tyx_rdD {a : Addr} {xs : List (Key × V)} (h : Rd H a (.dK xs)) : TyX K H (.ref a) (.type "dict") := by
  rcases h with h | ⟨o, h⟩
  · exact .base (.dK h)
  · exact .fDict h
theorem tyx_sqL {a : Addr} {xs : List V} (h : SqL K H a xs) : TyX K H (.ref a) (.type "list") := by
  rcases h with h | ⟨o, its, n, h1, h2, h3, _⟩
  · exact tyx_rdL h
  · exact .kList h1 h2
theorem tyx_sqT {a : Addr} {xs : List V} (h : SqT K H a xs) : TyX K H (.ref a) (.type "tuple") := by
  rcases h with h | ⟨o, its, n, h1, h2, h3, _⟩
  · rcases h with h | ⟨o, h⟩
    · exact .base (.tup h)
    · exact .fTuple h
  · exact .kTuple h1 h2
theorem Is.tyx (e : Ex I H) (h : Is K I v x) (t : x.typed = true) : TyX K H v (.type x.tyN) := by
  cases h with
  | non => exact .base .non
  | bl b => exact .base (.bl b)
  | int i => exact .base (.int i)
  | str s => exact .base (.str s)
  | lst h1 h2 => exact tyx_sqL (e.l h1)
  | tup h1 h2 => exact tyx_sqT (e.t h1)
  | dic h1 h2 h3 => exact tyx_rdD (e.rd h1)
  | ins _ _ _ => cases t
  | raw v => cases t
theorem cd_isi {T : String} {b : Bool} (t : x.typed = true) (h : kitB x.tyN T = some b) : CallD K (rIsi K) [x, .raw (.ty T)] (.bl b) := fun I H vs s hv => by
  cases hv with
  | cons h1 h2 =>
    cases h2 with
    | cons h2 h3 =>
      cases h3
      cases h2
      exact pureR_here s (.bl b) fun Q q => ⟨_, _, _, _, b, rfl, .ty T, h1.tyx s t, kit_ty h, q⟩
theorem opd_isBl {a b : Bool} : OpD K (fun x y H Q => ∃ a b, x = .bl a ∧ y = .bl b ∧ Q (.bl (decide (a = b))) H) (.bl a) (.bl b) (.bl (decide (a = b))) := fun I H v w s hv hw => by
  cases hv; cases hw
  exact pureR_here s (.bl _) fun Q q => ⟨a, b, rfl, rfl, q⟩
theorem opd_isnotBl {a b : Bool} : OpD K (fun x y H Q => ∃ a b, x = .bl a ∧ y = .bl b ∧ Q (.bl (!decide (a = b))) H) (.bl a) (.bl b) (.bl (!decide (a = b))) := fun I H v w s hv hw => by
  cases hv; cases hw
  exact pureR_here s (.bl _) fun Q q => ⟨a, b, rfl, rfl, q⟩
end
example : kitB "bool" "bool" = some true := by decide +kernel
example : kitB "tuple" "tuple" = some true := by decide +kernel
example : kitB "int" "bool" = some false := by decide +kernel
end FD

/-! FDb: max and min of two data. -/
namespace PySem.W
open PySem PySem.Spec PyProof.Rows
section
variable {prog : Program} {w : World} {A : Around} {E : Value → Shared → Prop} {s : Shared}
theorem fd_max2 {a b : Value} {da db : PyData} {as bs : List Addr} {Q : Value → Shared → Prop} (hh : A.handled = none) (ra : Reads s.heap a da as) (rb : Reads s.heap b db bs) (ha : AlikeAll [da, db]) (hu : A.units + 1 + PyData.depthAll [da, db] < cLine)
    (h : ∀ h' tk, (∀ c o, s.heap.get? c = some o → h'.get? c = some o) → Q (if dataLt da db then b else a) { s with heap := h', toks := tk }) : wpAny (model prog w) A (call (.builtin "max") [a, b]) Q E s := by
  have hname : (toString "max" ++ toString ".loop" : String) = "max.loop" := by decide
  refine call_function_tree F.kind_max F.plain_max F.entry_max (F.args_max2 _ _) ?_
  show wpAny _ A.in1 (Builtin.Builtins.bindParams "max" ["key", "default"] 0 ⟨[], []⟩ >>= _) _ _ s
  refine wpAny_bind (wpAny_of_eq (show Builtin.Builtins.bindParams "max" ["key", "default"] 0 ⟨[], []⟩ = pure [none, none] from rfl) ?_)
  show wpAny _ A.in1 (newTuple [a, b] >>= _) _ _ s
  refine wpAny_bind (wpAny_newObj_type ?_)
  have kp : ∀ (c : Addr) o, s.heap.get? c = some o → (s.heap.push { cls := .type "tuple", data := .seq #[a, b] }).get? c = some o := fun c o e => Heap.get?_push_of_some _ e
  have hr : ReadsAll (s.heap.push { cls := .type "tuple", data := .seq #[a, b] }) (#[a, b] : Array Value).toList [da, db] (as ++ (bs ++ [])) := .cons (reads_keeps kp ra) (.cons (reads_keeps kp rb) .nil)
  have hT : (s.heap.push { cls := .type "tuple", data := .seq #[a, b] }).IsTuple s.heap.objs.size #[a, b] := ⟨_, Heap.get?_push_size _ rfl, rfl, _, rfl⟩
  refine wpAny_bind (iter_tupleW (A := A.in1) hh hT fun s₂ e W st hfp hw hk => ?_)
  refine wpAny_bind (wpAny_newObj_type ?_)
  have hSf : s₂.heap.objs.size ∉ [(s.heap.push { cls := .type "tuple", data := .seq #[a, b] }).objs.size, s.heap.objs.size] := fun hm => Nat.lt_irrefl _ (hfp _ hm)
  rw [hname]
  refine wpAny_pure ⟨plainId_quiet F.plain_max_loop _, codeAny_max_loop_firstH W _ hw _ (cmpIn_gt (A := A.in1) hr ha (by show A.units + 1 + _ < _; exact hu)) s₂.heap.objs.size hSf (fresh_in hk) _ (by simp) (fun b o e => Heap.get?_push_of_some _ (hk b o e)) (W.frame 0 s₂ _ s₂.toks st (Nat.le_refl _) fun b _ o e => Heap.get?_push_of_some _ e) (Heap.get?_push_size _ rfl) fun v s' hP hm => ?_⟩
  have m := Moved.drop_new (tk := s₂.toks) hm (Nat.le_refl _)
  obtain ⟨h', tk, rfl, hk'⟩ := moved_old e rfl m
  have e2 : v = if dataLt da db then b else a := by
    have e1 : argBest (fun i j => dataLt ([da, db].getD j .none) ([da, db].getD i .none)) 1 = if dataLt da db = true then 1 else 0 := rfl
    have hP' : (#[a, b] : Array Value)[argBest (fun i j => dataLt ([da, db].getD j .none) ([da, db].getD i .none)) 1]? = some v := hP
    rw [e1] at hP'
    cases hl : dataLt da db with
    | true => rw [hl] at hP'; simpa using hP'.symm
    | false => rw [hl] at hP'; simpa using hP'.symm
  rw [e2]
  exact h h' tk fun c o ec => hk' c o (kp c o ec)
end
end PySem.W

/-! FDc: calls framed, two resources at once, own operators, makers, star defs. -/
namespace FD
open PySem PySem.Spec PyProof.Rows L2
section
variable {K : PySem.W.Frag} {m : Md} {Γ Γ' Γ1 Γ2 pre post : List Sl} {te ta : TE} {z : D} {I H I' H' : Hp} {L L' : List Addr} {i j : Nat} {v u : V} {R R' S S' Rn : Res} {C : Addr} {sp : Sp} {E : XK}
theorem EnvOk.split {Γ : List Sl} {σ : Sg} : ∀ {pre : List Sl} {vs : Sg} {L : List Addr}, pre.length = vs.length → EnvOk K I H (pre ++ Γ) (vs ++ σ) L → ∃ L1 L2, L = L1 ++ L2 ∧ EnvOk K I H pre vs L1 ∧ EnvOk K I H Γ σ L2 := by
  intro pre
  induction pre with
  | nil =>
    intro vs L h e
    cases vs with
    | nil => exact ⟨[], L, rfl, .nil, e⟩
    | cons _ _ => simp at h
  | cons p pre ih =>
    intro vs L h e
    cases vs with
    | nil => simp at h
    | cons x vs =>
      have hl : pre.length = vs.length := by simpa using h
      have e' : EnvOk K I H (p :: (pre ++ Γ)) (x :: (vs ++ σ)) L := e
      cases e' with
      | em x e => obtain ⟨L1, L2, e1, e2, e3⟩ := ih hl e; exact ⟨L1, L2, e1, .em x e2, e3⟩
      | dat q e => obtain ⟨L1, L2, e1, e2, e3⟩ := ih hl e; exact ⟨L1, L2, e1, .dat q e2, e3⟩
      | res q g => obtain ⟨L1, L2, e1, e2, e3⟩ := ih hl g; exact ⟨_ ++ L1, L2, by rw [e1, List.append_assoc], .res q e2, e3⟩
theorem EnvOk.join : ∀ {pre Γ : List Sl} {vs σ : Sg} {L1 L2 : List Addr}, EnvOk K I H pre vs L1 → EnvOk K I H Γ σ L2 → EnvOk K I H (pre ++ Γ) (vs ++ σ) (L1 ++ L2)
  | _, _, _, _, _, _, .nil, g => g
  | _, _, _, _, _, _, .em x e, g => .em x (e.join g)
  | _, _, _, _, _, _, .dat p e, g => .dat p (e.join g)
  | _, _, _, _, _, _, .res p e, g => by rw [List.append_assoc]; exact .res p (e.join g)
/-- what stands beside a part that steps -/
theorem Wd.beside {vs vs' σ : Sg} {pre' : List Sl} {L1 L2 L1' : List Addr} (w : Wd K (pre ++ Γ) (vs ++ σ) I H (L1 ++ L2)) (e1 : EnvOk K I H pre vs L1) (e2 : EnvOk K I H Γ σ L2) (w' : Wd K pre' vs' I' H' L1') (s : Step I H L1 I' H' L1') :
    Wd K (pre' ++ Γ) (vs' ++ σ) I' H' (L1' ++ L2) ∧ Step I H (L1 ++ L2) I' H' (L1' ++ L2) := by
  have nd := List.nodup_append.mp w.nd
  have lv : ∀ a ∈ L2, H a ≠ none := e2.live
  have out : ∀ a ∈ L2, a ∉ L1 := fun a h q => nd.2.2 a q a h rfl
  have kp : ∀ a ∈ L2, H' a = H a := fun a h => by
    cases e : H a with
    | none => exact absurd e (lv a h)
    | some o => exact s.keep a o e (out a h)
  have ap : ∀ a ∈ L1', a ∉ L2 := fun a h q => (s.l a h).elim (out a q) (lv a q)
  refine ⟨⟨w'.env.join (e2.keep s.i kp), List.nodup_append.mpr ⟨w'.nd, nd.2.1, fun a h b hb e => ap a h (e ▸ hb)⟩, fun a h => ?_, w'.sub⟩, ⟨s.i, fun a o e h => s.keep a o e fun q => h (by simp [q]), fun a h => ?_, fun a o e => ?_⟩⟩
  · rcases List.mem_append.mp h with h | h
    · exact w'.fr a h
    · cases e : I' a with
      | none => rfl
      | some o =>
        rcases s.n a o e with q | q | q
        · rw [w.fr a (by simp [h])] at q; cases q
        · exact absurd q (out a h)
        · exact absurd q (lv a h)
  · rcases List.mem_append.mp h with h | h
    · rcases s.l a h with q | q
      · exact .inl (by simp [q])
      · exact .inr q
    · exact .inl (by simp [h])
  · rcases s.n a o e with q | q | q
    · exact .inl q
    · exact .inr (.inl (by simp [q]))
    · exact .inr (.inr q)
theorem Con.frame {vs : List V} {σ : Sg} (hs : Con K sp pre z post) (hl : pre.length = vs.length) (w : Wd K (pre ++ Γ) (vs.map some ++ σ) I H L) (Q : VK) (q : ∀ u I2 H2 L2, Wd K (post ++ Γ) (vs.map some ++ σ) I2 H2 L2 → Step I H L I2 H2 L2 → Is K I2 u z → Q u H2) : sp vs H Q E := by
  obtain ⟨L1, L2, rfl, e1, e2⟩ := EnvOk.split (by simpa using hl) w.env
  have nd := List.nodup_append.mp w.nd
  refine hs vs I H L1 ⟨e1, nd.1, fun a h => w.fr a (by simp [h]), w.sub⟩ Q E fun x I2 H2 L3 w2 s2 hx => ?_
  obtain ⟨w3, s3⟩ := w.beside e1 e2 w2 s2
  exact q x I2 H2 _ w3 s3 hx
theorem ConR.frame {vs : List V} {σ : Sg} (hs : ConR K sp pre Rn post) (hl : pre.length = vs.length) (w : Wd K (pre ++ Γ) (vs.map some ++ σ) I H L) (Q : VK) (q : ∀ u I2 H2 L2, Wd K (.res u Rn :: post ++ Γ) (some u :: vs.map some ++ σ) I2 H2 L2 → Step I H L I2 H2 L2 → Q u H2) : sp vs H Q E := by
  obtain ⟨L1, L2, rfl, e1, e2⟩ := EnvOk.split (by simpa using hl) w.env
  have nd := List.nodup_append.mp w.nd
  refine hs vs I H L1 ⟨e1, nd.1, fun a h => w.fr a (by simp [h]), w.sub⟩ Q E fun x I2 H2 L3 w2 s2 => ?_
  obtain ⟨w3, s3⟩ := w.beside e1 e2 w2 s2
  exact q x I2 H2 _ w3 s3
/-! two slots ahead -/
theorem Wd.take2 {σ : Sg} (w : Wd K Γ σ I H L) (hi : Γ[i]? = some (.res v R)) (hj : Γ[j]? = some (.res u S)) (ij : i ≠ j) : σ[i]? = some (some v) ∧ σ[j]? = some (some u) ∧ ∃ L', Wd K (.res v R :: .res u S :: (Γ.set j .em).set i .em) (some v :: some u :: σ) I H L' ∧ Step I H L I H L' := by
  obtain ⟨h1, L1, w1, s1⟩ := w.takeR hj
  obtain ⟨h2, L2, w2, s2⟩ := w1.takeR (k := i + 1) (v := v) (R := R) (by simp [List.getElem?_set, Ne.symm ij, hi])
  exact ⟨by simpa using h2, h1, L2, by simpa using w2, s1.trans s2⟩
theorem set_self {α : Type} : ∀ {l : List α} {i : Nat} {x : α}, l[i]? = some x → l.set i x = l
  | [], _, _, h => by simp at h
  | _ :: _, 0, _, h => by simp at h; simp [h]
  | _ :: _, i + 1, _, h => by simp at h; simp [set_self h]
theorem Wd.back2 {σ : Sg} (w : Wd K (.res v R' :: .res u S' :: (Γ.set j .em).set i .em) (some v :: some u :: σ) I H L) (hi : i < Γ.length) (hj : j < Γ.length) (ij : i ≠ j) (h1 : σ[i]? = some (some v)) (h2 : σ[j]? = some (some u)) :
    ∃ L', Wd K ((Γ.set i (.res v R')).set j (.res u S')) σ I H L' ∧ Step I H L I H L' := by
  obtain ⟨L1, w1, s1⟩ := Wd.setR (i := i + 1) w (by simp; exact hi)
  obtain ⟨L2, w2, s2⟩ := Wd.setR (i := j) (Γ := ((Γ.set j .em).set i .em).set i (.res v R')) (σ := σ.set i (some v)) (by simpa using w1) (by simpa using hj)
  refine ⟨L2, ?_, s1.trans s2⟩
  rw [set_self h1, set_self h2, List.set_set, List.set_comm _ _ (Ne.symm ij), List.set_set] at w2
  exact w2
end
/-! ### own operators -/
/-- x op y, both instances of the class at C with its own def for op -/
def rOwnC (C : Addr) (sp : Sp) (E : XK) : R2 := fun x y H Q => ∃ a b dx dy fs gs, x = .ref a ∧ y = .ref b ∧ H a = some (.ins C dx fs) ∧ H b = some (.ins C dy gs) ∧ sp [x, y] H Q E
/-- y a list -/
def rOwnL (K : PySem.W.Frag) (C : Addr) (sp : Sp) (E : XK) : R2 := fun x y H Q => ∃ a b dx fs ys, x = .ref a ∧ y = .ref b ∧ H a = some (.ins C dx fs) ∧ SqL K H b ys ∧ sp [x, y] H Q E
section
variable {X : Cx} {CX : CXT} {n : Nat} {C g : Addr} {sp : Sp} {E : XK}
theorem op_ownCmp {op : CmpOp} (hop : ∀ a b, compareOp op a b = richCompare op a b) (hs : PySem.W.findIn X.K (.ref C) (cmpInfo op).2.1 = some (some (.ref g))) (hf : PySem.W.isFn X.K (.ref g) = true) (F : FnR X.prog X.w X.K X.mg X.base CX n g sp)
    (hr : Room n X.A) (hx : Passes CX X E) : OpR X (compareOp op) (rOwnC C sp E) := by
  intro pins s σ H x y v u Q I rx ry h
  obtain ⟨a, b, dx, dy, fs, gs, rfl, rfl, ha, hb, q⟩ := h
  cases (show v = Value.ref a from rx)
  cases (show u = Value.ref b from ry)
  obtain ⟨mA, J, _⟩ := ins_get I.hok ha
  obtain ⟨mB, J', _⟩ := ins_get I.hok hb
  obtain ⟨od, J, _⟩ := J.look
  obtain ⟨od', J', _⟩ := J'.look
  obtain ⟨m, hF⟩ := I.fr
  rw [hop]
  refine PySem.W.cmp_K (op := op) (tb := .ref C) hr.units0 hF I.ok.mod.kin J J'.type (by simp [PySem.W.notFirst]) hs hf ?_
  refine wpAny_mono (wpAny_call (run_fnR (us := [.ref a, .ref b]) (vs := [.ref a, .ref b]) F hr hx I (.cons rfl (.cons rfl .nil)) q)) (fun w s' z => ?_) fun _ _ x => x
  obtain ⟨z', H', I', rz, qz⟩ := z
  exact SlX.cmpback rz ⟨z', H', I', rz, qz⟩
theorem op_ownBin {op : Operator} (hc : PySem.W.selfFirst X.K C = true) (hs : PySem.W.findIn X.K (.ref C) (PySem.dunder op.info.2) = some (some (.ref g))) (hf : PySem.W.isFn X.K (.ref g) = true) (F : FnR X.prog X.w X.K X.mg X.base CX n g sp)
    (hr : Room n X.A) (hx : Passes CX X E) : OpR X (binaryOp op) (rOwnC C sp E) := by
  intro pins s σ H x y v u Q I rx ry h
  obtain ⟨a, b, dx, dy, fs, gs, rfl, rfl, ha, hb, q⟩ := h
  cases (show v = Value.ref a from rx)
  cases (show u = Value.ref b from ry)
  obtain ⟨mA, J, _⟩ := ins_get I.hok ha
  obtain ⟨mB, J', _⟩ := ins_get I.hok hb
  obtain ⟨od, J, _⟩ := J.look
  obtain ⟨od', J', _⟩ := J'.look
  obtain ⟨m, hF⟩ := I.fr
  refine PySem.W.binop_K (op := op) hF I.ok.mod.kin J J'.type hc hs hf ?_
  refine wpAny_mono (wpAny_call (run_fnR (us := [.ref a, .ref b]) (vs := [.ref a, .ref b]) F hr hx I (.cons rfl (.cons rfl .nil)) q)) (fun w s' z => ?_) fun _ _ x => x
  obtain ⟨z', H', I', rz, qz⟩ := z
  exact SlX.cmpback rz ⟨z', H', I', rz, qz⟩
theorem looks_list {M : Model} {h : Heap} {a : Addr} {o : Obj} (ho : h.get? a = some o) (hc : o.cls = .type "list") : PySem.W.Looks M h (typeOf (.ref a)) (.type "list") := by
  intro A Q E s hk q
  exact PySem.wpAny_typeOf_ref (hk _ _ ho) (by rw [hc]; exact q)
theorem notFirst_list {K : PySem.W.Frag} : PySem.W.notFirst K C (.type "list") = true := by
  have : PySem.W.subIn K (.type "list") (.ref C) = some false := rfl
  simp [PySem.W.notFirst, this]
theorem op_ownCmpL {op : CmpOp} (hop : ∀ a b, compareOp op a b = richCompare op a b) (hs : PySem.W.findIn X.K (.ref C) (cmpInfo op).2.1 = some (some (.ref g))) (hf : PySem.W.isFn X.K (.ref g) = true) (F : FnR X.prog X.w X.K X.mg X.base CX n g sp)
    (hr : Room n X.A) (hx : Passes CX X E) : OpR X (compareOp op) (rOwnL X.K C sp E) := by
  intro pins s σ H x y v u Q I rx ry h
  obtain ⟨a, b, dx, fs, ys, rfl, rfl, ha, hb, q⟩ := h
  cases (show v = Value.ref a from rx)
  cases (show u = Value.ref b from ry)
  obtain ⟨mA, J, _⟩ := ins_get I.hok ha
  obtain ⟨od, J, _⟩ := J.look
  obtain ⟨its, _, pl, _⟩ := I.list hb
  obtain ⟨o, ho, hc, _⟩ := pl.isList
  obtain ⟨m, hF⟩ := I.fr
  rw [hop]
  refine PySem.W.cmp_K (op := op) (tb := .type "list") hr.units0 hF I.ok.mod.kin J (looks_list ho hc) notFirst_list hs hf ?_
  refine wpAny_mono (wpAny_call (run_fnR (us := [.ref a, .ref b]) (vs := [.ref a, .ref b]) F hr hx I (.cons rfl (.cons rfl .nil)) q)) (fun w s' z => ?_) fun _ _ x => x
  obtain ⟨z', H', I', rz, qz⟩ := z
  exact SlX.cmpback rz ⟨z', H', I', rz, qz⟩
end
end FD

/-! FDd: two resources in operators, makers without and with a star, star defs, calls framed. -/
namespace FD
open PySem PySem.Spec PyProof.Rows L2
section
variable {P : Program} {w : PySem.World} {K : PySem.W.Frag} {mg : Str → Option Value} {base : Heap} {CX : CXT} {k : Nat} {f : Addr} {fd : FuncData} {ps : List Str} {sp : Sp}
theorem FnOk.raw0 (F : FnOk P w K mg base CX k f fd ps sp) (hb : Binds K fd ps []) : FnR P w K mg base CX k f sp := (L2.FnOk.raw F hb .nil).imp fun vs H Q E h => by
  rw [List.append_nil]
  exact h
end
section
variable {K : PySem.W.Frag} {m : Md} {Γ Γ' Γ1 Γ2 pre post : List Sl} {te tb : TE} {ta : TA} {z d : D} {I H I' H' : Hp} {L L' : List Addr} {i j : Nat} {v u : V} {R R' S S' Rn : Res} {C : Addr} {sp : Sp} {E : XK} {mm mm' : Str} {o : Out} {ds : List D}
theorem len_of_get {α : Type} {l : List α} {i : Nat} {x : α} (h : l[i]? = some x) : i < l.length := (List.getElem?_eq_some_iff.mp h).1
theorem ev_own2 (hi : Γ[i]? = some (.res v R)) (hj : Γ[j]? = some (.res u S)) (ij : i ≠ j) (ho : ObjAt K C mm R) (ho' : ObjAt K C mm' S) (hs : Con K sp [.res v R, .res u S] z [.res v R', .res u S']) : Ev K .e (tOp (rOwnC C sp E) (tVar i) (tVar j)) Γ z ((Γ.set i (.res v R')).set j (.res u S')) := fun σ I H L w Q q => by
  obtain ⟨h1, h2, L1, w1, s1⟩ := w.take2 hi hj ij
  obtain ⟨_, L0, hR, _⟩ := w.stepR hi
  obtain ⟨_, L0', hS, _⟩ := w.stepR hj
  obtain ⟨a, dx, fv, rfl, e1, _⟩ := ho _ _ _ _ hR
  obtain ⟨b, dy, gv, rfl, e2, _⟩ := ho' _ _ _ _ hS
  refine ⟨_, h1, _, h2, a, b, dx, dy, fv, gv, rfl, rfl, e1, e2, ?_⟩
  refine Con.frame (pre := [.res (.ref a) R, .res (.ref b) S]) (vs := [.ref a, .ref b]) (σ := σ) hs rfl w1 Q fun x I2 H2 L2 w2 s2 hx => ?_
  obtain ⟨L3, w3, s3⟩ := Wd.back2 (R' := R') (S' := S') w2 (len_of_get hi) (len_of_get hj) ij h1 h2
  exact q x I2 H2 L3 w3 (s1.trans (s2.trans s3)) hx
theorem er_own2 (hi : Γ[i]? = some (.res v R)) (hj : Γ[j]? = some (.res u S)) (ij : i ≠ j) (ho : ObjAt K C mm R) (ho' : ObjAt K C mm' S) (hs : ConR K sp [.res v R, .res u S] Rn [.res v R, .res u S]) : EvR K (tOp (rOwnC C sp E) (tVar i) (tVar j)) Γ Rn Γ := fun σ I H L w Q q => by
  obtain ⟨h1, h2, L1, w1, s1⟩ := w.take2 hi hj ij
  obtain ⟨_, L0, hR, _⟩ := w.stepR hi
  obtain ⟨_, L0', hS, _⟩ := w.stepR hj
  obtain ⟨a, dx, fv, rfl, e1, _⟩ := ho _ _ _ _ hR
  obtain ⟨b, dy, gv, rfl, e2, _⟩ := ho' _ _ _ _ hS
  refine ⟨_, h1, _, h2, a, b, dx, dy, fv, gv, rfl, rfl, e1, e2, ?_⟩
  refine ConR.frame (pre := [.res (.ref a) R, .res (.ref b) S]) (vs := [.ref a, .ref b]) (σ := σ) hs rfl w1 Q fun x I2 H2 L2 w2 s2 => ?_
  have e := w2.env
  cases e with
  | @res _ _ N1 N2 _ _ p e =>
    have nd := List.nodup_append.mp w2.nd
    have wr : Wd K (.res (.ref a) R :: .res (.ref b) S :: (Γ.set j .em).set i .em) (some (.ref a) :: some (.ref b) :: σ) I2 H2 N2 := ⟨e, nd.2.1, fun x h => w2.fr x (by simp [h]), w2.sub⟩
    obtain ⟨L3, w3, s3⟩ := Wd.back2 (R' := R) (S' := S) wr (len_of_get hi) (len_of_get hj) ij h1 h2
    have e3 : (Γ.set i (.res (.ref a) R)).set j (.res (.ref b) S) = Γ := by rw [set_self hi, set_self hj]
    rw [e3] at w3
    obtain ⟨w4, s4⟩ := Wd.beside (pre := .res (.ref a) R :: .res (.ref b) S :: (Γ.set j .em).set i .em) (Γ := [.res x Rn]) (vs := some (.ref a) :: some (.ref b) :: σ) (σ := [some x]) (L2 := N1) (w := ⟨by
        have q2 := EnvOk.join e (EnvOk.res (L2 := []) p .nil)
        rw [List.append_nil] at q2
        exact q2, (List.perm_append_comm.nodup_iff).mp w2.nd, fun y h => w2.fr y (by simp at h ⊢; exact h.symm), w2.sub⟩) e (by
        have q2 := EnvOk.res (L2 := []) p (.nil : EnvOk K I2 H2 [] [] [])
        rw [List.append_nil] at q2
        exact q2) w3 s3
    have apart : ∀ y ∈ N1, y ∉ L3 := fun y h g => (List.nodup_append.mp w4.nd).2.2 y g y h rfl
    have p4 : Rn.P I2 x H2 N1 := p
    refine q x I2 H2 (N1 ++ L3) ⟨.res p4 w3.env, List.nodup_append.mpr ⟨nd.1, w3.nd, fun y h b hb e => apart y h (e ▸ hb)⟩, fun y h => w4.fr y (by simp at h ⊢; exact h.symm), w2.sub⟩ (s1.trans (s2.trans ⟨s4.i, fun y o h g => h, fun y h => ?_, fun y o h => .inl h⟩))
    rcases List.mem_append.mp h with h | h
    · exact .inl (by simp [h])
    · rcases s3.l y h with g | g
      · exact .inl (by simp [g])
      · exact .inr g
/-- x == a list -/
theorem ev_ownL (hi : Γ[i]? = some (.res v R)) (ho : ObjAt K C mm R) (hb : Ev K .p tb Γ (.lst ds) Γ) (hs : Con K sp [.res v R, .dat (.lst ds)] z [.res v R', .dat (.lst ds)]) : Ev K .e (tOp (rOwnL K C sp E) (tVar i) tb) Γ z (Γ.set i (.res v R')) := fun σ I H L w Q q => by
  obtain ⟨h1, _⟩ := w.stepR hi
  refine ⟨_, h1, hb σ I H L w _ fun y I1 H1 L1 w1 g1 hy => ?_⟩
  obtain ⟨_, L0, hR, _⟩ := w1.stepR hi
  obtain ⟨a, dx, fv, rfl, e1, _⟩ := ho _ _ _ _ hR
  have hy' := hy
  cases hy with
  | lst q1 q2 =>
    rename_i b ys
    refine ⟨a, b, dx, fv, ys, rfl, rfl, e1, w1.sub.l q1, ?_⟩
    refine call_place (ds := [.lst ds]) (vs := [.ref b]) w1 (plc_slot hi) (.cons hy' .nil) hs Q fun x I2 H2 L2 w2 s2 hx => ?_
    exact q x I2 H2 L2 w2 (g1.step.trans s2) hx
/-! makers -/
def tMakeS (K : PySem.W.Frag) (C : Addr) (sp : Sp) (E : XK) (te : TE) : TE := fun σ H Q => te σ H fun y H1 => ∃ a xs, y = V.ref a ∧ (SqT K H1 a xs ∨ SqL K H1 a xs) ∧ ∀ x dx, H1 x = none → H1 dx = none → dx ≠ x →
  sp (.ref x :: xs) (upd (upd H1 dx (.own x)) x (.ins C dx [])) (fun v H2 => v = .non ∧ Q (.ref x) H2) E
theorem er_makeS (h : Ev K m te Γ x Γ') (hx : x = .lst ds ∨ x = .tup ds) (hs : ∀ v, Con K sp (.res v (Robj K C [] []) :: ds.map .dat) .non (.res v R' :: ds.map .dat)) : EvR K (tMakeS K C sp E te) Γ R' Γ' := fun σ I H L w Q q =>
  h σ I H L w _ fun v I1 H1 L1 w1 g1 hv => by
    rcases hx with rfl | rfl
    · cases hv with
      | lst q1 q2 => exact ⟨_, _, rfl, .inr (w1.sub.l q1), fun p dx hp hd hne => make_new w1 hp hd hne q2 hs fun I2 H2 L2 w2 s2 => q _ I2 H2 L2 w2 (g1.step.trans s2)⟩
    · cases hv with
      | tup q1 q2 => exact ⟨_, _, rfl, .inl (w1.sub.t q1), fun p dx hp hd hne => make_new w1 hp hd hne q2 hs fun I2 H2 L2 w2 s2 => q _ I2 H2 L2 w2 (g1.step.trans s2)⟩
/-! defs with a star -/
def spStar (n : Nat) (sp : Sp) : Sp := fun vs H Q E => ∃ ws rest, vs = ws ++ rest ∧ ws.length = n ∧ rest.length ≤ sizeLine ∧ ∀ p, H p = none → sp (ws ++ [V.ref p]) (upd H p (.tup rest)) Q E
theorem con_star (hs : ∀ v, Con K sp [.res v R, .dat (.tup ds)] z [.res v R', .dat (.tup ds)]) (hz : ds.length ≤ sizeLine) : ∀ v, Con K (spStar 1 sp) (.res v R :: ds.map .dat) z (.res v R' :: ds.map .dat) := fun v vs I H L w Q E q => by
  cases vs with
  | nil =>
    have := w.env.len
    simp at this
  | cons x us =>
    have e0 : EnvOk K I H (.res v R :: ds.map .dat) (some x :: us.map some) L := w.env
    cases e0 with
    | @res _ _ L1 L2 _ _ hR e =>
      have hA : ∀ {ds : List D} {us : List V} {L : List Addr}, EnvOk K I H (ds.map .dat) (us.map some) L → IsA K I us ds := by
        intro ds
        induction ds with
        | nil =>
          intro us L h
          cases us with
          | nil => exact .nil
          | cons _ _ => cases h
        | cons d ds ih =>
          intro us L h
          cases us with
          | nil => cases h
          | cons y us => cases h with | dat p e => exact .cons p (ih e)
      have ha := hA e
      have hL := allDat e
      subst hL
      refine ⟨[v], us, rfl, rfl, by rw [ha.length]; exact hz, fun p hp => ?_⟩
      obtain ⟨n, ex⟩ := alloc (o := .tup us) w.sub hp
      have w1 : Wd K [.res v R, .dat (.tup ds)] [some v, some (.ref p)] (upd I p (.tup us)) (upd H p (.tup us)) (L1 ++ []) := by
        have w0 : Wd K [.res v R] [some v] I H (L1 ++ []) := ⟨.res hR .nil, by simpa using w.nd, fun a h => w.fr a (by simpa using h), w.sub⟩
        have w0' := w0.new n ex
        refine ⟨?_, w0'.nd, w0'.fr, ex⟩
        have e1 := w0'.env
        have e2 := env_snocD (v := .ref p) (d := .tup ds) e1 (.tup (st_of upd_same) (ha.mono n.i))
        exact e2
      refine hs v [v, .ref p] _ _ _ w1 Q E fun y I2 H2 L2 w2 s2 hy => ?_
      have e2 : EnvOk K I2 H2 [.res v R', .dat (.tup ds)] [some v, some (.ref p)] L2 := w2.env
      cases e2 with
      | @res _ _ M1 M2 _ _ hR2 e3 =>
        have hM := allDat (ds := [.tup ds]) e3
        subst hM
        exact q y I2 H2 (M1 ++ []) ⟨.res hR2 (env_dats ((ha.mono n.i).mono s2.i)), w2.nd, w2.fr, w2.sub⟩ ((n.step _).trans s2) hy
end
section
variable {P : Program} {w : PySem.World} {K : PySem.W.Frag} {mg : Str → Option Value} {base : Heap}
theorem okStarC {x qual : Str} {st : Stmt} {f : Addr} {fd : FuncData} {N ps : List Str} {pv : Str} {k : Nat} {C : Pr → Prop} (F : Fun K x qual st f fd) (S : FnScope N (ps ++ [pv]) (defScope st))
    (hb : ∀ (kV doc pm : Value) (an : Option Addr) (cdv ct : Value) (us rest : List Value), us.length = ps.length → bindArgs (PySem.W.fnOf x qual (defArgs st) (defBody st) (defScope st) .none kV doc pm an cdv ct) ⟨us ++ rest, []⟩ = (newTuple rest >>= fun t => pure (ps.zip us ++ [(pv, t)])))
    (hbody : ∀ (cdv : Value) (A : Around) (outer : List Env) (s : Shared) (H : Hp) (vs : List V) (Q : VK) (E : XK), Room k (A.deeper (envOfC qual (defScope st) s.heap.objs.size f cdv)) →
      ∃ t, PSs (cxOf CX0 P w K mg base N qual (defScope st) f cdv A outer s H E).nox (defBody st) t ∧ ∀ c, C c → Body K t N.length c) : FnR P w K mg base CX0 (k + 1) f (spStar ps.length (spC K C)) := by
  obtain ⟨oc, od, kV, doc, pm, an, cdv, ct, osl, rfl, lk, hcd⟩ := F.ex
  refine StX.fn_star lk hcd S (StX.cxUp_none) (hb kV doc pm an cdv ct) fun A outer s H vs Q E hr h => ?_
  obtain ⟨t, ht, hb⟩ := hbody cdv A outer s H vs Q E hr
  exact ⟨t, ht.nox, body_ok hb h⟩
end
section
variable {X : Cx} {CX : CXT} {k i : Nat} {f C : Addr} {sp : Sp} {E : XK} {x : Str} {e : Expr} {es : List Expr} {te : TE} {t : TA} {p pos sp_ : Pos}
theorem pe_makeR0 (M : Mk X.K C f) (F : FnR X.prog X.w X.K X.mg X.base CX k f sp) (hr : Room (k + 1) X.A) (hg : Gl X x) (hm : X.mg x = some (.ref C)) (hx : Passes CX X E) (hdb : (x == ("__debug__" : Str)) = false := by decide) : PE X (.Call (.Name x p) [] [] pos) (StX.tMakeR C sp E tNil) := by
  refine ⟨fun pins s σ H Q I h => ?_⟩
  refine wpAny_Call_Name_kw (ld_glob I hg hm ?_ hdb)
  exact PySem.W.callWith_K0 I.kIn M.kp (StX.run_makeR (us := []) (vs := []) M F hr hx I .nil h)
theorem pe_makeS (M : Mk X.K C f) (F : FnR X.prog X.w X.K X.mg X.base CX k f sp) (hr : Room (k + 1) X.A) (hg : Gl X x) (hm : X.mg x = some (.ref C)) (hx : Passes CX X E) (he : PE X e te) (hd : (x == ("__debug__" : Str)) = false := by decide)
    (hst : starEach [.Starred e sp_] X.env = [(true, eval e X.env)] := by rfl) : PE X (.Call (.Name x p) [.Starred e sp_] [] pos) (tMakeS X.K C sp E te) := by
  refine ⟨fun pins s σ H Q I h => ?_⟩
  refine wpAny_Call_Name_kw (ld_glob I hg hm ?_ hd)
  refine PySem.W.callWith_S (h₀ := X.base) I.ok.mod.kin M.kp (thn (he.run pins s σ H _ I h) fun v s1 ⟨y, H1, I1, ry, a, xs, ey, hxs, q⟩ => ?_) hst
  subst ey
  obtain rfl : v = Value.ref a := ry
  exact StX.star_any I1 hxs fun us s2 I2 rv => ⟨I2.kIn, StX.run_makeR M F hr hx I2 rv q⟩
end
end FD

/-! FDe: max of data, == of dict fields, list and sorted of dicts. -/
namespace FD
open PySem PySem.Spec PyProof.Rows L2
def Cmp2 (d e : PyData) : Prop := PySem.W.AlikeAll [d, e] ∧ PyData.depthAll [d, e] ≤ 60
def rMax2D (K : PySem.W.Frag) : List V → Hp → VK → Prop := fun xs H Q => ∃ x y d e, xs = [x, y] ∧ Dp K H x d ∧ Dp K H y e ∧ Cmp2 d e ∧ Q (if PySem.W.dataLt d e then y else x) H
section
variable {X : Cx}
theorem call_max2D (hc : X.calm = true) (hu : X.A.units + 64 < cLine) : CallR X (.builtin "max") (rMax2D X.K) := by
  intro pins s σ H xs us Q I r h
  obtain ⟨x, y, d, e, rfl, hd, he, hc2, q⟩ := h
  obtain ⟨u, v, rfl, r1, r2⟩ := vals2 r
  obtain ⟨as, p1⟩ := Dp.reads I d x u hd r1
  obtain ⟨bs, p2⟩ := Dp.reads I e y v he r2
  refine PySem.W.fd_max2 (I.ok.hd hc) p1 p2 hc2.1 (by have := hc2.2; omega) fun h' tk k => ⟨_, H, I.kept k, ?_, q⟩
  cases PySem.W.dataLt d e with
  | true => exact r2
  | false => exact r1
end
section
variable {K : PySem.W.Frag} {m : Md} {Γ Γ' Γ1 Γ2 : List Sl} {te ta tb : TE} {x y z d : D} {I H I' H' : Hp} {L L' : List Addr} {i j : Nat} {v u : V} {es fs : List (Key × D)} {up up' : Res → List Sl} {ng : Bool}
theorem cd_max2D (hx : x.pure = true) (hy : y.pure = true) (h : Cmp2 x.py y.py) : CallD K (rMax2D K) [x, y] (if PySem.W.dataLt x.py y.py then y else x) := fun I H vs s hv => by
  cases hv with
  | cons h1 h2 =>
    cases h2 with
    | cons h2 h3 =>
      cases h3
      refine pureR_here s (v := if PySem.W.dataLt x.py y.py then _ else _) ?_ fun Q q => ⟨_, _, _, _, rfl, Is.dp s hx h1, Is.dp s hy h2, h, q⟩
      cases PySem.W.dataLt x.py y.py with
      | true => exact h2
      | false => exact h1
theorem ev_eqDicP (hr : RefE K ta Γ v) (hp : Plc K Γ v (Rdic K es) up) (hr' : RefE K tb Γ u) (hp' : Plc K Γ u (Rdic K fs) up') (h1 : shapedV es) (h2 : shapedV fs) : Ev K m (tOp (rEqDic K ng) ta tb) Γ (.bl (eqDic es fs ^^ ng)) Γ := fun σ I H L w Q q =>
  hr σ I H L w _ (hr' σ I H L w _ (by
    obtain ⟨L1, p1, _⟩ := hp σ I H L w
    obtain ⟨L2, p2, _⟩ := hp' σ I H L w
    obtain ⟨a, kvs, rfl, rfl, ha, ka⟩ := p1
    obtain ⟨b, kws, rfl, rfl, hb, kb⟩ := p2
    exact ⟨a, b, kvs, kws, es, fs, rfl, rfl, .inl ha, .inl hb, ka.mono w.sub, kb.mono w.sub, h1, h2, q _ I H L w Guar.refl (.bl _)⟩))
def kD : Key → D
  | .inl n => .int n
  | .inr s => .str s
theorem is_kV (I : Hp) (k : Key) : Is K I (kV k) (kD k) := by
  cases k with
  | inl n => exact .int n
  | inr s => exact .str s
theorem isA_keys {kvs : List (Key × V)} (h : IsK K I kvs es) : IsA K I (kvs.map fun kv => kV kv.1) (es.map fun e => kD e.1) := by
  induction h with
  | nil => exact .nil
  | cons h t ih => exact .cons (is_kV _ _) ih
theorem cd_listDic : CallD K (fun xs H Q => ∃ (a : Addr) (kvs : List (Key × V)), xs = [.ref a] ∧ Rd H a (.dK kvs) ∧ ∀ p, H p = none → Q (.ref p) (upd H p (.lst (kvs.map fun kv => kV kv.1)))) [D.dict es] (.lst (es.map fun e => kD e.1)) := fun I H vs s hv Q q => by
  cases hv with
  | cons h1 h2 =>
    cases h2
    obtain ⟨a, kvs, rfl, ra, ka⟩ := dict_is h1
    exact ⟨a, kvs, rfl, s.rd ra, fun p hp => let ⟨n, e⟩ := alloc (o := .lst _) s hp; q _ _ _ n e (.lst (sq_of upd_same) ((isA_keys ka).mono n.i))⟩
def isort (ns : List Int) : List Int := ns.mergeSort (fun a b => decide (a ≤ b))
theorem perm_sorted_eq : ∀ {xs ys : List Int}, xs.Perm ys → xs.Pairwise (· ≤ ·) → ys.Pairwise (· ≤ ·) → xs = ys
  | [], ys, p, _, _ => (List.Perm.nil_eq p)
  | x :: xs, [], p, _, _ => by have := p.length_eq; simp at this
  | x :: xs, y :: ys, p, h1, h2 => by
    have hx : x ∈ y :: ys := p.mem_iff.mp List.mem_cons_self
    have hy : y ∈ x :: xs := p.mem_iff.mpr List.mem_cons_self
    have e : x = y := by
      have a : y ≤ x := by
        rcases List.mem_cons.mp hx with h | h
        · omega
        · exact (List.pairwise_cons.mp h2).1 x h
      have b : x ≤ y := by
        rcases List.mem_cons.mp hy with h | h
        · omega
        · exact (List.pairwise_cons.mp h1).1 y h
      omega
    subst e
    rw [perm_sorted_eq (List.Perm.cons_inv p) (List.pairwise_cons.mp h1).2 (List.pairwise_cons.mp h2).2]
theorem isort_perm (ns : List Int) : (isort ns).Perm ns := List.mergeSort_perm ns _
theorem isort_sorted (ns : List Int) : (isort ns).Pairwise (· ≤ ·) := by
  have := List.pairwise_mergeSort (le := fun a b : Int => decide (a ≤ b)) (fun a b c h1 h2 => by simp at *; omega) (fun a b => by simp; omega) ns
  exact this.imp fun h => by simpa using h
theorem isort_uniq {ns ms : List Int} (h : ms.Perm ns) (hs : ms.Pairwise (· ≤ ·)) : ms = isort ns := perm_sorted_eq (h.trans (isort_perm ns).symm) hs (isort_sorted ns)
theorem isA_ints {vs : List V} {ns : List Int} : IsA K I vs (ns.map .int) ↔ vs = ns.map V.int := by
  induction ns generalizing vs with
  | nil =>
    constructor
    · intro h; cases h; rfl
    · rintro rfl; exact .nil
  | cons n ns ih =>
    constructor
    · intro h
      cases h with
      | cons h1 h2 => cases h1; rw [ih.mp h2]; rfl
    · rintro rfl
      exact .cons (.int n) (ih.mpr rfl)
theorem cd_sortedI {ns : List Int} : CallD K (rSortedI K) [.lst (ns.map .int)] (.lst ((isort ns).map .int)) := fun I H vs s hv Q q => by
  cases hv with
  | cons h1 h2 =>
    cases h2
    cases h1 with
    | lst q1 q2 =>
      have e := isA_ints.mp q2
      subst e
      refine ⟨_, ns, rfl, s.l q1, fun ms p h1 h2 hp => ?_⟩
      have e := isort_uniq h1 h2
      subst e
      obtain ⟨n, e⟩ := alloc (o := .lst _) s hp
      exact q _ _ _ n e (.lst (sq_of upd_same) (isA_ints.mpr rfl))
/-- sorted(d), the dict at a place, int keys -/
def rSortedDI : List V → Hp → VK → Prop := fun xs H Q => ∃ (a : Addr) (kvs : List (Key × V)) (ks : List Int), xs = [.ref a] ∧ Rd H a (.dK kvs) ∧ kvs.map (·.1) = ks.map Sum.inl ∧ ks.length < 64 ∧
    ∀ (ys : List Int) (p : Addr), ys.Perm ks → ys.Pairwise (· ≤ ·) → H p = none → Q (.ref p) (upd H p (.lst (ys.map V.int)))
theorem ev_sortedDP {ns : List Int} (hr : RefE K ta Γ v) (hp : Plc K Γ v (Rdic K es) up) (hk : es.map (·.1) = ns.map Sum.inl) (hl : ns.length < 64) : Ev K m (tCB rSortedDI (tCons ta tNil)) Γ (.lst ((isort ns).map .int)) Γ := fun σ I H L w Q q =>
  hr σ I H L w _ (by
    obtain ⟨L1, p1, _⟩ := hp σ I H L w
    obtain ⟨a, kvs, rfl, rfl, ha, ka⟩ := p1
    refine ⟨a, kvs, ns, rfl, .inl ha, by rw [ka.keys, hk], hl, fun ms p h1 h2 hp => ?_⟩
    have e := isort_uniq h1 h2
    subst e
    obtain ⟨n, e⟩ := alloc (o := .lst _) w.sub hp
    exact q _ _ _ L (w.new n e) (Guar.new n) (.lst (sq_of upd_same) (isA_ints.mpr rfl)))
/-! isinstance with own classes -/
structure IsiO (K : PySem.W.Frag) (C : Addr) : Prop where
  cl : Cls K C
  ca : PySem.W.findIn K (.ref C) "__class__" = some (some (.builtin "object.__class__"))
  cn : PySem.W.specialIn K (.builtin "object.__class__") "__get__" = some (some (.builtin "getset_descriptor.__get__"))
  ct : PySem.W.takesIn K (.builtin "object.__class__") = some true
  cm : PySem.W.mroIn K C (.type "object") = some true
  cb : ∀ T ∈ ["NoneType", "bool", "int", "str", "list", "tuple", "dict"], PySem.W.kitOne K (.type T) (.ref C) = some false
/-- isinstance(x, C), x the object in a slot -/
theorem ev_isiO {C : Addr} {R : Res} {mm : Str} {tc : TE} (o : IsiO K C) (hi : Γ[i]? = some (.res v R)) (ho : ObjAt K C mm R) (hc : Ev K .p tc Γ (.raw (.ref C)) Γ) : Ev K m (tCB (rIsi K) (tCons (tVar i) (tCons tc tNil))) Γ (.bl true) Γ := fun σ I H L w Q q => by
  obtain ⟨h1, _⟩ := w.stepR hi
  refine ⟨_, h1, hc σ I H L w _ fun c I1 H1 L1 w1 g1 hv => ?_⟩
  cases hv
  obtain ⟨_, L0, hR, _⟩ := w1.stepR hi
  obtain ⟨a, dx, fv, rfl, e1, _⟩ := ho _ _ _ _ hR
  exact ⟨_, _, .ref C, .ref C, true, rfl, .own C, .base (.ins e1 o.cl o.ca o.cn o.ct o.cm), by simp [PySem.W.kitOne], q _ I1 H1 L1 w1 (by
    obtain ⟨n, rfl⟩ := g1
    exact Guar.new n) (.bl _)⟩
theorem tyN_mem (t : x.typed = true) : x.tyN ∈ ["NoneType", "bool", "int", "str", "list", "tuple", "dict"] := by
  cases x <;> first | (simp [D.tyN]; done) | cases t
theorem cd_isiO {C : Addr} (o : IsiO K C) (t : x.typed = true) : CallD K (rIsi K) [x, .raw (.ref C)] (.bl false) := fun I H vs s hv => by
  cases hv with
  | cons h1 h2 =>
    cases h2 with
    | cons h2 h3 =>
      cases h3
      cases h2
      exact pureR_here s (.bl false) fun Q q => ⟨_, _, _, _, false, rfl, .own C, h1.tyx s t, o.cb _ (tyN_mem t), q⟩
end
end FD

/-! FDf: small facts about the data. -/
namespace FD
open PySem PySem.Spec PyProof.Rows L2
theorem cutD_to (ds : List D) (k : Nat) : cutD ds none (some (k : Int)) = ds.take k := by
  unfold cutD
  rw [HT.sIx_none, HT.sIx_nat]
  simp only [Nat.sub_zero, List.drop_zero]
  rcases Nat.le_total k ds.length with h | h
  · rw [Nat.min_eq_left h]
  · rw [Nat.min_eq_right h, List.take_length, List.take_of_length_le h]
theorem cutD_from (ds : List D) (k : Nat) : cutD ds (some (k : Int)) none = ds.drop k := by
  unfold cutD
  rw [HT.sIx_none, HT.sIx_nat]
  rcases Nat.le_total k ds.length with h | h
  · rw [Nat.min_eq_left h, List.take_of_length_le]
    rw [List.length_drop]
    exact Nat.le_refl _
  · rw [Nat.min_eq_right h, List.drop_length, List.drop_eq_nil_of_le h]
    simp
theorem enumD_map {α : Type} (l : List α) (f : α → D) : enumD (l.map f) = l.zipIdx.map fun p => .tup [.int (p.2 : Nat), f p.1] := by
  unfold enumD
  rw [List.zipIdx_map, List.map_map]
  rfl
theorem Ev.eq {K : PySem.W.Frag} {m : Md} {te : TE} {Γ Γ1 Γ2 : List Sl} {d d' : D} (h : Ev K m te Γ d Γ1) (e : d = d') (g : Γ1 = Γ2) : Ev K m te Γ d' Γ2 := e ▸ g ▸ h
theorem EvT.eq {K : PySem.W.Frag} {m : Md} {te : TT} {Γ Γ1 Γ2 : List Sl} {d d' : Bool} (h : EvT K m te Γ d Γ1) (e : d = d') (g : Γ1 = Γ2) : EvT K m te Γ d' Γ2 := e ▸ g ▸ h
theorem EvR.eq {K : PySem.W.Frag} {te : TE} {Γ Γ1 Γ2 : List Sl} {d d' : Res} (h : EvR K te Γ d Γ1) (e : d = d') (g : Γ1 = Γ2) : EvR K te Γ d' Γ2 := e ▸ g ▸ h
theorem atI_nat' {ds : List D} {i : Nat} {d : D} (h : ds[i]? = some d) : atI ds (i : Int) = some d := atI_nat h
end FD

/-! FDg: pairs of assignments; temporaries. -/
namespace FD
open PySem PySem.Spec PyProof.Rows L2
section
variable {K : PySem.W.Frag} {m : Md} {Γ Γ' Γ1 Γ2 pre post : List Sl} {te tb te1 te2 : TE} {ta : TA} {tu : TS} {z d d1 d2 : D} {I H I' H' : Hp} {L L' : List Addr} {i j : Nat} {v u : V} {R R' S S' Rn R1 R2 : Res} {C : Addr} {sp : Sp} {E : XK} {mm mm' : Str} {o : Out} {ds : List D}
theorem Wd.hold {σ : Sg} (w : Wd K (.res v R :: Γ1) (some v :: σ) I H L) : ∃ L1 L2, L = L1 ++ L2 ∧ Wd K Γ1 σ I H L2 ∧ ∀ {Γ2 : List Sl} {σ2 : Sg} {I' H' : Hp} {L2' : List Addr}, Wd K Γ2 σ2 I' H' L2' → Step I H L2 I' H' L2' →
    Wd K (.res v R :: Γ2) (some v :: σ2) I' H' (L1 ++ L2') ∧ Step I H (L1 ++ L2) I' H' (L1 ++ L2') := by
  have e := w.env
  cases e with
  | @res _ _ L1 L2 _ _ p e =>
    have nd := List.nodup_append.mp w.nd
    refine ⟨L1, L2, rfl, ⟨e, nd.2.1, fun a h => w.fr a (by simp [h]), w.sub⟩, fun {Γ2 σ2 I' H' L2'} w' s => ?_⟩
    have lv : ∀ a ∈ L1, H a ≠ none := fun a h => R.live p a h
    have out : ∀ a ∈ L1, a ∉ L2 := fun a h q => nd.2.2 a h a q rfl
    have kp : ∀ a ∈ L1, H' a = H a := fun a h => by
      cases e : H a with
      | none => exact absurd e (lv a h)
      | some o => exact s.keep a o e (out a h)
    have ap : ∀ a ∈ L1, a ∉ L2' := fun a h q => (s.l a q).elim (out a h) (lv a h)
    refine ⟨⟨.res (R.mono s.i (R.frame kp p)) w'.env, List.nodup_append.mpr ⟨nd.1, w'.nd, fun a h b hb e => ap a h (e ▸ hb)⟩, fun a h => ?_, w'.sub⟩, s.frame L1⟩
    rcases List.mem_append.mp h with h | h
    · cases e : I' a with
      | none => rfl
      | some o =>
        rcases s.n a o e with q | q | q
        · rw [w.fr a (by simp [h])] at q; cases q
        · exact absurd q (out a h)
        · exact absurd q (lv a h)
    · exact w'.fr a h
theorem run_parRR (h1 : EvR K te1 Γ R1 Γ1) (h2 : EvR K te2 Γ1 R2 Γ2) (hi : i < Γ2.length) (hj : j < Γ2.length) (ij : i ≠ j) (k : ∀ v u, Run K tu ((Γ2.set i (.res v R1)).set j (.res u R2)) o) : Run K (tSeq (tPar i j (tCons te1 (tCons te2 tNil))) tu) Γ o := fun σ I H L w Dn p =>
  h1 σ I H L w _ fun v I1 H1 L1 w1 s1 => by
    obtain ⟨M1, M2, rfl, wa, fr⟩ := w1.hold
    refine h2 σ I1 H1 M2 wa _ fun u I2 H2 L2 w2 s2 => ?_
    obtain ⟨N1, N2, rfl, wb, _⟩ := w2.hold
    have s2' : Step I1 H1 M2 I2 H2 (N1 ++ N2) := s2
    obtain ⟨w3, s3⟩ := fr w2 s2'
    obtain ⟨L4, w4, s4⟩ := Wd.setR (i := i + 1) w3 (by simp; exact hi)
    obtain ⟨L5, w5, s5⟩ := Wd.setR (i := j) (Γ := Γ2.set i (.res v R1)) (σ := σ.set i (some v)) (by simpa using w4) (by simpa using hj)
    exact ⟨v, u, rfl, k v u _ I2 H2 L5 w5 Dn (p.later (s1.trans (s3.trans (s4.trans s5))))⟩
theorem run_parDR (h1 : Ev K m te1 Γ d Γ1) (h2 : EvR K te2 Γ1 R2 Γ2) (hi : i < Γ2.length) (hj : j < Γ2.length) (ij : i ≠ j) (k : ∀ u, Run K tu ((Γ2.set i (.dat d)).set j (.res u R2)) o) : Run K (tSeq (tPar i j (tCons te1 (tCons te2 tNil))) tu) Γ o := fun σ I H L w Dn p =>
  h1 σ I H L w _ fun v I1 H1 L1 w1 g1 hv => h2 σ I1 H1 L1 w1 _ fun u I2 H2 L2 w2 s2 => by
    obtain ⟨L3, w3, s3⟩ := w2.setD (hv.mono s2.i) (i + 1)
    obtain ⟨L4, w4, s4⟩ := Wd.setR (i := j) (Γ := Γ2.set i (.dat d)) (σ := σ.set i (some v)) (by simpa using w3) (by simpa using hj)
    exact ⟨v, u, rfl, k u _ I2 H2 L4 w4 Dn (p.later (g1.step.trans (s2.trans (s3.trans s4))))⟩
theorem run_parDD {m' : Md} (h1 : Ev K m te1 Γ d1 Γ1) (h2 : Ev K m' te2 Γ1 d2 Γ2) : Run K (tPar i j (tCons te1 (tCons te2 tNil))) Γ (.nx ((Γ2.set i (.dat d1)).set j (.dat d2))) := fun σ I H L w Dn p =>
  h1 σ I H L w _ fun v I1 H1 L1 w1 g1 hv => h2 σ I1 H1 L1 w1 _ fun u I2 H2 L2 w2 g2 hu => by
    obtain ⟨L3, w3, s3⟩ := w2.setD (hv.mono g2.i) i
    obtain ⟨L4, w4, s4⟩ := w3.setD hu j
    exact ⟨v, u, rfl, p _ I2 H2 L4 w4 (g1.step.trans (g2.step.trans (s3.trans s4)))⟩
/-- e.append(x), the list a temporary -/
theorem run_appT (h1 : EvR K te1 Γ (Rlst K ds) Γ1) (h2 : Ev K m te2 Γ1 d Γ2) (hz : ds.length < sizeLine) : Run K (tDrop (tBM K "list" rAppend te1 (tCons te2 tNil))) Γ (.nx Γ2) := fun σ I H L w Dn p =>
  h1 σ I H L w _ fun v I1 H1 L1 w1 s1 => by
    obtain ⟨M1, M2, rfl, wa, fr⟩ := w1.hold
    obtain ⟨hσ, a, xs, rfl, ha, hx, _⟩ := w1.wr (k := 0) (ds' := []) rfl
    refine .inl ⟨rfl, _, sq_of ha⟩ |> fun z => ⟨z, h2 σ I1 H1 M2 wa _ fun u I2 H2 L2 w2 g2 hu => ?_⟩
    obtain ⟨w3, s3⟩ := fr w2 g2.step
    obtain ⟨_, a', xs', e, ha', hx', fin⟩ := w3.wr (k := 0) (ds' := ds ++ [d]) rfl
    cases e
    obtain ⟨L4, w4, s4⟩ := fin (xs' ++ [u]) (hx'.append (.cons hu .nil))
    obtain ⟨N1, N2, e4, wb, _⟩ := Wd.hold (by simpa using w4 : Wd K (.res (.ref a) (Rlst K (ds ++ [d])) :: Γ2) (some (.ref a) :: σ) I2 (upd H2 a (.lst (xs' ++ [u]))) L4)
    refine ⟨_, xs', u, rfl, rfl, ha', by rw [hx'.length]; exact hz, p σ I2 _ N2 wb (s1.trans (s3.trans (s4.trans ?_)))⟩
    subst e4
    exact ⟨Ex.refl _, fun _ _ h _ => h, fun a h => .inl (by simp [h]), fun _ _ h => .inl h⟩
/-- x == y, both temporaries -/
theorem ev_own2T (h1 : EvR K te1 Γ R Γ1) (h2 : EvR K te2 Γ1 S Γ2) (ho : ObjAt K C mm R) (ho' : ObjAt K C mm' S) (hs : ∀ v u, Con K sp [.res v R, .res u S] z [.res v R, .res u S]) : Ev K .e (tOp (rOwnC C sp E) te1 te2) Γ z Γ2 := fun σ I H L w Q q =>
  h1 σ I H L w _ fun v I1 H1 L1 w1 s1 => by
    obtain ⟨M1, M2, rfl, wa, fr⟩ := w1.hold
    refine h2 σ I1 H1 M2 wa _ fun u I2 H2 L2 w2 s2 => ?_
    obtain ⟨w3, s3⟩ := fr w2 s2
    have w4 : Wd K ([.res v R, .res u S] ++ Γ2) ([v, u].map some ++ σ) I2 H2 (M1 ++ L2) := w3
    obtain ⟨_, L0, hR, _⟩ := w3.stepR (i := 0) rfl
    obtain ⟨_, L0', hS, _⟩ := w3.stepR (i := 1) rfl
    obtain ⟨a, dx, fv, rfl, e1, _⟩ := ho _ _ _ _ hR
    obtain ⟨b, dy, gv, rfl, e2, _⟩ := ho' _ _ _ _ hS
    refine ⟨a, b, dx, dy, fv, gv, rfl, rfl, e1, e2, ?_⟩
    refine Con.frame (hs _ _) rfl w4 Q fun x I3 H3 L3 w5 s5 hx => ?_
    obtain ⟨N1, N2, e4, wb, _⟩ := Wd.hold w5
    obtain ⟨N3, N4, e5, wc, _⟩ := Wd.hold wb
    subst e4 e5
    exact q x I3 H3 N4 wc (s1.trans (s3.trans (s5.trans ⟨Ex.refl _, fun _ _ h _ => h, fun a h => .inl (by simp [h]), fun _ _ h => .inl h⟩))) hx
def rListOf (K : PySem.W.Frag) : List V → Hp → VK → Prop := fun xs H Q => ∃ p ys, xs = [.ref p] ∧ (SqL K H p ys ∨ SqT K H p ys) ∧ ∀ l, H l = none → Q (.ref l) (upd H l (.lst ys))
theorem er_listOf (h : Ev K m te Γ x Γ1) (hx : x = .lst ds ∨ x = .tup ds) : EvR K (tCB (rListOf K) (tCons te tNil)) Γ (Rlst K ds) Γ1 := fun σ I H L w Q q =>
  h σ I H L w _ fun v I1 H1 L1 w1 g1 hv => by
    have fin : ∀ xs, IsA K I1 xs ds → ∀ p, H1 p = none → Q (.ref p) (upd H1 p (.lst xs)) := fun xs hx p hp => by
      obtain ⟨w2, s2⟩ := w1.allocR (R := Rlst K ds) (o := .lst xs) hp ⟨p, xs, rfl, rfl, upd_same, hx⟩
      exact q (.ref p) I1 _ _ w2 (g1.step.trans s2)
    rcases hx with rfl | rfl
    · cases hv with
      | lst q1 q2 => exact ⟨_, _, rfl, .inl (w1.sub.l q1), fin _ q2⟩
    · cases hv with
      | tup q1 q2 => exact ⟨_, _, rfl, .inr (w1.sub.t q1), fin _ q2⟩
end
end FD

/-! FDh: truth of ints, join. -/
namespace FD
open PySem PySem.Spec PyProof.Rows L2
section
variable {X : Cx} {a : Expr} {ta : TE}
theorem op_addK {K : PySem.W.Frag} (hK : X.K = K := by rfl) : OpR X (binaryOp .Add) (rAddA K) := hK ▸ op_addA
theorem ix_seqK {K : PySem.W.Frag} (hK : X.K = K := by rfl) : IxR X (rIx K) := hK ▸ ix_seq
theorem call_lenK {K : PySem.W.Frag} (hK : X.K = K := by rfl) : CallR X (.builtin "len") (rLenA K) := hK ▸ call_lenA
theorem sl_anyK {K : PySem.W.Frag} (hK : X.K = K := by rfl) : SlR X (rSlAny K) := hK ▸ sl_any
theorem op_eqK {K : PySem.W.Frag} (hu : X.A.units + 64 < cLine) (hK : X.K = K := by rfl) : OpR X (compareOp .Eq) (rEqD K) := hK ▸ op_eqD hu
theorem op_neK {K : PySem.W.Frag} (hu : X.A.units + 64 < cLine) (hK : X.K = K := by rfl) : OpR X (compareOp .NotEq) (rNeD K) := hK ▸ op_neD hu
theorem pt_tru {K : PySem.W.Frag} (ha : PE X a ta) (hK : X.K = K := by rfl) (he : ∀ whole, isTrue a X.env whole = (do let v ← whole; standAt a.pos; holding [v] (truthy v)) := by intro _; rfl) : PT X a (tTru K ta) := hK ▸ pt_truth ha he
end
section
variable {K : PySem.W.Frag} {m : Md} {Γ Γ1 Γ2 : List Sl} {te to : TE} {i : Int} {a : Str} {ys : List Str} {d : D}
theorem evt_truInt (h : Ev K m te Γ (.int i) Γ1) : EvT K m (tTru K te) Γ (decide (i ≠ 0)) Γ1 := fun σ I H L w Q q => h σ I H L w _ fun v I1 H1 L1 w1 g1 hv => by
  cases hv
  exact ⟨decide (i ≠ 0), by show decide (i ≠ 0) = (i != 0); by_cases h : i = 0 <;> simp [h], q I1 H1 L1 w1 g1⟩
theorem it_rngN {ta : TA} {n : Nat} (h : EvA K m ta Γ [.int (n : Nat)] Γ1) (hn : n ≤ 1000000) : ItD K m (iRng1 ta) Γ (intsD 0 n) Γ1 := by
  have := it_rng1 (n := (n : Nat)) h (by omega)
  rw [Int.toNat_natCast] at this
  exact this
theorem run_asgG {g : TG} {js : List Nat} (h : Ev K m te Γ d Γ1) (hg : RunG K g js d Γ1 Γ2) : Run K (tAsg te g) Γ (.nx Γ2) := fun σ I H L w Dn p => h σ I H L w _ fun v I1 H1 L1 w1 g1 hv =>
  hg v σ I1 H1 L1 w1 hv _ fun σ' w' _ => p σ' I1 H1 L1 w' g1.step
theorem filter_true {α : Type} (l : List α) : l.filter (fun _ => true) = l := List.filter_eq_self.mpr fun _ _ => rfl
theorem evt_yes : EvT K m tYes Γ true Γ := fun σ I H L w Q q => q I H L w Guar.refl
theorem isA_strs {I : Hp} {vs : List V} : IsA K I vs (ys.map .str) ↔ vs = ys.map V.str := by
  induction ys generalizing vs with
  | nil =>
    constructor
    · intro h; cases h; rfl
    · rintro rfl; exact .nil
  | cons n ns ih =>
    constructor
    · intro h
      cases h with
      | cons h1 h2 => cases h1; rw [ih.mp h2]; rfl
    · rintro rfl
      exact .cons (.str n) (ih.mpr rfl)
def rJoin (K : PySem.W.Frag) : V → List V → Hp → VK → Prop := fun x xs H Q => ∃ a p, ∃ ys : List Str, x = .str a ∧ xs = [.ref p] ∧ (SqL K H p (ys.map V.str) ∨ SqT K H p (ys.map V.str)) ∧
      (ys.map (·.length)).sum + ys.length * a.length ≤ 16777216 ∧ Q (.str (Txt.join a ys)) H
theorem ev_join (h1 : Ev K m to Γ (.str a) Γ1) (h2 : Ev K m te Γ1 d Γ2) (hd : d = .lst (ys.map .str) ∨ d = .tup (ys.map .str)) (hz : (ys.map (·.length)).sum + ys.length * a.length ≤ 16777216) : Ev K m (tM1 (rJoin K) to te) Γ (.str (Str.join a ys)) Γ2 := fun σ I H L w Q q =>
  h1 σ I H L w _ fun v I1 H1 L1 w1 g1 hv => by
    cases hv
    refine ⟨⟨a, rfl⟩, h2 σ I1 H1 L1 w1 _ fun u I2 H2 L2 w2 g2 hu => ?_⟩
    have fin : Q (.str (Txt.join a ys)) H2 := by
      rw [TL.join_eq]
      exact q _ I2 H2 L2 w2 (g1.trans g2) (.str _)
    rcases hd with rfl | rfl
    · cases hu with
      | lst q1 q2 =>
        rw [isA_strs] at q2
        subst q2
        exact ⟨a, _, ys, rfl, rfl, .inl (w2.sub.l q1), hz, fin⟩
    · cases hu with
      | tup q1 q2 =>
        rw [isA_strs] at q2
        subst q2
        exact ⟨a, _, ys, rfl, rfl, .inr (w2.sub.t q1), hz, fin⟩
end
end FD

/-! FDi: resources told more weakly at an end; sorted of a dict as a new list. -/
namespace FD
open PySem PySem.Spec PyProof.Rows L2
theorem hu65 {A : Around} {k : Nat} (hr : Room k A) : A.units + 65 < cLine := by have := hr.un; omega
inductive WkR : List Sl → List Sl → Prop
  | nil : WkR [] []
  | keep {x : Sl} {Γ Γ' : List Sl} : WkR Γ Γ' → WkR (x :: Γ) (x :: Γ')
  | res {v : V} {R R' : Res} {Γ Γ' : List Sl} (h : ∀ I H L, R.P I v H L → R'.P I v H L) : WkR Γ Γ' → WkR (.res v R :: Γ) (.res v R' :: Γ')
theorem WkR.refl : ∀ Γ : List Sl, WkR Γ Γ
  | [] => .nil
  | _ :: Γ => .keep (WkR.refl Γ)
section
variable {K : PySem.W.Frag} {m : Md} {Γ Γ1 Γ2 : List Sl} {ts : TS} {te ta : TE} {d : D} {I H : Hp} {L : List Addr} {v w : V} {R : Res} {es : List (Key × D)} {up : Res → List Sl} {k : Nat} {F : V → Res}
theorem EnvOk.weakR : ∀ {Γ Γ' : List Sl} {σ : Sg} {L : List Addr}, WkR Γ Γ' → EnvOk K I H Γ σ L → EnvOk K I H Γ' σ L
  | _, _, _, _, .nil, .nil => .nil
  | _, _, _, _, .keep k, .em x e => .em x (e.weakR k)
  | _, _, _, _, .keep k, .dat p e => .dat p (e.weakR k)
  | _, _, _, _, .keep k, .res p e => .res p (e.weakR k)
  | _, _, _, _, .res h k, .res p e => .res (h _ _ _ p) (e.weakR k)
theorem Wd.weakR {σ : Sg} (k : WkR Γ Γ1) (w : Wd K Γ σ I H L) : Wd K Γ1 σ I H L := ⟨w.env.weakR k, w.nd, w.fr, w.sub⟩
theorem Run.rtW (h : Run K ts Γ (.rt d Γ1)) (k : WkR Γ1 Γ2) : Run K ts Γ (.rt d Γ2) := fun σ I H L w Dn p => h σ I H L w Dn fun v σ' I' H' L' w' s hv => p v σ' I' H' L' (w'.weakR k) s hv
theorem Run.nxW (h : Run K ts Γ (.nx Γ1)) (k : WkR Γ1 Γ2) : Run K ts Γ (.nx Γ2) := fun σ I H L w Dn p => h σ I H L w Dn fun σ' I' H' L' w' s => p σ' I' H' L' (w'.weakR k) s
theorem Run.rtRW (h : Run K ts Γ (.rtR R Γ1)) (k : WkR Γ1 Γ2) : Run K ts Γ (.rtR R Γ2) := fun σ I H L w Dn p => h σ I H L w Dn fun v σ' I' H' L' w' s => p v σ' I' H' L' (w'.weakR (.keep k)) s
theorem er_sortedDP {ns : List Int} (hr : RefE K ta Γ v) (hp : Plc K Γ v (Rdic K es) up) (hk : es.map (·.1) = ns.map Sum.inl) (hl : ns.length < 64) : EvR K (tCB rSortedDI (tCons ta tNil)) Γ (Rlst K ((isort ns).map .int)) Γ := fun σ I H L w Q q =>
  hr σ I H L w _ (by
    obtain ⟨L1, p1, _⟩ := hp σ I H L w
    obtain ⟨a, kvs, rfl, rfl, ha, ka⟩ := p1
    refine ⟨a, kvs, ns, rfl, .inl ha, by rw [ka.keys, hk], hl, fun ms p h1 h2 hp => ?_⟩
    have e := isort_uniq h1 h2
    subst e
    obtain ⟨w2, s2⟩ := w.allocR (R := Rlst K ((isort ns).map .int)) (o := .lst ((isort ns).map V.int)) hp ⟨p, _, rfl, rfl, upd_same, isA_ints.mpr rfl⟩
    exact q (.ref p) I _ _ w2 s2)
end
end FD

/-! FDj: sorted(d.items()) of a dict with int keys. -/
namespace PySem.W
open PySem PySem.Spec PyProof.Rows
mutual
theorem fd_live {h : Heap} : ∀ {v : Value} {d : PyData} {as : List Addr}, Reads h v d as → ∀ b ∈ as, ∃ o, h.get? b = some o
  | _, _, _, .none => fun b hb => by simp at hb
  | _, _, _, .bool b => fun b hb => by simp at hb
  | _, _, _, .int i t => fun b hb => by simp at hb
  | _, _, _, .str x t => fun b hb => by simp at hb
  | _, _, _, .list h1 h2 h3 h4 => fun b hb => by
    rcases List.mem_cons.mp hb with rfl | hb
    · exact ⟨_, h1⟩
    · exact fd_liveAll h4 b hb
  | _, _, _, .tuple h1 h2 h3 h4 => fun b hb => fd_liveAll h4 b hb
  | _, _, _, .dict h1 h2 h3 h4 h5 => fun b hb => by
    rcases List.mem_append.mp hb with hb | hb
    · rcases List.mem_cons.mp hb with rfl | hb
      · exact ⟨_, h1⟩
      · exact fd_liveAll h4 b hb
    · exact fd_liveAll h5 b hb
theorem fd_liveAll {h : Heap} : ∀ {vs : List Value} {ds : List PyData} {as : List Addr}, ReadsAll h vs ds as → ∀ b ∈ as, ∃ o, h.get? b = some o
  | _, _, _, .nil => fun b hb => by simp at hb
  | _, _, _, .cons h1 h2 => fun b hb => (List.mem_append.mp hb).elim (fd_live h1 b) (fd_liveAll h2 b)
end
end PySem.W
namespace FD
open PySem PySem.Spec PyProof.Rows L2
theorem paired_get {α β : Type} {R : α → β → Prop} : ∀ {xs : List α} {ys : List β}, Paired R xs ys → ∀ {j : Nat} {x : α}, xs[j]? = some x → ∃ y, ys[j]? = some y ∧ R x y
  | _, _, .nil, j, x, h => by simp at h
  | _, _, .cons a t, 0, x, h => by simp at h; subst h; exact ⟨_, rfl, a⟩
  | _, _, .cons a t, j + 1, x, h => by simpa using paired_get t (j := j) (by simpa using h)
theorem each_get {α β : Type} {R : α → β → Prop} {xs : List α} {ys : List β} (hl : xs.length = ys.length) (h : ∀ (j : Nat) (x : α) (y : β), xs[j]? = some x → ys[j]? = some y → R x y) : PySem.W.EachIs R xs ys := by
  induction xs generalizing ys with
  | nil =>
    cases ys with
    | nil => exact .nil
    | cons _ _ => simp at hl
  | cons x xs ih =>
    cases ys with
    | nil => simp at hl
    | cons y ys => exact .cons (h 0 x y rfl rfl) (ih (by simpa using hl) fun j a b p q => h (j + 1) a b (by simpa using p) (by simpa using q))
theorem each_map' {α β : Type} {f : β → α} : ∀ {xs : List α} {ys : List β}, PySem.W.EachIs (fun a b => a = f b) xs ys → xs = ys.map f
  | _, _, .nil => rfl
  | _, _, .cons e t => by rw [e, each_map' t]; rfl
def rItemsK : V → List V → Hp → VK → Prop := fun x xs H Q => ∃ (a : Addr) (kvs : List (Key × V)), x = .ref a ∧ xs = [] ∧ Rd H a (.dK kvs) ∧ ∀ p, H p = none → Q (.ref p) (upd H p (DX.itemsO p a))
section
variable {X : Cx}
theorem mt_itemsK : MtR X "dict.items" rItemsK := by
  intro pins s σ H x xs v us Q I rx rxs h
  obtain ⟨a, kvs, rfl, rfl, ha, q⟩ := h
  cases rx
  cases rxs
  obtain ⟨z, hd, vs, rel, o, es, ep, ho, hx, hdat, _⟩ := dk_rd I.hok ha
  refine DT.callItems (es := es) (ep := ep) hd ⟨o, ho, hx, hdat⟩ ?_
  have hf : H s.heap.objs.size = none := I.hok.fresh (Nat.le_refl _)
  exact ⟨.ref s.heap.objs.size, upd H s.heap.objs.size (DX.itemsO s.heap.objs.size a), I.laid (t' := s.toks) (fun b u e => Heap.get?_push_of_some _ e) (Nat.le_refl _) (DX.itemsO_ok (Heap.get?_push_size _ rfl)), rfl, q _ hf⟩
def kAt (ns : List Int) (j : Nat) : Int := ns.getD j 0
def rSortItK (K : PySem.W.Frag) : List V → Hp → VK → Prop := fun vs H Q => ∃ (p a : Addr) (kvs : List (Key × V)) (ns : List Int) (ds : List PyData), vs = [.ref p] ∧ H p = some (DX.itemsO p a) ∧ Rd H a (.dK kvs) ∧ kvs.map (·.1) = ns.map Sum.inl ∧ DpAll K H (kvs.map (·.2)) ds ∧ ns.Nodup ∧ ns.length < 64 ∧
  (∀ x ∈ ds, ∀ y ∈ ds, PySem.W.alike x y = true) ∧ (∀ x ∈ ds, x.depth ≤ 50) ∧
  ∀ (H' : Hp) (l : Addr) (ps : List (Addr × Nat)), (∀ b o, H b = some o → H' b = some o) → H l = none → (∀ z ∈ ps, H z.1 = none) → (ps.map (·.2)).Perm (List.range ns.length) → (ps.map fun z => kAt ns z.2).Pairwise (· ≤ ·) → H' l = some (.lst (ps.map fun z => V.ref z.1)) →
    (∀ z ∈ ps, ∃ e, kvs[z.2]? = some e ∧ H' z.1 = some (.tup [.int (kAt ns z.2), e.2])) → Q (.ref l) H'
theorem dpAll_get {K : PySem.W.Frag} {H : Hp} : ∀ {vs : List V} {ds : List PyData}, DpAll K H vs ds → vs.length = ds.length ∧ ∀ (j : Nat) v, vs[j]? = some v → ∃ d, ds[j]? = some d ∧ Dp K H v d
  | _, _, .nil => ⟨rfl, fun j v h => by simp at h⟩
  | _, _, .cons a t => by
    obtain ⟨l, q⟩ := dpAll_get t
    refine ⟨by simp [l], fun j v h => ?_⟩
    cases j with
    | zero => simp at h; subst h; exact ⟨_, rfl, a⟩
    | succ j => simpa using q j v (by simpa using h)
theorem cr_sortItK (hc : X.calm = true) (hu : X.A.units + 64 < cLine) : CallR X (.builtin "sorted") (rSortItK X.K) := by
  intro pins s σ H xs us Q I r h
  obtain ⟨p, a, kvs, ns, ds, rfl, hp, ha, hk, hD, hnd, h64, hal, hdp, q⟩ := h
  obtain rfl := Vals.ref1 r
  have view : s.heap.IsItemsView p a := (show ObjOk X.prog X.w H s.heap p (DX.itemsO p a) from I.hok p _ hp).1
  obtain ⟨z, hd, vs, rel, o, es, ep, ho, hx, hdat, hka, hpa, hn⟩ := dk_rd I.hok ha
  have l1 : kvs.length = vs.length := Paired.length rel
  have l0 : kvs.length = ns.length := by have := congrArg List.length hk; simpa using this
  have l2 : es.size = vs.length := by rw [← hpa.length]; exact Array.length_toList.symm
  have hh : X.A.handled = none := I.ok.hd hc
  obtain ⟨lD, gD⟩ := dpAll_get hD
  rw [List.length_map] at lD
  refine DT.sortedI (es := es) (ep := ep) hh view ⟨o, ho, hx, hdat⟩ (by rw [sizeLine_eq]; omega) fun h' tk as hk' hlt hl hG => ?_
  have lak : as.length = ns.length := by omega
  have nd : as.Nodup := List.Pairwise.imp (fun h => Nat.ne_of_lt h) hG.rise
  have pr : ∀ (j : Nat) (b : Addr), as[j]? = some b → ∃ (e : Key × V) (t : Tok) (u : Value) (d : PyData), kvs[j]? = some e ∧ h'.get? b = some { cls := .type "tuple", data := .seq #[Value.int (kAt ns j) t, u] } ∧ RelV e.2 u ∧ ds[j]? = some d ∧ Dp X.K H e.2 d := by
    intro j b hj
    obtain ⟨en, he, hg⟩ := hG.pairs j b hj
    have hjl : j < kvs.length := by have := (List.getElem?_eq_some_iff.mp hj).1; omega
    have hkj : kvs[j]? = some kvs[j] := List.getElem?_eq_getElem hjl
    obtain ⟨⟨k, v⟩, hv, e1, e2⟩ := paired_get rel hkj
    obtain ⟨hkey, hval⟩ := hpa.get? (i := j) (e := en) (k := k) (v := v) (by rw [Array.getElem?_toList]; exact he) hv
    have rk : Vals [kV k] [en.key] := keys_at (us := [en.key]) (vs := [(k, v)]) rfl fun i u hu' => by
      cases i with
      | zero => simp at hu'; subst hu'; exact ⟨k, v, rfl, hkey⟩
      | succ i => simp at hu'
    have hn' : (kvs.map (·.1))[j]? = some k := by rw [List.getElem?_map, hkj]; exact congrArg some e1
    rw [hk, List.getElem?_map] at hn'
    have hkN : k = Sum.inl (kAt ns j) := by
      unfold kAt
      cases q : ns[j]? with
      | none => rw [q] at hn'; cases hn'
      | some n => rw [q] at hn'; simp [List.getD, q]; exact (Option.some.inj hn').symm
    cases rk with
    | cons r1 r2 =>
      rw [hkN] at r1
      obtain ⟨t, ht⟩ := r1
      obtain ⟨d, hd1, hd2⟩ := gD j kvs[j].2 (by rw [List.getElem?_map, hkj]; rfl)
      refine ⟨kvs[j], t, v, d, hkj, ?_, e2, hd1, hd2⟩
      rw [hg, ht, hval]
  have hob : (h'.push { cls := .type "list", data := .seq (as.map Value.ref).toArray }).get? h'.objs.size = some (seqObj "list" (as.map Value.ref).toArray 0) := Heap.get?_push_size _ rfl
  have kb : ∀ b o, s.heap.get? b = some o → (h'.push { cls := .type "list", data := .seq (as.map Value.ref).toArray }).get? b = some o := fun b o e => Heap.get?_push_of_some _ (hk' b o e)
  have ne0 : ∀ b o, h'.get? b = some o → b ≠ h'.objs.size := fun b o e => Nat.ne_of_lt (Heap.lt_size e)
  have dead : h'.get? h'.objs.size = none := by
    cases e : h'.get? h'.objs.size with
    | none => rfl
    | some o => exact absurd rfl (ne0 _ _ e)
  have ka : ∀ b o, h'.get? b = some o → (h'.push { cls := .type "list", data := .seq (as.map Value.ref).toArray }).get? b = some o := fun b o e => Heap.get?_push_of_some _ e
  generalize hh2 : h'.push { cls := .type "list", data := .seq (as.map Value.ref).toArray } = h2 at hob kb ka ⊢
  let enc : Addr × Nat → PyData := fun z => .tuple [.int (kAt ns z.2), ds.getD z.2 .none]
  let bs : List (Addr × Nat) := as.zipIdx
  have lbs : bs.length = as.length := List.length_zipIdx
  have bsg : ∀ j (z : Addr × Nat), bs[j]? = some z → as[j]? = some z.1 ∧ z.2 = j := fun j z hz => by
    rw [List.getElem?_zipIdx] at hz
    cases e : as[j]? with
    | none => rw [e] at hz; cases hz
    | some b => rw [e] at hz; simp at hz; subst hz; exact ⟨rfl, rfl⟩
  have bsm : ∀ z ∈ bs, as[z.2]? = some z.1 := fun z hz => by
    obtain ⟨j, hj⟩ := List.mem_iff_getElem?.mp hz
    obtain ⟨h1, h2⟩ := bsg j z hj
    rw [h2]
    exact h1
  have dAt : ∀ j d, ds[j]? = some d → ds.getD j .none = d := fun j d h => by simp [List.getD, h]
  have e1 : PySem.W.EachIs (fun v (b : Addr × Nat) => v = Value.ref b.1) (as.map Value.ref) bs := each_get (by rw [List.length_map, lbs]) fun j x y hx hy => by
    obtain ⟨h1, _⟩ := bsg j y hy
    rw [List.getElem?_map, h1] at hx
    exact (Option.some.inj hx).symm
  have er : PySem.W.EachIs (fun v (b : Addr × Nat) => ∃ as', Reads h2 v (enc b) as' ∧ h'.objs.size ∉ as') (as.map Value.ref) bs := each_get (by rw [List.length_map, lbs]) fun j x y hx hy => by
    obtain ⟨h1, hj⟩ := bsg j y hy
    rw [List.getElem?_map, h1] at hx
    have hx' := Option.some.inj hx
    subst hx'
    subst hj
    obtain ⟨e, t, u, d, q1, q2, q3, q4, q5⟩ := pr y.2 y.1 h1
    obtain ⟨as', r'⟩ := Dp.reads I d e.2 u q5 q3
    have r2 : Reads h' u d as' := PyProof.Rows.Reads.keeps hk' r'
    refine ⟨[] ++ (as' ++ []), .tuple (ka _ _ q2) rfl rfl (.cons (.int _ _) (.cons ?_ .nil)), ?_⟩
    · rw [dAt y.2 d q4]
      exact PyProof.Rows.Reads.keeps ka r2
    · intro hm
      simp at hm
      obtain ⟨o, ho'⟩ := PySem.W.fd_live r2 _ hm
      rw [dead] at ho'
      cases ho'
  have memD : ∀ z ∈ bs, ds.getD z.2 .none ∈ ds := fun z hz => by
    have h1 := (List.getElem?_eq_some_iff.mp (bsm z hz)).1
    have h2 : z.2 < ds.length := by omega
    simp [List.getD, List.getElem?_eq_getElem h2]
  refine PySem.W.list_sort_data (s := { s with heap := h2, toks := tk }) (enc := enc) hob e1 er ?_ ?_ (by rw [lbs, sizeLine_eq]; omega) (fun b hb => ?_) fun out o1 o2 => ?_
  · intro x hx y hy
    obtain ⟨b, hb, rfl⟩ := List.mem_map.mp hx
    obtain ⟨c, hc', rfl⟩ := List.mem_map.mp hy
    show PySem.W.alike (.tuple [.int (kAt ns b.2), ds.getD b.2 .none]) (.tuple [.int (kAt ns c.2), ds.getD c.2 .none]) = true
    rw [PySem.W.alike, PySem.W.alikeAll, PySem.W.alikeAll, hal _ (memD b hb) _ (memD c hc')]
    rfl
  · exact .inl fun d hd => by
      obtain ⟨b, _, rfl⟩ := List.mem_map.mp hd
      exact ⟨_, _, rfl⟩
  · have := hdp _ (memD b hb)
    show X.A.units + 1 + 1 + PyData.depth (.tuple [.int _, _]) < cLine
    simp only [PyData.depth, PyData.depthAll]
    omega
  · show EP X pins σ Q (.ref h'.objs.size) { s with heap := sortedHeap h2 h'.objs.size (as.map Value.ref) (List.toArray out), toks := tk }
    let ps : List (Addr × Nat) := bs.mergeSort (PySem.W.dataLe false enc)
    have pp : ps.Perm bs := List.mergeSort_perm bs _
    have hout : out = ps.map fun z => Value.ref z.1 := each_map' o2
    have psm : ∀ z ∈ ps, as[z.2]? = some z.1 := fun z hz => bsm z (pp.mem_iff.mp hz)
    have hperm : (ps.map (·.2)).Perm (List.range ns.length) := by
      have e := pp.map (·.2)
      rw [show bs.map (·.2) = List.range ns.length from by rw [← lak, List.range_eq_range']; exact List.zipIdx_map_snd 0 as] at e
      exact e
    have hlt2 : ∀ z ∈ ps, z.2 < ns.length := fun z hz => by
      have := (List.getElem?_eq_some_iff.mp (psm z hz)).1
      omega
    have hsort : (ps.map fun z => kAt ns z.2).Pairwise (· ≤ ·) := by
      rw [List.pairwise_map]
      have tot : PySem.W.TotalLe (PySem.W.dataLe false enc) := PySem.W.sortLe_total (PyProof.Rows.listOrd PyProof.Rows.itemOrd) false fun b => PySem.W.keyToks (enc b)
      have e := List.pairwise_mergeSort (le := PySem.W.dataLe false enc) tot.trans (fun a b => by rw [Bool.or_eq_true]; exact tot.total a b) bs
      have ndp : (ps.map (·.2)).Nodup := hperm.nodup_iff.mpr List.nodup_range
      have e' : ps.Pairwise fun x y => PySem.W.dataLe false enc x y = true := e
      refine List.Pairwise.imp_of_mem (fun {x y} hx hy h => ?_) e'
      rw [PySem.W.dataLe_eq] at h
      have h' : PySem.W.dataLt (enc y) (enc x) = false := by simpa using h
      by_cases q : kAt ns y.2 = kAt ns x.2
      · omega
      · have : PySem.W.dataLt (enc y) (enc x) = decide (kAt ns y.2 < kAt ns x.2) := by
          show PySem.W.dataLt (.tuple [.int (kAt ns y.2), ds.getD y.2 .none]) (.tuple [.int (kAt ns x.2), ds.getD x.2 .none]) = _
          rw [PySem.W.dataLt_tuple, PySem.W.dataLt_cons rfl, PySem.W.dataLt_int, if_neg]
          show ¬ (kAt ns y.2 == kAt ns x.2) = true
          simpa using q
        rw [this] at h'
        have := of_decide_eq_false h'
        omega
    have kF : ∀ b o, b ≠ h'.objs.size → h2.get? b = some o → (sortedHeap h2 h'.objs.size (as.map Value.ref) (List.toArray out)).get? b = some o := fun b o hb e => (PyProof.Rows.sortedHeap_old hb (Heap.lt_size e)).trans e
    have kS : ∀ b o, s.heap.get? b = some o → (sortedHeap h2 h'.objs.size (as.map Value.ref) (List.toArray out)).get? b = some o := fun b o e => kF b o (ne0 _ _ (hk' b o e)) (kb b o e)
    obtain ⟨eF, heF⟩ := PyProof.Rows.sortedHeap_at (vs := as.map Value.ref) (out := List.toArray out) hob
    have I1 : Inv X pins σ H { s with heap := sortedHeap h2 h'.objs.size (as.map Value.ref) (List.toArray out), toks := tk } := I.kept (t' := tk) kS
    have hn0 : H h'.objs.size = none := I.hok.fresh (Nat.le_of_lt hlt)
    have hlen : (ps.map fun z => V.ref z.1).length ≤ sizeLine := by
      have e := hperm.length_eq
      rw [List.length_map, List.length_range] at e
      rw [List.length_map, sizeLine_eq]
      omega
    have rv : Vals (ps.map fun z => V.ref z.1) (List.toArray out).toList := by
      rw [List.toList_toArray, hout]
      exact vals_maps (fun z : Addr × Nat => V.ref z.1) (fun z => Value.ref z.1) ps fun _ _ => rfl
    have I2 : Inv X pins σ (upd H h'.objs.size (.lst (ps.map fun z => V.ref z.1))) { s with heap := sortedHeap h2 h'.objs.size (as.map Value.ref) (List.toArray out), toks := tk } :=
      I1.take (h' := sortedHeap h2 h'.objs.size (as.map Value.ref) (List.toArray out)) (t' := tk) (fun b ob _ e => e) (I.fpOk (Nat.le_of_lt hlt) hn0) ⟨hlen, (List.toArray out).toList, eF, rv, heF⟩
    have fr : ∀ b ∈ as, H b = none := fun b hb => I.hok.fresh (Nat.le_of_lt (hG.above b hb))
    obtain ⟨H2, I3, g, qt⟩ := DX.takeT (P := fun b vs => ∃ (j : Nat) (e : Key × V), as[j]? = some b ∧ kvs[j]? = some e ∧ vs = [.int (kAt ns j), e.2]) I as _ I2 nd fun b hb => by
      obtain ⟨j, hj⟩ := List.mem_iff_getElem?.mp hb
      obtain ⟨e, t, u, d, q1, q2, q3, q4, q5⟩ := pr j b hj
      have hbl : s.heap.objs.size ≤ b := Nat.le_of_lt (hG.above b hb)
      refine ⟨hbl, ?_, [.int (kAt ns j), e.2], ⟨j, e, hj, q1, rfl⟩, fun H3 => ⟨(by rw [sizeLine_eq]; show 2 ≤ 16777216; omega), [Value.int (kAt ns j) t, u], .cons ⟨t, rfl⟩ (.cons q3 .nil), ⟨_, kF _ _ (ne0 _ _ q2) (ka _ _ q2), rfl, 0, rfl⟩⟩⟩
      rw [upd_ne (ne0 _ _ q2)]
      exact I.hok.fresh hbl
    have gr : ∀ b o, H b = some o → H2 b = some o := fun b o e => g b o (by rw [upd_ne (ne_of_none e hn0)]; exact e)
    refine ⟨.ref h'.objs.size, H2, I3, rfl, q H2 h'.objs.size ps gr hn0 (fun z hz => fr z.1 (List.mem_of_getElem? (psm z hz))) hperm hsort (g _ _ upd_same) fun z hz => ?_⟩
    obtain ⟨vs', ⟨j, e, j1, j2, ev⟩, hH⟩ := qt z.1 (List.mem_of_getElem? (psm z hz))
    have eij : z.2 = j := (List.getElem?_inj (List.getElem?_eq_some_iff.mp (psm z hz)).1 nd).mp ((psm z hz).trans j1.symm)
    subst eij
    rw [ev] at hH
    exact ⟨e, j2, hH⟩
end
end FD

/-! FDk: the same as data. -/
namespace FD
open PySem PySem.Spec PyProof.Rows L2
def encI (es : List (Int × D)) : List (Key × D) := es.map fun e => (Sum.inl e.1, e.2)
def sortE (es : List (Int × D)) : List (Int × D) := es.mergeSort fun a b => decide (a.1 ≤ b.1)
theorem sortE_perm (es : List (Int × D)) : (sortE es).Perm es := List.mergeSort_perm es _
theorem sortE_sorted (es : List (Int × D)) : (sortE es).Pairwise fun a b => a.1 ≤ b.1 := by
  have := List.pairwise_mergeSort (le := fun a b : Int × D => decide (a.1 ≤ b.1)) (fun a b c h1 h2 => by simp at *; omega) (fun a b => by simp; omega) es
  exact this.imp fun h => by simpa using h
theorem keyed_eq : ∀ {xs ys : List (Int × D)}, xs.Perm ys → (xs.map (·.1)).Nodup → (xs.Pairwise fun a b => a.1 ≤ b.1) → (ys.Pairwise fun a b => a.1 ≤ b.1) → xs = ys
  | [], ys, p, _, _, _ => p.nil_eq
  | x :: xs, [], p, _, _, _ => by have := p.length_eq; simp at this
  | x :: xs, y :: ys, p, nd, h1, h2 => by
    have hx : x ∈ y :: ys := p.mem_iff.mp List.mem_cons_self
    have hy : y ∈ x :: xs := p.mem_iff.mpr List.mem_cons_self
    have e : x = y := by
      rcases List.mem_cons.mp hy with h | h
      · exact h.symm
      · have a : x.1 ≤ y.1 := (List.pairwise_cons.mp h1).1 y h
        have b : y.1 ≤ x.1 := by
          rcases List.mem_cons.mp hx with h' | h'
          · rw [h']; exact Int.le_refl _
          · exact (List.pairwise_cons.mp h2).1 x h'
        have e1 : y.1 = x.1 := by omega
        exact absurd (show x.1 ∈ xs.map (·.1) by rw [← e1]; exact List.mem_map_of_mem (f := (·.1)) h) (List.nodup_cons.mp nd).1
    subst e
    rw [keyed_eq (List.Perm.cons_inv p) (List.nodup_cons.mp nd).2 (List.pairwise_cons.mp h1).2 (List.pairwise_cons.mp h2).2]
def eAt (es : List (Int × D)) (j : Nat) : Int × D := (es[j]?).getD (0, .non)
theorem range_eAt (es : List (Int × D)) : (List.range es.length).map (eAt es) = es := by
  apply List.ext_getElem?
  intro i
  rw [List.getElem?_map]
  by_cases h : i < es.length
  · rw [List.getElem?_range h]
    simp [eAt, List.getElem?_eq_getElem h]
  · rw [List.getElem?_eq_none (by simpa using h), List.getElem?_eq_none (by simpa using h)]
    rfl
theorem pyA_map : ∀ (ds : List D), D.pyA ds = ds.map D.py
  | [] => rfl
  | d :: ds => by rw [D.pyA, pyA_map ds]; rfl
theorem pureA_of : ∀ {ds : List D}, (∀ d ∈ ds, d.pure = true) → D.pureA ds = true
  | [], _ => rfl
  | d :: ds, h => by
    rw [D.pureA, h d List.mem_cons_self, pureA_of fun x hx => h x (List.mem_cons_of_mem _ hx)]
    rfl
section
variable {X : Cx}
theorem pg_tupK {K : PySem.W.Frag} {es : List Expr} {k : Nat} {t : TGs} {pos : Pos} (n : Nat) (hc : X.calm = true) (h : PGs X es t) (hK : X.K = K := by rfl)
    (hn : (assignEach es X.env).length = n := by rfl) (hst : (assignEach es X.env).findIdx? (·.1) = none := by rfl) : PG X (.Tuple es k pos) (gTup K n t) := hK ▸ pg_tup hc h hn hst
end
section
variable {K : PySem.W.Frag} {m : Md} {Γ : List Sl} {ta : TE} {v : V} {up : Res → List Sl}
theorem isA_mapped {I : Hp} {α : Type} {f : α → V} {g : α → D} : ∀ {zs : List α}, (∀ z ∈ zs, Is K I (f z) (g z)) → IsA K I (zs.map f) (zs.map g)
  | [], _ => .nil
  | z :: zs, h => .cons (h z List.mem_cons_self) (isA_mapped fun x hx => h x (List.mem_cons_of_mem _ hx))
theorem ev_sortItP {es : List (Int × D)} (hr : RefE K ta Γ v) (hp : Plc K Γ v (Rdic K (encI es)) up) (nd : (es.map (·.1)).Nodup) (hl : es.length < 64) (hpu : ∀ e ∈ es, e.2.pure = true) (hal : ∀ x ∈ es, ∀ y ∈ es, PySem.W.alike x.2.py y.2.py = true) (hd : ∀ x ∈ es, x.2.py.depth ≤ 50) :
    Ev K m (tCB (rSortItK K) (tCons (tBM0 K "dict" rItemsK ta) tNil)) Γ (.lst ((sortE es).map fun e => .tup [.int e.1, e.2])) Γ := fun σ I H L w Q q => hr σ I H L w _ (by
  obtain ⟨L1, p1, _⟩ := hp σ I H L w
  obtain ⟨a, kvs, rfl, rfl, ha, ka⟩ := p1
  have keys : kvs.map (·.1) = (es.map (·.1)).map Sum.inl := by rw [ka.keys, encI, List.map_map, List.map_map]; rfl
  have vals : IsA K I (kvs.map (·.2)) (es.map (·.2)) := by
    have := ka.vals
    rwa [encI, List.map_map] at this
  refine ⟨.inr (.inr (.inl ⟨rfl, .inl ⟨kvs, ha⟩⟩)), a, kvs, rfl, rfl, .inl ha, fun p hp0 => ?_⟩
  have e1 : Ex H (upd H p (DX.itemsO p a)) := Ex.new hp0
  refine ⟨p, a, kvs, es.map (·.1), es.map (·.2.py), rfl, upd_same, .inl (e1 _ _ ha), keys, ?_, nd, by rw [List.length_map]; exact hl, ?_, ?_, fun H' l ps g hl0 hz hperm hsort hlst htup => ?_⟩
  · have := IsA.dp (w.sub.trans e1) (pureA_of fun d hd' => by obtain ⟨e, he, rfl⟩ := List.mem_map.mp hd'; exact hpu e he) vals
    rw [pyA_map, List.map_map] at this
    exact this
  · intro x hx y hy
    obtain ⟨e, he, rfl⟩ := List.mem_map.mp hx
    obtain ⟨e', he', rfl⟩ := List.mem_map.mp hy
    exact hal e he e' he'
  · intro x hx
    obtain ⟨e, he, rfl⟩ := List.mem_map.mp hx
    exact hd e he
  rw [List.length_map] at hperm
  have g0 : Ex H H' := e1.trans g
  have hlH : H l = none := e1.back hl0
  have hzH : ∀ z ∈ ps, H z.1 = none := fun z h => e1.back (hz z h)
  let I' : Hp := fun b => if b = l ∨ b ∈ ps.map (·.1) then H' b else I b
  have new : ∀ b, b = l ∨ b ∈ ps.map (·.1) → H b = none := fun b h => by
    rcases h with rfl | h
    · exact hlH
    · obtain ⟨z, hz', rfl⟩ := List.mem_map.mp h
      exact hzH z hz'
  have ei : Ex I I' := fun b o h => by
    show (if b = l ∨ b ∈ ps.map (·.1) then H' b else I b) = some o
    rw [if_neg]
    · exact h
    · intro k
      have := new b k
      rw [w.sub b o h] at this
      cases this
  have n : New I H I' H' := ⟨ei, g0, fun b o h => by
    by_cases k : b = l ∨ b ∈ ps.map (·.1)
    · exact .inr (new b k)
    · have h' : (if b = l ∨ b ∈ ps.map (·.1) then H' b else I b) = some o := h
      rw [if_neg k] at h'
      exact .inl h'⟩
  have s' : Ex I' H' := fun b o h => by
    have h' : (if b = l ∨ b ∈ ps.map (·.1) then H' b else I b) = some o := h
    by_cases k : b = l ∨ b ∈ ps.map (·.1)
    · rw [if_pos k] at h'; exact h'
    · rw [if_neg k] at h'; exact g0 b o (w.sub b o h')
  have lt : ∀ z ∈ ps, z.2 < es.length := fun z hz' => by
    have := hperm.mem_iff.mp (List.mem_map_of_mem (f := (·.2)) hz')
    simpa using this
  have kA : ∀ z ∈ ps, kAt (es.map (·.1)) z.2 = (eAt es z.2).1 := fun z hz' => by
    have := lt z hz'
    simp [kAt, eAt, List.getElem?_eq_getElem this]
  have eX : (ps.map fun z => eAt es z.2) = sortE es := by
    have pX : (ps.map fun z => eAt es z.2).Perm es := by
      have := hperm.map (eAt es)
      rw [List.map_map, range_eAt] at this
      exact this
    refine keyed_eq (pX.trans (sortE_perm es).symm) ((pX.map (·.1)).nodup_iff.mpr nd) ?_ (sortE_sorted es)
    rw [List.pairwise_map] at hsort ⊢
    exact List.Pairwise.imp_of_mem (fun {x y} hx hy h => by rw [kA x hx, kA y hy] at h; exact h) hsort
  refine q (.ref l) I' H' L (w.new n s') (Guar.new n) ?_
  rw [← eX, List.map_map]
  refine .lst (a := l) (xs := ps.map fun z => V.ref z.1) (sq_of (show (if l = l ∨ l ∈ ps.map (·.1) then H' l else I l) = _ from by rw [if_pos (.inl rfl)]; exact hlst)) (isA_mapped fun z hz' => ?_)
  obtain ⟨e, he, ht⟩ := htup z hz'
  obtain ⟨d, hd1, hd2⟩ := vals.get (i := z.2) (v := e.2) (by rw [List.getElem?_map, he]; rfl)
  have hde : d = (eAt es z.2).2 := by
    have h := lt z hz'
    rw [List.getElem?_map, List.getElem?_eq_getElem h] at hd1
    simp at hd1
    simp [eAt, List.getElem?_eq_getElem h, hd1]
  show Is K I' (.ref z.1) (.tup [.int (eAt es z.2).1, (eAt es z.2).2])
  refine .tup (st_of (show (if z.1 = l ∨ z.1 ∈ ps.map (·.1) then H' z.1 else I z.1) = _ from by rw [if_pos (.inr (List.mem_map_of_mem (f := (·.1)) hz'))]; exact ht)) ?_
  rw [← kA z hz', ← hde]
  exact .cons (.int _) (.cons (hd2.mono n.i) .nil))
end
end FD

/-! FDl: a method that gives a resource; minus. -/
namespace FD
open PySem PySem.Spec PyProof.Rows L2
section
variable {K : PySem.W.Frag} {m : Md} {Γ Γ' : List Sl} {to : TE} {ta : TA} {v : V} {k : Nat} {R Rn : Res} {C : Addr} {mm : Str} {sp : Sp} {E : XK} {ds : List D} {i : Int}
theorem und_neg : UnD K (rU fun i => .int (-i)) (.int i) (.int (-i)) := fun I H v s hv => by
  cases hv
  exact pureR_here s (.int _) fun Q q => ⟨i, rfl, q⟩
theorem er_meth (hk : Γ[k]? = some (.res v R)) (hc : ObjAt K C mm R) (hs : ConR K sp [.res v R] Rn [.res v R]) : EvR K (tMeth C mm sp [] E (tVar k) tNil) Γ Rn Γ := fun σ I H L w Q q => by
  obtain ⟨hσ, L1, w1, s1⟩ := w.takeR hk
  obtain ⟨_, L0, hR, _⟩ := w.stepR hk
  obtain ⟨p, dx, fv, rfl, e1, e2⟩ := hc _ _ _ _ hR
  refine ⟨_, hσ, p, dx, fv, rfl, e1, e2, ?_⟩
  show sp (V.ref p :: ([] ++ [])) H Q E
  refine ConR.frame (pre := [.res (.ref p) R]) (vs := [.ref p]) (σ := σ) hs rfl w1 Q fun x I2 H2 L2 w2 s2 => ?_
  obtain ⟨N1, N2, rfl, wa, fr⟩ := Wd.hold w2
  have wa' : Wd K (.res (.ref p) R :: Γ.set k .em) (some (.ref p) :: σ) I2 H2 N2 := wa
  obtain ⟨L3, w3, s3⟩ := Wd.setR (i := k) wa' (by rw [List.length_set]; exact (List.getElem?_eq_some_iff.mp hk).1)
  rw [List.set_set, set_self hk, set_self hσ] at w3
  obtain ⟨w4, s4⟩ := fr w3 s3
  exact q x I2 H2 _ w4 (s1.trans (s2.trans s4))
end
end FD

namespace K22
open PySem PySem.Spec PyProof.Rows L2 FD
local macro_rules | `(tactic| walk_at "sd") => `(tactic| first | assumption | decide | omega)
local macro_rules | `(tactic| walk_at "od") => `(tactic| first
  | exact opd_add | exact opd_sub | exact opd_gt | exact opd_ge | exact opd_lt | exact opd_le
  | (refine opd_mod ?_; walk_at "sd") | (refine opd_fdiv ⟨?_, ?_⟩ <;> walk_at "sd") | (refine opd_fdiv (FD.lgDiv ⟨?_, ?_⟩) <;> omega) | (refine opd_mul (FD.lgMul ⟨?_, ?_⟩ ⟨?_, ?_⟩) <;> omega) | (refine opd_mul ?_; walk_at "sd") | (refine opd_pow ⟨?_, ?_, ?_⟩ <;> first | decide | omega)
  | (apply opd_ixL; exact rfl) | (apply opd_ixT; exact rfl)
  | exact opd_isN | exact opd_notN | exact opd_isBl | exact opd_isnotBl
  | (apply opd_addL; walk_at "sd") | (apply opd_addStr; walk_at "sd")
  | (apply opd_eqD <;> (first | rfl | assumption)) | (apply opd_neD <;> (first | rfl | assumption)))
local macro_rules | `(tactic| walk_at "con") => `(tactic| fail)
local macro_rules | `(tactic| walk_at "ev") => `(tactic| first
  | exact ev_int | exact ev_str | exact ev_bl | exact ev_non | exact ev_var rfl | exact ev_raw
  | (apply ev_ixR; (focus (exact rfl)); (focus (walk_at "ev")); (focus (exact rfl)); (focus (exact rfl)))
  | (apply ev_op; (focus (walk_at "ev")); (focus (walk_at "ev")); (focus (walk_at "od")))
  | (apply ev_cb; (focus (walk_at "ea")); (focus (walk_at "cd")))
  | (apply ev_tup; (focus (walk_at "ea")); (focus (exact Nat.le_of_lt (L2.small1000 (Nat.le_of_ble_eq_true rfl)))))
  | (apply ev_lst; (focus (walk_at "ea")); (focus (exact Nat.le_of_lt (L2.small1000 (Nat.le_of_ble_eq_true rfl)))))
  | (apply ev_call1 (m := .e); (focus (walk_at "ea")); (focus (exact rfl)); (focus (exact rfl)); (focus (walk_at "con")))
  | (apply ev_call0; (focus (walk_at "ea")); (focus (walk_at "con")))
  | (apply ev_sl; (focus (walk_at "ev")); (focus (walk_at "eo")); (focus (walk_at "eo")); (focus (exact sld_list))))
local macro_rules | `(tactic| walk_at "eo") => `(tactic| first | exact eo_none | (apply eo_some; walk_at "ev"))
local macro_rules | `(tactic| walk_at "ea") => `(tactic| first
  | exact ea_nil
  | (apply ea_cons; (focus (walk_at "ev")); (focus (walk_at "ea"))))
local macro_rules | `(tactic| walk_at "cd") => `(tactic| first | exact cd_int | exact cd_abs | exact cd_lenList | exact cd_lenTup | exact cd_max2 | exact cd_min2)
local macro_rules | `(tactic| walk_at "et") => `(tactic| first
  | (apply evt_test; walk_at "ev") | (apply evt_B; walk_at "ev") | (apply evt_not; walk_at "et"))
local macro_rules | `(tactic| walk_at "st") => `(tactic| first
  | (apply run_asg (m := .e); walk_at "ev")
  | (apply run_setI (m := .e) (n := 0); (focus (walk_at "ev")); (focus (intro v1 e1; cases e1; exact rfl)); (focus (exact rfl)); (focus (exact ev_int)); (focus (exact rfl)))
  | (apply run_setI (m := .e) (n := 1); (focus (walk_at "ev")); (focus (intro v1 e1; cases e1; exact rfl)); (focus (exact rfl)); (focus (exact ev_int)); (focus (exact rfl))))
local macro_rules | `(tactic| walk_at "ret") => `(tactic| first
  | (apply run_ret (m := .e); walk_at "ev"))
local macro_rules | `(tactic| walk_at "po") => `(tactic| first | exact .nil | (apply PoK.dat; walk_at "po") | (apply PoK.res; walk_at "po"))
local macro_rules | `(tactic| walk_at "rg") => `(tactic| first
  | (apply rg_name; exact rfl)
  | (apply rg_tup; (focus (walk_at "rgs")); (focus (exact rfl))))
local macro_rules | `(tactic| walk_at "rgs") => `(tactic| first
  | exact rg_nil
  | (apply rg_cons; (focus (walk_at "rg")); (focus (walk_at "rgs"))))
local macro_rules | `(tactic| walk_at "wk") => `(tactic| first | exact Wk.nil | (apply Wk.keep; walk_at "wk") | (apply Wk.drop; walk_at "wk"))
local macro_rules | `(tactic| walk_at "stx") => `(tactic| (apply Run.is; (focus (walk_at "st")); (focus (exact rfl))))
local macro_rules | `(tactic| walk_at "evx") => `(tactic| (apply Ev.eq; (focus (walk_at "ev")); (focus (exact rfl)); (focus (exact rfl))))
local macro_rules | `(tactic| walk_at "etx") => `(tactic| (apply EvT.eq; (focus (walk_at "et")); (focus (exact rfl)); (focus (exact rfl))))

def topS (i : Nat) : Stmt := PySem.Challenge.pw_filedalike_k22_whole_last_words.main.body.getD i (.Pass ⟨0, 0, 0, 0⟩)
abbrev s_law_take : Stmt := topS 5
theorem sc_law_take : FnScope ["_law_bag_here", "_law_many", "_law_digit"] ["_law_bag_here", "_law_many"] (defScope s_law_take) := ⟨rfl, rfl, rfl, by decide +kernel, rfl, by decide +kernel, by decide +kernel⟩
/-! the bag -/
abbrev Bg := Int × Int
def rB (K : PySem.W.Frag) (s : Bg) : Res := Rlst K [.int s.1, .int s.2]
def okB (s : Bg) : Prop := 0 ≤ s.1 ∧ 0 ≤ s.2 ∧ s.2 < 2147483587
def tkS (s : Bg) (n : Int) : Bg := if 0 < s.1 then (s.1 / n, s.2) else (s.1, (s.2 * 39373 + 7121) % 2147483587)
def tk (s : Bg) (n : Int) : Int := if 0 < s.1 then s.1 % n else (((s.2 * 39373 + 7121) % 2147483587) / 23 * 30269) % 2147483549 / 61 % n
theorem okS {s : Bg} {n : Int} (h : okB s) (hn : 0 < n) : okB (tkS s n) := by
  obtain ⟨h1, h2, h3⟩ := h
  unfold tkS
  split
  · exact ⟨Int.ediv_nonneg h1 (by omega), h2, h3⟩
  · exact ⟨h1, by show 0 ≤ (s.2 * 39373 + 7121) % 2147483587; omega, by show (s.2 * 39373 + 7121) % 2147483587 < 2147483587; omega⟩
theorem tk_lt {s : Bg} {n : Int} (h : okB s) (hn : 0 < n) : 0 ≤ tk s n ∧ tk s n < n := by
  unfold tk
  split
  · exact ⟨Int.emod_nonneg _ (by omega), Int.emod_lt_of_pos _ hn⟩
  · exact ⟨Int.emod_nonneg _ (by omega), Int.emod_lt_of_pos _ hn⟩
def C_take (K : PySem.W.Frag) : Pr → Prop := fun c => ∃ v s n, okB s ∧ 0 < n ∧ n.natAbs.log2 < 9000 ∧ c = .d [.res v (rB K s), .dat (.int n)] (.int (tk s n)) [.res v (rB K (tkS s n)), .dat (.int n)]
section
variable {P : Program} {w : PySem.World} {K : PySem.W.Frag} {mg : Str → Option Value} {base : Heap}
theorem ok_take {f : Addr} {fd : FuncData} (F : Fun K "_law_take" "_law_take" s_law_take f fd) (m_int : mg "int" = none) : FnOk P w K mg base CX0 1 f fd ["_law_bag_here", "_law_many"] (spC K (C_take K)) := by
  refine okC F sc_law_take (fun c h => by obtain ⟨v, s, n, _, _, _, rfl⟩ := h; rfl) fun cdv A outer s H vs Q E hr => ⟨_, ((pss_cons (ps_if (pt_cmpR op_gtA (pe_ix ix_seq (pv 0) pe_int (fun _ _ => rfl)) pe_int (nomark _))
      (pss_cons (ps_set (i := 2) sc_law_take.nd rfl (.inl rfl) (pe_op op_mod (pe_callTy call_int1 rfl m_int (by decide +kernel) (pa_cons (pe_ix ix_seq (pv 0) pe_int (fun _ _ => rfl)) pa_nil)) (pv 1)))
      (pss_cons (ps_asg (pe_op op_fdivW (pe_ix ix_seq (pv 0) pe_int (fun _ _ => rfl)) (pv 1)) (pg_sub (pv 0) pe_int set_list))
      (pss_one (ps_ret (pv 2)))))
      pss_nil)
      (pss_cons (ps_asg (pe_op op_mod (pe_callTy call_int1 rfl m_int (by decide +kernel) (pa_cons (pe_op op_addA (pe_op op_mulW (pe_ix ix_seq (pv 0) pe_int (fun _ _ => rfl)) pe_int) pe_int) pa_nil)) pe_int) (pg_sub (pv 0) pe_int set_list))
      (pss_one (ps_ret (pe_op op_mod (pe_op op_fdivW (pe_op op_mod (pe_callTy call_int1 rfl m_int (by decide +kernel) (pa_cons (pe_op op_mulW (pe_op op_fdivW (pe_ix ix_seq (pv 0) pe_int (fun _ _ => rfl)) pe_int) pe_int) pa_nil)) pe_int) pe_int) (pv 1))))))), ?_⟩
  rintro c ⟨v, s, n, hs, hn, hl, rfl⟩
  obtain ⟨h1, h2, h3⟩ := id hs
  by_cases h0 : 0 < s.1
  · exact body_d (run_ifSeq (m := .e) (b := decide (0 < s.1)) (by walk_at "et")
      (fun hb => run_end (run_seq (by walk_at "st") (run_seq (by walk_at "st") (by walk_at "ret"))) rfl)
      (fun hb => absurd h0 (of_decide_eq_false hb))) rfl (by rw [show tkS s n = (s.1 / n, s.2) from if_pos h0]; walk_at "po") (by simp [tk, h0])
  · exact body_d (run_ifSeq (m := .e) (b := decide (0 < s.1)) (by walk_at "et") (fun hb => absurd (of_decide_eq_true hb) h0)
      (fun hb => run_nextSeq (run_seq (by walk_at "st") (by walk_at "ret")))) rfl (by rw [show tkS s n = (s.1, (s.2 * 39373 + 7121) % 2147483587) from if_neg h0]; walk_at "po") (by simp [tk, h0])
end


def stpM (m : Int) (p : Int × Nat) : Int := (m * 48611 + p.1 % 2147483543 + 271 * (p.2 : Int) + 29) % 2147483563
def mixM (ns : List Int) (at_ : Int) : Int := (ns.take 63).zipIdx.foldl stpM (7919 * at_ + 1301)
def numM (ns : List Int) (j : Nat) : Int := ns.getD j 0
def iabs (i : Int) : Int := if i < 0 then -i else i
def bagOf (ns : List Int) (j : Nat) : Bg := (if decide (10 ^ 18 ≤ iabs (numM ns j)) then iabs (numM ns j) else 0, mixM ns j)
theorem stpM_lt (m : Int) (p : Int × Nat) : 0 ≤ stpM m p ∧ stpM m p < 2147483563 := by unfold stpM; omega
theorem foldM_ok : ∀ (ps : List (Int × Nat)) (m : Int), 0 ≤ m ∧ m < 2147483563 → 0 ≤ ps.foldl stpM m ∧ ps.foldl stpM m < 2147483563
  | [], m, h => h
  | p :: ps, m, h => foldM_ok ps _ (stpM_lt m p)
theorem ok_bagOf (ns : List Int) (j : Nat) (hj : j ≤ 10) : okB (bagOf ns j) := by
  have := foldM_ok (ns.take 63).zipIdx (7919 * (j : Int) + 1301) (by omega)
  have e : mixM ns j = (ns.take 63).zipIdx.foldl stpM (7919 * (j : Int) + 1301) := rfl
  refine ⟨?_, by show 0 ≤ mixM ns j; omega, by show mixM ns j < _; omega⟩
  show 0 ≤ (if decide (10 ^ 18 ≤ iabs (numM ns j)) then iabs (numM ns j) else 0)
  have : 0 ≤ iabs (numM ns j) := by unfold iabs; split <;> omega
  split
  · exact this
  · exact Int.le_refl 0
abbrev s_law_bag : Stmt := topS 4
theorem sc_law_bag : FnScope ["_law_script", "_law_at", "_law_number", "_law_mixed", "_law_spot", "_law_each"] ["_law_script", "_law_at"] (defScope s_law_bag) := ⟨rfl, rfl, rfl, by decide +kernel, rfl, by decide +kernel, by decide +kernel⟩
def intL (ns : List Int) : D := .lst (ns.map .int)
def C_bag (K : PySem.W.Frag) : Pr → Prop := fun c => ∃ ns j, j ≤ 10 ∧ c = .r [.dat (intL ns), .dat (.int (j : Nat))] (rB K (bagOf ns j)) [.dat (intL ns), .dat (.int (j : Nat))]
section
variable {P : Program} {w : PySem.World} {K : PySem.W.Frag} {mg : Str → Option Value} {base : Heap}
theorem ok_bag {f : Addr} {fd : FuncData} (F : Fun K "_law_bag" "_law_bag" s_law_bag f fd) (m_int : mg "int" = none) (m_len : mg "len" = none) (m_abs : mg "abs" = none) (m_enumerate : mg "enumerate" = none) : FnOk P w K mg base CX0 1 f fd ["_law_script", "_law_at"] (spC K (C_bag K)) := by
  refine okC F sc_law_bag (fun c h => by obtain ⟨ns, j, _, rfl⟩ := h; rfl) fun cdv A outer s H vs Q E hr => ⟨_, ((pss_cons (ps_set (i := 2) sc_law_bag.nd rfl (.inl rfl) (pe_ifExp (pt_cmpR op_ltA (pv 1) (pe_callB call_lenA rfl m_len (by decide +kernel) (pa_cons (pv 0) pa_nil)) (nomark _)) (pe_ix ix_seq (pv 0) (pv 1) (fun _ _ => rfl)) pe_int))
      (pss_cons (ps_set (i := 3) sc_law_bag.nd rfl (.inl rfl) (pe_op op_addA (pe_op op_mulW pe_int (pv 1)) pe_int))
      (pss_cons (ps_for PassesOwn.never rfl (pi_enum rfl m_enumerate (pa_cons (pe_slice sl_any (pv 0) po_none (po_some pe_int)) pa_nil)) (pg_tup rfl (pgs_cons (pg_name (i := 4) sc_law_bag.nd rfl (.inl rfl)) (pgs_cons (pg_name (i := 5) sc_law_bag.nd rfl (.inl rfl)) pgs_nil)))
      (pss_one (ps_set (i := 3) sc_law_bag.nd rfl (.inl rfl) (pe_op op_mod (pe_callTy call_int1 rfl m_int (by decide +kernel) (pa_cons (pe_op op_addA (pe_op op_addA (pe_op op_addA (pe_op op_mulW (pv 3) pe_int) (pe_op op_mod (pe_callTy call_int1 rfl m_int (by decide +kernel) (pa_cons (pv 5) pa_nil)) pe_int)) (pe_op op_mulW pe_int (pv 4))) pe_int) pa_nil)) pe_int))))
      (pss_one (ps_ret (pe_lst (pa_cons (pe_ifExp (pt_cmpR op_geA (pe_callB call_abs rfl m_abs (by decide +kernel) (pa_cons (pv 2) pa_nil)) (pe_op op_pow pe_int pe_int) (nomark _)) (pe_callB call_abs rfl m_abs (by decide +kernel) (pa_cons (pv 2) pa_nil)) pe_int) (pa_cons (pv 3) pa_nil))))))))), ?_⟩
  rintro c ⟨ns, j, hj, rfl⟩
  refine body_r (Γ0 := [.dat (intL ns), .dat (.int (j : Nat)), .em, .em, .em, .em]) (Γ := [.dat (intL ns), .dat (.int (j : Nat)), .dat (.int (numM ns j)), .dat (.int (mixM ns j)), .em, .em]) (R := rB K (bagOf ns j)) ?_ rfl ?_
  · refine run_seq (Γ1 := [.dat (intL ns), .dat (.int (j : Nat)), .dat (.int (numM ns j)), .em, .em, .em]) ?_ ?_
    · refine run_asg (m := .e) (d := .int (numM ns j)) (Γ1 := [.dat (intL ns), .dat (.int (j : Nat)), .em, .em, .em, .em]) (ev_if (b := decide (((j : Nat) : Int) < ((ns.map D.int).length : Nat))) (Γ1 := [.dat (intL ns), .dat (.int (j : Nat)), .em, .em, .em, .em]) (by unfold intL; walk_at "et") (fun hb => ?_) (fun hb => ?_))
      · have hj : j < ns.length := by simpa using hb
        refine ev_op (ev_var rfl) (ev_var rfl) (opd_ixL (atI_nat' ?_))
        rw [List.getElem?_map, List.getElem?_eq_getElem hj]
        simp [numM, List.getElem?_eq_getElem hj]
      · have hj : ns.length ≤ j := by simpa using hb
        rw [show numM ns j = 0 by simp [numM, List.getElem?_eq_none hj]]
        exact ev_int
    refine run_seq (Γ1 := [.dat (intL ns), .dat (.int (j : Nat)), .dat (.int (numM ns j)), .dat (.int (7919 * (j : Int) + 1301)), .em, .em]) (by walk_at "stx") ?_
    refine run_seq (Γ1 := [.dat (intL ns), .dat (.int (j : Nat)), .dat (.int (numM ns j)), .dat (.int (mixM ns j)), .em, .em]) ?_ ?_
    · refine run_forFold (m := .e) (xs := (ns.take 63).zipIdx) (enc := fun p => .tup [.int (p.2 : Nat), .int p.1]) (fun m => [.dat (intL ns), .dat (.int (j : Nat)), .dat (.int (numM ns j)), .dat (.int m), .em, .em]) stpM (fun m => 0 ≤ m ∧ m < 2147483563) (7919 * (j : Int) + 1301) ?_ rfl (by omega) (fun m p _ _ => stpM_lt m p) (fun m p hm hp => ?_)
      · have h := it_enum (K := K) (m := .e) (Γ := [.dat (intL ns), .dat (.int (j : Nat)), .dat (.int (numM ns j)), .dat (.int (7919 * (j : Int) + 1301)), .em, .em]) (ta := tCons (tSl (rSlAny K) (tVar 0) tNoPart (tPart (tC (.int 63)))) tNil) (ds := (ns.take 63).map .int) (ea_cons (ev_sl (ev_var rfl) eo_none (eo_some ev_int) (by
          have q := sld_list (K := K) (ds := ns.map .int) (lo := none) (hi := some ((63 : Nat) : Int))
          rw [cutD_to, ← List.map_take] at q
          exact q)) ea_nil)
        rw [enumD_map] at h
        exact h
      · have hi : p.2 < 63 := by
          have := List.mem_zipIdx' hp
          have h1 := this.1
          rw [List.length_take] at h1
          omega
        refine turn_g (Γ1 := [.dat (intL ns), .dat (.int (j : Nat)), .dat (.int (numM ns j)), .dat (.int m), .dat (.int (p.2 : Nat)), .dat (.int p.1)]) (by walk_at "rg") (Run.lp (Run.nxWeak (Γ1 := [.dat (intL ns), .dat (.int (j : Nat)), .dat (.int (numM ns j)), .dat (.int (stpM m p)), .dat (.int (p.2 : Nat)), .dat (.int p.1)]) (by walk_at "stx") ?_))
        walk_at "wk"
    · refine run_retR (R := Rlst K [.int (bagOf ns j).1, .int (bagOf ns j).2]) ?_
      apply er_lst (m := .e)
      · apply ea_cons
        · refine ev_if (m := .e) (b := decide (10 ^ 18 ≤ iabs (numM ns j))) (Γ2 := [.dat (intL ns), .dat (.int (j : Nat)), .dat (.int (numM ns j)), .dat (.int (mixM ns j)), .em, .em]) (Γ1 := [.dat (intL ns), .dat (.int (j : Nat)), .dat (.int (numM ns j)), .dat (.int (mixM ns j)), .em, .em]) ?_ (fun hb => ?_) (fun hb => ?_)
          · walk_at "etx"
          · rw [show (bagOf ns j).1 = iabs (numM ns j) from if_pos hb]; walk_at "evx"
          · rw [show (bagOf ns j).1 = 0 from if_neg (by rw [hb]; exact Bool.false_ne_true)]; walk_at "evx"
        · walk_at "ea"
      · exact Nat.le_of_lt (L2.small1000 (Nat.le_of_ble_eq_true rfl))
  · walk_at "po"
end


theorem lgLen {n : Nat} (h : n ≤ 1000) : ((n : Nat) : Int).natAbs.log2 < 9000 := by
  have := FD.lg1 (x := (n : Int)) (by omega)
  omega
section
variable {K : PySem.W.Frag} {v : V} {s : Bg} {n : Int} {ds : List D}
theorem con_take (h : okB s) (hn : 0 < n) (hl : n.natAbs.log2 < 9000) : Con K (spC K (C_take K)) [.res v (rB K s), .dat (.int n)] (.int (tk s n)) [.res v (rB K (tkS s n)), .dat (.int n)] := con_of ⟨v, s, n, h, hn, hl, rfl⟩
def ofD (s : Bg) (ds : List D) : D := (ds[(tk s (ds.length : Nat)).toNat]?).getD .non
def C_of (K : PySem.W.Frag) : Pr → Prop := fun c => ∃ v s ds, okB s ∧ 0 < ds.length ∧ ds.length ≤ 1000 ∧ c = .d [.res v (rB K s), .dat (.lst ds)] (ofD s ds) [.res v (rB K (tkS s (ds.length : Nat))), .dat (.lst ds)]
theorem con_of' (h : okB s) (hn : 0 < ds.length) (hl : ds.length ≤ 1000) : Con K (spC K (C_of K)) [.res v (rB K s), .dat (.lst ds)] (ofD s ds) [.res v (rB K (tkS s (ds.length : Nat))), .dat (.lst ds)] := con_of ⟨v, s, ds, h, hn, hl, rfl⟩
theorem tk_nat (h : okB s) (hn : 0 < n) : ∃ k : Nat, tk s n = k ∧ (k : Int) < n := by
  obtain ⟨h1, h2⟩ := tk_lt h hn
  exact ⟨(tk s n).toNat, by omega, by omega⟩
end

local macro_rules | `(tactic| walk_at "ok") => `(tactic| first | assumption | (apply okS; (focus (walk_at "ok")); (focus (walk_at "sd"))))
local macro_rules | `(tactic| walk_at "lg") => `(tactic| first | assumption | decide | (apply lgLen; omega) | (apply FD.lgLe; omega))
local macro_rules | `(tactic| walk_at "con") => `(tactic| first
  | (apply con_take; (focus (walk_at "ok")); (focus (walk_at "sd")); (focus (walk_at "lg"))))

abbrev s_law_of : Stmt := topS 6
abbrev s_law_more : Stmt := topS 9
abbrev s_law_bool : Stmt := topS 11
theorem sc_law_of : FnScope ["_law_bag_here", "_law_some_here"] ["_law_bag_here", "_law_some_here"] (defScope s_law_of) := ⟨rfl, rfl, rfl, by decide +kernel, rfl, by decide +kernel, by decide +kernel⟩
theorem sc_law_more : FnScope ["_law_one", "_law_two"] ["_law_one", "_law_two"] (defScope s_law_more) := ⟨rfl, rfl, rfl, by decide +kernel, rfl, by decide +kernel, by decide +kernel⟩
theorem sc_law_bool : FnScope ["_law_told", "_law_due"] ["_law_told", "_law_due"] (defScope s_law_bool) := ⟨rfl, rfl, rfl, by decide +kernel, rfl, by decide +kernel, by decide +kernel⟩
section
variable {P : Program} {w : PySem.World} {K : PySem.W.Frag} {mg : Str → Option Value} {base : Heap} {f_law_take : Addr} {fd_law_take : FuncData}
theorem ok_of {f : Addr} {fd : FuncData} (F : Fun K "_law_of" "_law_of" s_law_of f fd) (G_law_take : FnOk P w K mg base CX0 1 f_law_take fd_law_take ["_law_bag_here", "_law_many"] (spC K (C_take K))) (g_law_take : mg "_law_take" = some (.ref f_law_take)) (k_law_take : PySem.W.keepIn K (.ref f_law_take) = true) (b_law_take : Binds K fd_law_take ["_law_bag_here", "_law_many"] [])
    (m_len : mg "len" = none) : FnOk P w K mg base CX0 2 f fd ["_law_bag_here", "_law_some_here"] (spC K (C_of K)) := by
  refine okC F sc_law_of (fun c h => by obtain ⟨v, s, ds, _, _, _, rfl⟩ := h; rfl) fun cdv A outer s H vs Q E hr => ⟨_, ((pss_one (ps_ret (pe_ix ix_seq (pv 1) (pe_call G_law_take (hr.mono (by decide)) rfl g_law_take k_law_take b_law_take .nil pass0 (pa_cons (pv 0) (pa_cons (pe_callB call_lenA rfl m_len (by decide +kernel) (pa_cons (pv 1) pa_nil)) pa_nil))) (fun _ _ => rfl))))), ?_⟩
  rintro c ⟨v, s, ds, hs, h0, hl, rfl⟩
  have h0' : 0 < ((ds.length : Nat) : Int) := by omega
  obtain ⟨k, hk, hk2⟩ := tk_nat (n := (ds.length : Nat)) hs h0'
  have hk3 : k < ds.length := by omega
  refine body_d (Γ0 := [.res v (rB K s), .dat (.lst ds)]) (Γ := [.res v (rB K (tkS s (ds.length : Nat))), .dat (.lst ds)]) (z' := ofD s ds) ?_ rfl (by walk_at "po") rfl
  refine run_ret (m := .e) (ev_op (Γ1 := [.res v (rB K s), .dat (.lst ds)]) (x := .lst ds) (y := .int (tk s (ds.length : Nat))) (ev_var rfl) (by walk_at "evx") ?_)
  refine opd_ixL ?_
  rw [hk]
  refine atI_nat' ?_
  unfold ofD
  rw [hk, Int.toNat_natCast, List.getElem?_eq_getElem hk3]
  rfl
end
/-! ### words -/
abbrev Wo := Int × Str × Bool
def wD (a : Wo) : D := .tup [.int a.1, .str a.2.1, .bl a.2.2]
def slt (x y : Str) : Bool := decide (x.cps.toList < y.cps.toList)
/-- a > b -/
def wmore (a b : Wo) : Bool := if a.1 = b.1 then (if a.2.1 = b.2.1 then a.2.2 && !b.2.2 else slt b.2.1 a.2.1) else decide (b.1 < a.1)
def wOk (a : Wo) : Prop := PyData.strOk a.2.1 = true
def C_more (K : PySem.W.Frag) : Pr → Prop := fun c => ∃ a b, wOk a ∧ wOk b ∧ c = .d [.dat (wD a), .dat (wD b)] (.bl (wmore a b)) [.dat (wD a), .dat (wD b)]
theorem con_more {K : PySem.W.Frag} {a b : Wo} (h : wOk a) (h' : wOk b) : Con K (spC K (C_more K)) [.dat (wD a), .dat (wD b)] (.bl (wmore a b)) [.dat (wD a), .dat (wD b)] := con_of ⟨a, b, h, h', rfl⟩
theorem str_shaped {x : Str} (h : PyData.strOk x = true) : (D.str x).shaped = true := by
  show (true && (PyData.strOk x && decide (0 ≤ 64))) = true
  rw [h]
  rfl
theorem eqv_int (i j : Int) : D.eqv (.int i) (.int j) = decide (i = j) := by
  show PyData.eqv (.int i) (.int j) = _
  simp [PyData.eqv, Bool.beq_eq_decide_eq]
theorem eqv_str (i j : Str) : D.eqv (.str i) (.str j) = decide (i = j) := by
  show PyData.eqv (.str i) (.str j) = _
  simp [PyData.eqv, Bool.beq_eq_decide_eq]
theorem eqv_bl (i j : Bool) : D.eqv (.bl i) (.bl j) = decide (i = j) := by
  show PyData.eqv (.bool i) (.bool j) = _
  simp [PyData.eqv, Bool.beq_eq_decide_eq]
section
variable {P : Program} {w : PySem.World} {K : PySem.W.Frag} {mg : Str → Option Value} {base : Heap}
theorem opd_gtStr {K : PySem.W.Frag} {x y : Str} : OpD K rGtA (.str x) (.str y) (.bl (slt y x)) := fun I H v w s hv hw Q q => by
  cases hv; cases hw
  exact .inr ⟨x, y, rfl, rfl, q _ I H (New.refl I H) s (.bl _)⟩
theorem ok_more {f : Addr} {fd : FuncData} (F : Fun K "_law_more" "_law_more" s_law_more f fd) : FnOk P w K mg base CX0 1 f fd ["_law_one", "_law_two"] (spC K (C_more K)) := by
  refine okC F sc_law_more (fun c h => by obtain ⟨a, b, _, _, rfl⟩ := h; rfl) fun cdv A outer s H vs Q E hr => ⟨_, ((pss_cons (ps_if (pt_cmpR (op_neD (hu64 hr)) (pe_ix ix_seq (pv 0) pe_int (fun _ _ => rfl)) (pe_ix ix_seq (pv 1) pe_int (fun _ _ => rfl)) (nomark _))
      (pss_one (ps_ret (pe_cmpR op_gtA (pe_ix ix_seq (pv 0) pe_int (fun _ _ => rfl)) (pe_ix ix_seq (pv 1) pe_int (fun _ _ => rfl)) (nomark _))))
      pss_nil)
      (pss_cons (ps_if (pt_cmpR (op_neD (hu64 hr)) (pe_ix ix_seq (pv 0) pe_int (fun _ _ => rfl)) (pe_ix ix_seq (pv 1) pe_int (fun _ _ => rfl)) (nomark _))
      (pss_one (ps_ret (pe_cmpR op_gtA (pe_ix ix_seq (pv 0) pe_int (fun _ _ => rfl)) (pe_ix ix_seq (pv 1) pe_int (fun _ _ => rfl)) (nomark _))))
      pss_nil)
      (pss_one (ps_ret (pe_and (pe_ix ix_seq (pv 0) pe_int (fun _ _ => rfl)) (pe_one (pe_not (pe_ix ix_seq (pv 1) pe_int (fun _ _ => rfl)))))))))), ?_⟩
  rintro c ⟨a, b, ha, hb0, rfl⟩
  refine body_d (Γ0 := [.dat (wD a), .dat (wD b)]) (Γ := [.dat (wD a), .dat (wD b)]) (z' := .bl (wmore a b)) ?_ rfl (by walk_at "po") rfl
  refine run_ifSeq (m := .e) (b := !D.eqv (.int a.1) (.int b.1)) (Γ1 := [.dat (wD a), .dat (wD b)]) ?_ (fun hb => ?_) (fun hb => run_nextSeq ?_)
  · apply evt_test
    apply ev_op
    · walk_at "ev"
    · walk_at "ev"
    · exact opd_neD rfl rfl
  · have hne : ¬ a.1 = b.1 := by rw [eqv_int] at hb; simpa using hb
    refine run_end ?_ rfl
    refine run_ret (m := .e) (Ev.is (d := .bl (decide (b.1 < a.1))) (by walk_at "ev") ?_)
    simp [wmore, hne]
  · have he : a.1 = b.1 := by rw [eqv_int] at hb; simpa using hb
    refine run_ifSeq (m := .e) (b := !D.eqv (.str a.2.1) (.str b.2.1)) (Γ1 := [.dat (wD a), .dat (wD b)]) ?_ (fun hb => ?_) (fun hb => run_nextSeq ?_)
    · apply evt_test
      apply ev_op
      · walk_at "ev"
      · walk_at "ev"
      · exact opd_neD (str_shaped ha) (str_shaped hb0)
    · have hne : ¬ a.2.1 = b.2.1 := by rw [eqv_str] at hb; simpa using hb
      refine run_end ?_ rfl
      refine run_ret (m := .e) (Ev.is (d := .bl (slt b.2.1 a.2.1)) ?_ ?_)
      · apply ev_op
        · walk_at "ev"
        · walk_at "ev"
        · exact opd_gtStr
      · simp [wmore, he, hne]
    · have he2 : a.2.1 = b.2.1 := by rw [eqv_str] at hb; simpa using hb
      refine run_ret (m := .e) (Ev.is (d := .bl (a.2.2 && !b.2.2)) ?_ ?_)
      · refine ev_andV (Γ1 := [.dat (wD a), .dat (wD b)]) (by walk_at "ev") (fun _ => ?_) (fun _ => rfl)
        apply ev_notV
        walk_at "ev"
      · simp [wmore, he, he2]
def C_bool (K : PySem.W.Frag) : Pr → Prop := fun c => ∃ a b, c = .d [.dat (.bl a), .dat (.bl b)] (.bl (decide (a = b))) [.dat (.bl a), .dat (.bl b)]
theorem con_bool {K : PySem.W.Frag} {a b : Bool} : Con K (spC K (C_bool K)) [.dat (.bl a), .dat (.bl b)] (.bl (decide (a = b))) [.dat (.bl a), .dat (.bl b)] := con_of ⟨a, b, rfl⟩
theorem ok_bool {f : Addr} {fd : FuncData} (F : Fun K "_law_bool" "_law_bool" s_law_bool f fd) (m_isinstance : mg "isinstance" = none) (m_bool : mg "bool" = none) : FnOk P w K mg base CX0 1 f fd ["_law_told", "_law_due"] (spC K (C_bool K)) := by
  refine okC F sc_law_bool (fun c h => by obtain ⟨a, b, rfl⟩ := h; rfl) fun cdv A outer s H vs Q E hr => ⟨_, ((pss_one (ps_ret (pe_and (pe_callB call_isi rfl m_isinstance (by decide +kernel) (pa_cons (pv 0) (pa_cons (pe_bltn (v := .ty "bool") rfl m_bool (by decide +kernel) rfl) pa_nil))) (pe_one (pe_cmpR (op_eqD (hu64 hr)) (pv 0) (pv 1) (nomark _))))))), ?_⟩
  rintro c ⟨a, b, rfl⟩
  refine body_d (Γ0 := [.dat (.bl a), .dat (.bl b)]) (Γ := [.dat (.bl a), .dat (.bl b)]) (z' := .bl (true && D.eqv (.bl a) (.bl b))) ?_ rfl (by walk_at "po") (by rw [eqv_bl]; simp)
  refine run_ret (m := .e) (ev_andV (Γ1 := [.dat (.bl a), .dat (.bl b)]) ?_ (fun _ => ?_) (fun _ => rfl))
  · apply ev_cb
    · walk_at "ea"
    · exact cd_isi rfl (show kitB "bool" "bool" = some true by decide +kernel)
  · apply ev_op
    · walk_at "ev"
    · walk_at "ev"
    · exact opd_eqD rfl rfl
end


/-! ### a row turned about -/
structure TuS where
  s : Bg
  l : List D
  f : List D
def turnN (t : TuS) : TuS := ⟨tkS t.s (t.l.length : Nat), t.l.eraseIdx (tk t.s (t.l.length : Nat)).toNat, t.f ++ [(t.l[(tk t.s (t.l.length : Nat)).toNat]?).getD .non]⟩
def turnI (s : Bg) (l : List D) : Nat → TuS
  | 0 => ⟨s, l, []⟩
  | i + 1 => turnN (turnI s l i)
theorem perm_erase {α : Type} : ∀ {l : List α} {k : Nat} {x : α}, l[k]? = some x → (x :: l.eraseIdx k).Perm l
  | [], _, _, h => by simp at h
  | a :: l, 0, x, h => by simp at h; subst h; exact List.Perm.refl _
  | a :: l, k + 1, x, h => by
    rw [List.eraseIdx_cons_succ]
    exact (List.Perm.swap a x _).trans (List.Perm.cons a (perm_erase (by simpa using h)))
theorem turnI_ok {s : Bg} {l : List D} (hs : okB s) : ∀ i, i ≤ l.length → okB (turnI s l i).s ∧ (turnI s l i).l.length = l.length - i ∧ (turnI s l i).f.length = i ∧ ((turnI s l i).f ++ (turnI s l i).l).Perm l
  | 0, _ => ⟨hs, rfl, rfl, List.Perm.refl _⟩
  | i + 1, h => by
    obtain ⟨h1, h2, h3, h4⟩ := turnI_ok (l := l) hs i (by omega)
    have h0 : 0 < (((turnI s l i).l.length : Nat) : Int) := by omega
    obtain ⟨k, hk, hk2⟩ := tk_nat h1 h0
    have hk3 : k < (turnI s l i).l.length := by omega
    have e : (turnI s l i).l[k]? = some (turnI s l i).l[k] := List.getElem?_eq_getElem hk3
    refine ⟨okS h1 h0, ?_, ?_, ?_⟩
    · show ((turnI s l i).l.eraseIdx (tk _ _).toNat).length = _
      rw [hk, Int.toNat_natCast, List.length_eraseIdx_of_lt hk3]
      omega
    · show ((turnI s l i).f ++ [_]).length = i + 1
      rw [List.length_append, h3]
      rfl
    · show (((turnI s l i).f ++ [((turnI s l i).l[(tk _ _).toNat]?).getD .non]) ++ (turnI s l i).l.eraseIdx (tk _ _).toNat).Perm l
      rw [hk, Int.toNat_natCast, e, List.append_assoc]
      exact (List.Perm.append_left _ (perm_erase e)).trans h4
def turnL (s : Bg) (l : List D) : List D := (turnI s l l.length).f
def turnB (s : Bg) (l : List D) : Bg := (turnI s l l.length).s
theorem turnL_perm {s : Bg} {l : List D} (hs : okB s) : (turnL s l).Perm l := by
  obtain ⟨_, h2, _, h4⟩ := turnI_ok (l := l) hs l.length (Nat.le_refl _)
  have e : (turnI s l l.length).l = [] := List.eq_nil_of_length_eq_zero (by omega)
  rw [e, List.append_nil] at h4
  exact h4
theorem turnB_ok {s : Bg} {l : List D} (hs : okB s) : okB (turnB s l) := (turnI_ok (l := l) hs l.length (Nat.le_refl _)).1
abbrev s_law_turned : Stmt := topS 13
theorem sc_law_turned : FnScope ["_law_bag_here", "_law_things", "_law_left", "_law_found", "_law_lap"] ["_law_bag_here", "_law_things"] (defScope s_law_turned) := ⟨rfl, rfl, rfl, by decide +kernel, rfl, by decide +kernel, by decide +kernel⟩
def C_turned (K : PySem.W.Frag) : Pr → Prop := fun c => ∃ v s ds, okB s ∧ ds.length ≤ 1000 ∧ c = .d [.res v (rB K s), .dat (.lst ds)] (.lst (turnL s ds)) [.res v (rB K (turnB s ds)), .dat (.lst ds)]
theorem con_turned {K : PySem.W.Frag} {v : V} {s : Bg} {ds : List D} (h : okB s) (hl : ds.length ≤ 1000) : Con K (spC K (C_turned K)) [.res v (rB K s), .dat (.lst ds)] (.lst (turnL s ds)) [.res v (rB K (turnB s ds)), .dat (.lst ds)] := con_of ⟨v, s, ds, h, hl, rfl⟩
theorem seqIx {n k : Nat} (h : k < n) : seqIndex? ((k : Nat) : Int) n = some k := by
  have e : ixN n (k : Int) = some k := by
    have := atI_nat (xs := List.range n) (j := k) (v := k) (by simp [h])
    unfold atI at this
    cases q : ixN (List.range n).length (k : Int) with
    | none => rw [q] at this; cases this
    | some z =>
      rw [q] at this
      rw [List.length_range] at q
      have h2 : (List.range n)[z]? = some k := this
      have hz : z < n := by simpa using (List.getElem?_eq_some_iff.mp h2).1
      rw [List.getElem?_range hz] at h2
      cases h2
      exact q
  exact (ixN_seq e).1
section
variable {P : Program} {w : PySem.World} {K : PySem.W.Frag} {mg : Str → Option Value} {base : Heap} {f_law_take : Addr} {fd_law_take : FuncData}
theorem ok_turned {f : Addr} {fd : FuncData} (F : Fun K "_law_turned" "_law_turned" s_law_turned f fd) (G_law_take : FnOk P w K mg base CX0 1 f_law_take fd_law_take ["_law_bag_here", "_law_many"] (spC K (C_take K))) (g_law_take : mg "_law_take" = some (.ref f_law_take)) (k_law_take : PySem.W.keepIn K (.ref f_law_take) = true) (b_law_take : Binds K fd_law_take ["_law_bag_here", "_law_many"] [])
    (m_len : mg "len" = none) (m_list : mg "list" = none) (m_range : mg "range" = none) : FnOk P w K mg base CX0 2 f fd ["_law_bag_here", "_law_things"] (spC K (C_turned K)) := by
  refine okC F sc_law_turned (fun c h => by obtain ⟨v, s, ds, _, _, rfl⟩ := h; rfl) fun cdv A outer s H vs Q E hr => ⟨_, ((pss_cons (ps_par (i := 2) (j := 3) rfl sc_law_turned.nd rfl rfl (by decide) rfl rfl (pa_cons (pe_callTy call_list_of rfl m_list (by decide +kernel) (pa_cons (pv 1) pa_nil)) (pa_cons (pe_lst pa_nil) pa_nil)) rfl)
      (pss_cons (ps_for PassesOwn.never rfl (pi_range1 rfl m_range (pa_cons (pe_callB call_lenA rfl m_len (by decide +kernel) (pa_cons (pv 2) pa_nil)) pa_nil)) (pg_name (i := 4) sc_law_turned.nd rfl (.inl rfl))
      (pss_one (ps_expr (pe_bm PySem.F.plainAttrs_list PySem.F.slot_list_append PySem.F.type_list_append mt_append (pv 3) (pa_cons (pe_bm PySem.F.plainAttrs_list PySem.F.slot_list_pop PySem.F.type_list_pop mt_popAt (pv 2) (pa_cons (pe_call G_law_take (hr.mono (by decide)) rfl g_law_take k_law_take b_law_take .nil pass0 (pa_cons (pv 0) (pa_cons (pe_callB call_lenA rfl m_len (by decide +kernel) (pa_cons (pv 2) pa_nil)) pa_nil))) pa_nil)) pa_nil)))))
      (pss_one (ps_ret (pv 3)))))), ?_⟩
  rintro c ⟨v, s, ds, hs, hl, rfl⟩
  obtain ⟨q1, q2, q3, _⟩ := turnI_ok (l := ds) hs ds.length (Nat.le_refl _)
  refine body_d (Γ0 := [.res v (rB K s), .dat (.lst ds), .em, .em, .em]) (Γ := [.res v (rB K (turnB s ds)), .dat (.lst ds), .em, .dat (.lst (turnL s ds)), .em]) (z' := .lst (turnL s ds)) ?_ rfl (by walk_at "po") rfl
  refine run_parRR (Γ1 := [.res v (rB K s), .dat (.lst ds), .em, .em, .em]) (Γ2 := [.res v (rB K s), .dat (.lst ds), .em, .em, .em]) (R1 := Rlst K ds) (R2 := Rlst K []) ?_ ?_ (by simp) (by simp) (by decide) fun vl vf => ?_
  · exact er_listOf (m := .p) (ev_var rfl) (.inl rfl)
  · exact er_lst (m := .p) ea_nil (Nat.zero_le _)
  refine run_seq (Γ1 := [.res v (rB K (turnB s ds)), .dat (.lst ds), .em, .res vf (Rlst K (turnL s ds)), .em]) (Run.nxWeak (Γ1 := [.res v (rB K (turnB s ds)), .dat (.lst ds), .res vl (Rlst K (turnI s ds ds.length).l), .res vf (Rlst K (turnL s ds)), .em]) ?_ (by walk_at "wk")) ?_
  · refine run_for (m := .e) (ds := intsD 0 ((ds.length : Nat) : Int).toNat) (n := ds.length) (Γ1 := [.res v (rB K s), .dat (.lst ds), .res vl (Rlst K ds), .res vf (Rlst K []), .em]) (fun i => [.res v (rB K (turnI s ds i).s), .dat (.lst ds), .res vl (Rlst K (turnI s ds i).l), .res vf (Rlst K (turnI s ds i).f), .em])
      (it_rng1 (ea_cons (ev_borrow (k := 2) (v := vl) (ds := ds) (Γ' := [.res v (rB K s), .dat (.lst ds), .dat (.lst ds), .res vf (Rlst K []), .em]) rfl (fun Γ0 e => by subst e; walk_at "ev") rfl) ea_nil) (by omega)) rfl (by simp [intsD]) (fun i d hi hd => ?_) (.inl ⟨by simp [intsD], rfl⟩)
    obtain ⟨h1, h2, h3, h4⟩ := turnI_ok (l := ds) hs i (by omega)
    have h0 : 0 < (((turnI s ds i).l.length : Nat) : Int) := by omega
    obtain ⟨k, hk, hk2⟩ := tk_nat h1 h0
    have hk3 : k < (turnI s ds i).l.length := by omega
    refine turn_g (Γ1 := [.res v (rB K (turnI s ds i).s), .dat (.lst ds), .res vl (Rlst K (turnI s ds i).l), .res vf (Rlst K (turnI s ds i).f), .dat d]) (by walk_at "rg") (Run.lp (Run.nxWeak (Γ1 := [.res v (rB K (turnI s ds (i + 1)).s), .dat (.lst ds), .res vl (Rlst K (turnI s ds (i + 1)).l), .res vf (Rlst K (turnI s ds (i + 1)).f), .dat d]) ?_ (by walk_at "wk")))
    refine Run.is (run_app (m := .e) (k := 3) (v := vf) (ds := (turnI s ds i).f) (d := ((turnI s ds i).l[k]?).getD .non) (Γ1 := [.res v (rB K (turnI s ds (i + 1)).s), .dat (.lst ds), .res vl (Rlst K (turnI s ds (i + 1)).l), .res vf (Rlst K (turnI s ds i).f), .dat d]) rfl ?_ rfl (small1000 (by omega))) ?_
    · refine Ev.eq (ev_popAt (k := 2) (v := vl) (ds := (turnI s ds i).l) (j := (k : Int)) (n := k) (m := .e) (Γ1 := [.res v (rB K (turnI s ds (i + 1)).s), .dat (.lst ds), .res vl (Rlst K (turnI s ds i).l), .res vf (Rlst K (turnI s ds i).f), .dat d]) rfl ?_ rfl (by omega) (seqIx hk3) (List.getElem?_eq_getElem hk3)) ?_ ?_
      · refine Ev.eq (ev_call1 (m := .e) (i := 0) (v := v) (R := rB K (turnI s ds i).s) (ds := [.int ((turnI s ds i).l.length : Nat)]) (Γ' := [.res v (rB K (turnI s ds i).s), .dat (.lst ds), .res vl (Rlst K (turnI s ds i).l), .res vf (Rlst K (turnI s ds i).f), .dat d]) (ea_cons (ev_borrow (k := 2) (v := vl) (ds := (turnI s ds i).l) (Γ' := [.res v (rB K (turnI s ds i).s), .dat (.lst ds), .dat (.lst (turnI s ds i).l), .res vf (Rlst K (turnI s ds i).f), .dat d]) rfl (fun Γ0 e => by subst e; walk_at "ev") rfl) ea_nil) rfl rfl (con_take h1 h0 (lgLen (by omega)))) (by rw [hk]) rfl
      · rw [List.getElem?_eq_getElem hk3]; rfl
      · show [_, _, _, _, _] = [_, _, _, _, _]
        rw [show (turnI s ds (i + 1)).l = (turnI s ds i).l.eraseIdx k from by show (turnI s ds i).l.eraseIdx (tk _ _).toNat = _; rw [hk, Int.toNat_natCast]]
    · show Out.nx [_, _, _, _, _] = Out.nx [_, _, _, _, _]
      rw [show (turnI s ds (i + 1)).f = (turnI s ds i).f ++ [((turnI s ds i).l[k]?).getD .non] from by show (turnI s ds i).f ++ [((turnI s ds i).l[(tk _ _).toNat]?).getD .non] = _; rw [hk, Int.toNat_natCast]]
  · exact Run.frz (i := 3) rfl (run_ret (m := .e) (ev_var rfl))
end


def strL (xs : List Str) : D := .lst (xs.map .str)
def ofI (s : Bg) (ns : List Int) : Int := ns.getD (tk s (ns.length : Nat)).toNat 0
def ofS (s : Bg) (ns : List Str) : Str := ns.getD (tk s (ns.length : Nat)).toNat Str.empty
section
variable {K : PySem.W.Frag} {v : V} {s : Bg} {ns : List Int} {xs : List Str}
theorem ofD_int (h : okB s) (h0 : 0 < ns.length) : ofD s (ns.map .int) = .int (ofI s ns) := by
  obtain ⟨k, hk, hk2⟩ := tk_nat (n := (ns.length : Nat)) h (by omega)
  have hk3 : k < ns.length := by omega
  unfold ofD ofI
  rw [List.length_map, hk, Int.toNat_natCast, List.getElem?_map, List.getElem?_eq_getElem hk3]
  simp [List.getElem?_eq_getElem hk3]
theorem ofD_str (h : okB s) (h0 : 0 < xs.length) : ofD s (xs.map .str) = .str (ofS s xs) := by
  obtain ⟨k, hk, hk2⟩ := tk_nat (n := (xs.length : Nat)) h (by omega)
  have hk3 : k < xs.length := by omega
  unfold ofD ofS
  rw [List.length_map, hk, Int.toNat_natCast, List.getElem?_map, List.getElem?_eq_getElem hk3]
  simp [List.getElem?_eq_getElem hk3]
theorem ofI_mem (h : okB s) (h0 : 0 < ns.length) : ofI s ns ∈ ns := by
  obtain ⟨k, hk, hk2⟩ := tk_nat (n := (ns.length : Nat)) h (by omega)
  have hk3 : k < ns.length := by omega
  unfold ofI
  rw [hk, Int.toNat_natCast]
  simp [List.getElem?_eq_getElem hk3]
theorem ofS_mem (h : okB s) (h0 : 0 < xs.length) : ofS s xs ∈ xs := by
  obtain ⟨k, hk, hk2⟩ := tk_nat (n := (xs.length : Nat)) h (by omega)
  have hk3 : k < xs.length := by omega
  unfold ofS
  rw [hk, Int.toNat_natCast]
  simp [List.getElem?_eq_getElem hk3]
theorem con_ofI (h : okB s) (h0 : 0 < ns.length) (hl : ns.length ≤ 1000) : Con K (spC K (C_of K)) [.res v (rB K s), .dat (intL ns)] (.int (ofI s ns)) [.res v (rB K (tkS s (ns.length : Nat))), .dat (intL ns)] := by
  have q := con_of' (K := K) (v := v) (ds := ns.map .int) h (by simpa using h0) (by simpa using hl)
  rw [ofD_int h h0, List.length_map] at q
  exact q
theorem con_ofS (h : okB s) (h0 : 0 < xs.length) (hl : xs.length ≤ 1000) : Con K (spC K (C_of K)) [.res v (rB K s), .dat (strL xs)] (.str (ofS s xs)) [.res v (rB K (tkS s (xs.length : Nat))), .dat (strL xs)] := by
  have q := con_of' (K := K) (v := v) (ds := xs.map .str) h (by simpa using h0) (by simpa using hl)
  rw [ofD_str h h0, List.length_map] at q
  exact q
end
abbrev Row := Int × Wo
def rD (r : Row) : D := .tup [.int r.1, .bl r.2.2.2, .int r.2.1, .str r.2.2.1]
def rowsD (rs : List Row) : D := .lst (rs.map rD)
def ctL (s : Bg) : List Int := [0, 1, ofI s [2, 10 ^ 18, 10 ^ 30], 10 ^ 30 - 1]
def rowS (s : Bg) (pool cs : List Int) (xs : List Str) : Row :=
  (ofI s pool, ofI (tkS (tkS s (pool.length : Nat)) 2) cs, ofS (tkS (tkS (tkS s (pool.length : Nat)) 2) (cs.length : Nat)) xs, decide (tk (tkS s (pool.length : Nat)) 2 = 1))
def bagS (s : Bg) (pool cs : List Int) (xs : List Str) : Bg := tkS (tkS (tkS (tkS s (pool.length : Nat)) 2) (cs.length : Nat)) (xs.length : Nat)
def wdI (s : Bg) (pool cs : List Int) (xs : List Str) : Nat → Bg × List Row
  | 0 => (s, [])
  | i + 1 => (bagS (wdI s pool cs xs i).1 pool cs xs, (wdI s pool cs xs i).2 ++ [rowS (wdI s pool cs xs i).1 pool cs xs])
theorem wdI_ok {s : Bg} {pool cs : List Int} {xs : List Str} (hs : okB s) (h1 : 0 < pool.length) (h2 : 0 < cs.length) (h3 : 0 < xs.length) : ∀ i, okB (wdI s pool cs xs i).1 ∧ (wdI s pool cs xs i).2.length = i ∧ ∀ r ∈ (wdI s pool cs xs i).2, r.1 ∈ pool ∧ r.2.2.1 ∈ xs
  | 0 => ⟨hs, rfl, fun r h => by simp [wdI] at h⟩
  | i + 1 => by
    obtain ⟨a, b, c⟩ := wdI_ok (s := s) (pool := pool) (cs := cs) (xs := xs) hs h1 h2 h3 i
    have k1 : okB (tkS (wdI s pool cs xs i).1 (pool.length : Nat)) := okS a (by omega)
    have k2 := okS (n := 2) k1 (by omega)
    have k3 : okB (tkS (tkS (tkS (wdI s pool cs xs i).1 (pool.length : Nat)) 2) (cs.length : Nat)) := okS k2 (by omega)
    have k4 := okS (n := (xs.length : Nat)) k3 (by omega)
    refine ⟨k4, ?_, fun r h => ?_⟩
    · show ((wdI s pool cs xs i).2 ++ [_]).length = i + 1
      rw [List.length_append, b]
      rfl
    · rcases List.mem_append.mp (show r ∈ (wdI s pool cs xs i).2 ++ [_] from h) with h | h
      · exact c r h
      · rw [List.mem_singleton.mp h]
        exact ⟨ofI_mem a h1, ofS_mem k3 h3⟩
def wordsN (s : Bg) : Nat := (tk (tkS s 3) 31).toNat
def wordsS (s : Bg) (pool : List Int) (xs : List Str) : Bg × List Row := wdI (tkS (tkS s 3) 31) pool (ctL s) xs (wordsN s)

local macro_rules | `(tactic| walk_at "con") => `(tactic| first
  | (apply con_ofI; (focus (walk_at "ok")); (focus (walk_at "sd")); (focus (walk_at "sd")))
  | (apply con_ofS; (focus (walk_at "ok")); (focus (walk_at "sd")); (focus (walk_at "sd"))))

abbrev s_law_words : Stmt := topS 15
theorem sc_law_words : FnScope ["_law_bag_here", "_law_pool", "_law_names_here", "_law_counts", "_law_found", "_law_lap"] ["_law_bag_here", "_law_pool", "_law_names_here"] (defScope s_law_words) := ⟨rfl, rfl, rfl, by decide +kernel, rfl, by decide +kernel, by decide +kernel⟩
def C_words (K : PySem.W.Frag) : Pr → Prop := fun c => ∃ v s pool xs, okB s ∧ 0 < pool.length ∧ pool.length ≤ 1000 ∧ 0 < xs.length ∧ xs.length ≤ 1000 ∧ c = .d [.res v (rB K s), .dat (intL pool), .dat (strL xs)] (rowsD (wordsS s pool xs).2) [.res v (rB K (wordsS s pool xs).1), .dat (intL pool), .dat (strL xs)]
section
variable {P : Program} {w : PySem.World} {K : PySem.W.Frag} {mg : Str → Option Value} {base : Heap} {f_law_take f_law_of : Addr} {fd_law_take fd_law_of : FuncData}
theorem ok_words {f : Addr} {fd : FuncData} (F : Fun K "_law_words" "_law_words" s_law_words f fd) (G_law_take : FnOk P w K mg base CX0 1 f_law_take fd_law_take ["_law_bag_here", "_law_many"] (spC K (C_take K))) (g_law_take : mg "_law_take" = some (.ref f_law_take)) (k_law_take : PySem.W.keepIn K (.ref f_law_take) = true) (b_law_take : Binds K fd_law_take ["_law_bag_here", "_law_many"] [])
    (G_law_of : FnOk P w K mg base CX0 2 f_law_of fd_law_of ["_law_bag_here", "_law_some_here"] (spC K (C_of K))) (g_law_of : mg "_law_of" = some (.ref f_law_of)) (k_law_of : PySem.W.keepIn K (.ref f_law_of) = true) (b_law_of : Binds K fd_law_of ["_law_bag_here", "_law_some_here"] [])
    (m_range : mg "range" = none) : FnOk P w K mg base CX0 3 f fd ["_law_bag_here", "_law_pool", "_law_names_here"] (spC K (C_words K)) := by
  refine okC F sc_law_words (fun c h => by obtain ⟨v, s, pool, xs, _, _, _, _, _, rfl⟩ := h; rfl) fun cdv A outer s H vs Q E hr => ⟨_, ((pss_cons (ps_par (i := 3) (j := 4) rfl sc_law_words.nd rfl rfl (by decide) rfl rfl (pa_cons (pe_lst (pa_cons pe_int (pa_cons pe_int (pa_cons (pe_call G_law_of (hr.mono (by decide)) rfl g_law_of k_law_of b_law_of .nil pass0 (pa_cons (pv 0) (pa_cons (pe_lst (pa_cons pe_int (pa_cons (pe_op op_pow pe_int pe_int) (pa_cons (pe_op op_pow pe_int pe_int) pa_nil)))) pa_nil))) (pa_cons (pe_op op_sub (pe_op op_pow pe_int pe_int) pe_int) pa_nil))))) (pa_cons (pe_lst pa_nil) pa_nil)) rfl)
      (pss_cons (ps_for PassesOwn.never rfl (pi_range1 rfl m_range (pa_cons (pe_call G_law_take (hr.mono (by decide)) rfl g_law_take k_law_take b_law_take .nil pass0 (pa_cons (pv 0) (pa_cons pe_int pa_nil))) pa_nil)) (pg_name (i := 5) sc_law_words.nd rfl (.inl rfl))
      (pss_one (ps_expr (pe_bm PySem.F.plainAttrs_list PySem.F.slot_list_append PySem.F.type_list_append mt_append (pv 4) (pa_cons (pe_tup (pa_cons (pe_call G_law_of (hr.mono (by decide)) rfl g_law_of k_law_of b_law_of .nil pass0 (pa_cons (pv 0) (pa_cons (pv 1) pa_nil))) (pa_cons (pe_cmpR (op_eqD (hu64 hr)) (pe_call G_law_take (hr.mono (by decide)) rfl g_law_take k_law_take b_law_take .nil pass0 (pa_cons (pv 0) (pa_cons pe_int pa_nil))) pe_int (nomark _)) (pa_cons (pe_call G_law_of (hr.mono (by decide)) rfl g_law_of k_law_of b_law_of .nil pass0 (pa_cons (pv 0) (pa_cons (pv 3) pa_nil))) (pa_cons (pe_call G_law_of (hr.mono (by decide)) rfl g_law_of k_law_of b_law_of .nil pass0 (pa_cons (pv 0) (pa_cons (pv 2) pa_nil))) pa_nil))))) pa_nil)))))
      (pss_one (ps_ret (pv 4)))))), ?_⟩
  rintro c ⟨v, s, pool, xs, hs, hp, hp2, hx, hx2, rfl⟩
  have hs1 : okB (tkS s 3) := okS hs (by decide)
  have hs2 : okB (tkS (tkS s 3) 31) := okS hs1 (by decide)
  obtain ⟨n, hn, hn2⟩ := tk_nat (n := 31) hs1 (by decide)
  have hN : wordsN s = n := by unfold wordsN; rw [hn, Int.toNat_natCast]
  refine body_d (Γ0 := [.res v (rB K s), .dat (intL pool), .dat (strL xs), .em, .em, .em]) (Γ := [.res v (rB K (wordsS s pool xs).1), .dat (intL pool), .dat (strL xs), .dat (intL (ctL s)), .dat (rowsD (wordsS s pool xs).2), .em]) (z' := rowsD (wordsS s pool xs).2) ?_ rfl (by walk_at "po") rfl
  refine run_parDR (m := .e) (d := intL (ctL s)) (Γ1 := [.res v (rB K (tkS s 3)), .dat (intL pool), .dat (strL xs), .em, .em, .em]) (Γ2 := [.res v (rB K (tkS s 3)), .dat (intL pool), .dat (strL xs), .em, .em, .em]) (R2 := Rlst K []) ?_ ?_ (by simp) (by simp) (by decide) fun vf => ?_
  · refine ev_lst (ds := (ctL s).map .int) (ea_cons ev_int (ea_cons ev_int (ea_cons (x := .int (ofI s [2, 10 ^ 18, 10 ^ 30])) (Γ1 := [.res v (rB K (tkS s 3)), .dat (intL pool), .dat (strL xs), .em, .em, .em]) ?_ (ea_cons (by walk_at "evx") ea_nil)))) (Nat.le_of_lt (L2.small1000 (Nat.le_of_ble_eq_true rfl)))
    refine Ev.eq (ev_call1 (m := .e) (i := 0) (v := v) (R := rB K s) (ds := [intL [2, 10 ^ 18, 10 ^ 30]]) (Γ' := [.res v (rB K s), .dat (intL pool), .dat (strL xs), .em, .em, .em]) (ea_cons (Ev.eq (d := .lst [.int 2, .int (10 ^ (18 : Int).toNat), .int (10 ^ (30 : Int).toNat)]) (by walk_at "ev") rfl rfl) ea_nil) rfl rfl (con_ofI hs (by decide) (by decide))) rfl rfl
  · exact er_lst (m := .p) ea_nil (Nat.zero_le _)
  refine run_seq (Γ1 := [.res v (rB K (wordsS s pool xs).1), .dat (intL pool), .dat (strL xs), .dat (intL (ctL s)), .res vf (Rlst K ((wordsS s pool xs).2.map rD)), .em]) ?_ (Run.frz (i := 4) rfl (run_ret (m := .e) (ev_var rfl)))
  refine Run.is (run_for (m := .e) (ds := intsD 0 (n : Int).toNat) (n := n) (Γ1 := [.res v (rB K (tkS (tkS s 3) 31)), .dat (intL pool), .dat (strL xs), .dat (intL (ctL s)), .res vf (Rlst K []), .em]) (fun i => [.res v (rB K (wdI (tkS (tkS s 3) 31) pool (ctL s) xs i).1), .dat (intL pool), .dat (strL xs), .dat (intL (ctL s)), .res vf (Rlst K ((wdI (tkS (tkS s 3) 31) pool (ctL s) xs i).2.map rD)), .em])
      (it_rng1 (ea_cons (Ev.eq (d := .int (tk (tkS s 3) 31)) (Γ1 := [.res v (rB K (tkS (tkS s 3) 31)), .dat (intL pool), .dat (strL xs), .dat (intL (ctL s)), .res vf (Rlst K []), .em]) (by walk_at "evx") (by rw [hn]) rfl) ea_nil) (by omega)) rfl (by simp [intsD]) (fun i d hi hd => ?_) (.inl ⟨by simp [intsD], rfl⟩)) ?_
  · obtain ⟨a, b, c⟩ := wdI_ok (pool := pool) (cs := ctL s) (xs := xs) hs2 hp (by simp [ctL]) hx i
    have hl : ((wdI (tkS (tkS s 3) 31) pool (ctL s) xs i).2.map rD).length = i := by rw [List.length_map, b]
    refine turn_g (Γ1 := [.res v (rB K (wdI (tkS (tkS s 3) 31) pool (ctL s) xs i).1), .dat (intL pool), .dat (strL xs), .dat (intL (ctL s)), .res vf (Rlst K ((wdI (tkS (tkS s 3) 31) pool (ctL s) xs i).2.map rD)), .dat d]) (by walk_at "rg") (Run.lp (Run.nxWeak (Γ1 := [.res v (rB K (wdI (tkS (tkS s 3) 31) pool (ctL s) xs (i + 1)).1), .dat (intL pool), .dat (strL xs), .dat (intL (ctL s)), .res vf (Rlst K ((wdI (tkS (tkS s 3) 31) pool (ctL s) xs (i + 1)).2.map rD)), .dat d]) ?_ (by walk_at "wk")))
    generalize hG : wdI (tkS (tkS s 3) 31) pool (ctL s) xs i = W at a b c hl ⊢
    have eW : wdI (tkS (tkS s 3) 31) pool (ctL s) xs (i + 1) = (bagS W.1 pool (ctL s) xs, W.2 ++ [rowS W.1 pool (ctL s) xs]) := by rw [← hG]; rfl
    rw [eW]
    have k1 : okB (tkS W.1 (pool.length : Nat)) := okS a (by omega)
    have k2 := okS (n := 2) k1 (by omega)
    have k3 : okB (tkS (tkS (tkS W.1 (pool.length : Nat)) 2) ((ctL s).length : Nat)) := okS k2 (by simp [ctL])
    have hc1 : 0 < (ctL s).length := by simp [ctL]
    have hc2 : (ctL s).length ≤ 1000 := by simp [ctL]
    refine Run.is (run_app (m := .e) (k := 4) (v := vf) (ds := W.2.map rD) (d := rD (rowS W.1 pool (ctL s) xs)) (Γ1 := [.res v (rB K (bagS W.1 pool (ctL s) xs)), .dat (intL pool), .dat (strL xs), .dat (intL (ctL s)), .res vf (Rlst K (W.2.map rD)), .dat d]) rfl ?_ rfl (small1000 (by omega))) (by
      show Out.nx [_, _, _, _, _, _] = Out.nx [_, _, _, _, _, _]
      rw [List.map_append]
      rfl)
    refine ev_tup (ds := [.int (ofI W.1 pool), .bl (decide (tk (tkS W.1 (pool.length : Nat)) 2 = 1)), .int (ofI (tkS (tkS W.1 (pool.length : Nat)) 2) (ctL s)), .str (ofS (tkS (tkS (tkS W.1 (pool.length : Nat)) 2) ((ctL s).length : Nat)) xs)]) (ea_cons (Γ1 := [.res v (rB K (tkS W.1 (pool.length : Nat))), .dat (intL pool), .dat (strL xs), .dat (intL (ctL s)), .res vf (Rlst K (W.2.map rD)), .dat d]) ?_ (ea_cons (Γ1 := [.res v (rB K (tkS (tkS W.1 (pool.length : Nat)) 2)), .dat (intL pool), .dat (strL xs), .dat (intL (ctL s)), .res vf (Rlst K (W.2.map rD)), .dat d]) ?_ (ea_cons (Γ1 := [.res v (rB K (tkS (tkS (tkS W.1 (pool.length : Nat)) 2) ((ctL s).length : Nat))), .dat (intL pool), .dat (strL xs), .dat (intL (ctL s)), .res vf (Rlst K (W.2.map rD)), .dat d]) ?_ (ea_cons ?_ ea_nil)))) (Nat.le_of_lt (L2.small1000 (Nat.le_of_ble_eq_true rfl)))
    · walk_at "evx"
    · apply Ev.eq
      · apply ev_op
        · walk_at "ev"
        · walk_at "ev"
        · exact opd_eqD rfl rfl
      · exact congrArg D.bl (eqv_int _ _)
      · exact rfl
    · walk_at "evx"
    · walk_at "evx"
  · rw [show wordsS s pool xs = wdI (tkS (tkS s 3) 31) pool (ctL s) xs n from by unfold wordsS; rw [hN]]
end


/-! ### names -/
def letS (k : Int) : Str := ⟨#[97 + k.toNat]⟩
def abc : Str := "abcdefghijklmnopqrstuvwxyz"
theorem abc_at (k : Nat) (h : k < 26) : atI abc.cps.toList (k : Int) = some (97 + k) := by
  have : ∀ k : Fin 26, abc.cps.toList[k.val]? = some (97 + k.val) := by decide +kernel
  exact atI_nat (this ⟨k, h⟩)
theorem ok_letS {k : Int} (h : 0 ≤ k ∧ k < 26) : PyData.strOk (letS k) = true ∧ (letS k).length = 1 := by
  refine ⟨?_, rfl⟩
  show (#[97 + k.toNat] : Array Nat).all (fun c => decide (c < 0x110000)) = true
  have : 97 + k.toNat < 0x110000 := by omega
  simp [this]
theorem opd_letter {K : PySem.W.Frag} {k : Int} (h : 0 ≤ k ∧ k < 26) : OpD K (rIx K) (.str abc) (.int k) (.str (letS k)) := by
  obtain ⟨n, rfl⟩ : ∃ n : Nat, k = n := ⟨k.toNat, by omega⟩
  have := opd_ixS (K := K) (w := abc) (k := (n : Int)) (by decide +kernel) (abc_at n (by omega))
  rw [show letS (n : Int) = ⟨#[97 + n]⟩ from by unfold letS; rw [Int.toNat_natCast]]
  exact this
def bgI (s : Bg) (n : Int) : Nat → Bg
  | 0 => s
  | i + 1 => tkS (bgI s n i) n
theorem ok_bgI {s : Bg} {n : Int} (h : okB s) (hn : 0 < n) : ∀ i, okB (bgI s n i)
  | 0 => h
  | i + 1 => okS (ok_bgI h hn i) hn
def nb (s : Bg) : Nat := (ofI s [0, 0, 2, 7]).toNat
def s1 (s : Bg) : Bg := bgI (tkS s 4) 26 (nb s)
def baseL (s : Bg) : List Str := (List.range (nb s)).map fun i => letS (tk (bgI (tkS s 4) 26 i) 26)
def baseS (s : Bg) : Str := Str.join Str.empty (baseL s)
def ones (s : Bg) (n : Nat) : List Str := (List.range n).map fun (i : Nat) => letS ((tk (s1 s) 26 + 7 * (i : Int)) % 26)
def behind (s : Bg) : Int := tk (tkS (s1 s) 26) 2
def namesL (s : Bg) (n : Nat) : List Str := (ones s n).map fun x => if decide (behind s ≠ 0) then baseS s ++ x else x ++ baseS s
def namesB (s : Bg) : Bg := tkS (tkS (s1 s) 26) 2
theorem join_ok : ∀ {ys : List Str}, (∀ y ∈ ys, PyData.strOk y = true ∧ y.length = 1) → PyData.strOk (Str.join Str.empty ys) = true ∧ (Str.join Str.empty ys).length = ys.length
  | [], _ => ⟨by decide +kernel, rfl⟩
  | [y], h => h y (by simp)
  | x :: y :: r, h => by
    obtain ⟨a, b⟩ := join_ok (ys := y :: r) fun z hz => h z (List.mem_cons_of_mem _ hz)
    obtain ⟨c, d⟩ := h x (by simp)
    have e : (Str.join Str.empty (x :: y :: r)).cps = x.cps ++ Str.empty.cps ++ (Str.join Str.empty (y :: r)).cps := rfl
    refine ⟨?_, ?_⟩
    · show (Str.join Str.empty (x :: y :: r)).cps.all _ = true
      rw [e]
      have a' : (Str.join Str.empty (y :: r)).cps.all (fun c => decide (c < 0x110000)) = true := a
      have c' : x.cps.all (fun c => decide (c < 0x110000)) = true := c
      rw [Array.all_append, Array.all_append, a', c']
      exact (by decide +kernel : ((true && Str.empty.cps.all fun x => decide (x < 1114112)) && true) = true)
    · show (Str.join Str.empty (x :: y :: r)).cps.size = _
      rw [e, Array.size_append, Array.size_append]
      have b' : (Str.join Str.empty (y :: r)).cps.size = (y :: r).length := b
      have d' : x.cps.size = 1 := d
      rw [b', d']
      show 1 + 0 + _ = _
      simp only [List.length_cons]
      omega
theorem nb_ok {s : Bg} (h : okB s) : ofI s [0, 0, 2, 7] = (nb s : Nat) ∧ nb s ≤ 7 := by
  have := ofI_mem h (ns := [0, 0, 2, 7]) (by decide)
  unfold nb
  simp at this
  rcases this with e | e | e <;> rw [e] <;> decide
theorem base_ok {s : Bg} (h : okB s) : PyData.strOk (baseS s) = true ∧ (baseS s).length ≤ 7 := by
  have hs := okS (n := 4) h (by decide)
  obtain ⟨a, b⟩ := join_ok (ys := baseL s) fun y hy => by
    obtain ⟨i, _, rfl⟩ := List.mem_map.mp hy
    exact ok_letS (tk_lt (ok_bgI hs (by decide) i) (by decide))
  have := (nb_ok h).2
  refine ⟨a, ?_⟩
  show (Str.join Str.empty (baseL s)).length ≤ 7
  rw [b]
  simpa [baseL] using this
theorem strOk_app {x y : Str} (hx : PyData.strOk x = true) (hy : PyData.strOk y = true) : PyData.strOk (x ++ y) = true := by
  show (x.cps ++ y.cps).all _ = true
  rw [Array.all_append]
  have a : x.cps.all (fun c => decide (c < 0x110000)) = true := hx
  have b : y.cps.all (fun c => decide (c < 0x110000)) = true := hy
  rw [a, b]
  rfl
theorem ones_ok {s : Bg} {n : Nat} {x : Str} (h : x ∈ ones s n) : PyData.strOk x = true ∧ x.length = 1 := by
  obtain ⟨i, _, rfl⟩ := List.mem_map.mp h
  exact ok_letS (by omega)
theorem names_ok {s : Bg} {n : Nat} (h : okB s) : (namesL s n).length = n ∧ ∀ x ∈ namesL s n, PyData.strOk x = true := by
  refine ⟨by simp [namesL, ones], fun x hx => ?_⟩
  obtain ⟨y, hy, rfl⟩ := List.mem_map.mp hx
  split
  · exact strOk_app (base_ok h).1 (ones_ok hy).1
  · exact strOk_app (ones_ok hy).1 (base_ok h).1
abbrev s_law_names : Stmt := topS 8
theorem sc_law_names : FnScope ["_law_bag_here", "_law_many", "_law_letters", "_law_base", "_law_start", "_law_is_behind", "_law_found", "_law_k", "_law_one"] ["_law_bag_here", "_law_many"] (defScope s_law_names) := ⟨rfl, rfl, rfl, by decide +kernel, rfl, by decide +kernel, by decide +kernel⟩
def C_names (K : PySem.W.Frag) : Pr → Prop := fun c => ∃ v s n, okB s ∧ n ≤ 1000 ∧ c = .d [.res v (rB K s), .dat (.int (n : Nat))] (strL (namesL s n)) [.res v (rB K (namesB s)), .dat (.int (n : Nat))]
section
variable {P : Program} {w : PySem.World} {K : PySem.W.Frag} {mg : Str → Option Value} {base : Heap} {f_law_take f_law_of : Addr} {fd_law_take fd_law_of : FuncData}
theorem ok_names {f : Addr} {fd : FuncData} (F : Fun K "_law_names" "_law_names" s_law_names f fd) (G_law_take : FnOk P w K mg base CX0 1 f_law_take fd_law_take ["_law_bag_here", "_law_many"] (spC K (C_take K))) (g_law_take : mg "_law_take" = some (.ref f_law_take)) (k_law_take : PySem.W.keepIn K (.ref f_law_take) = true) (b_law_take : Binds K fd_law_take ["_law_bag_here", "_law_many"] [])
    (G_law_of : FnOk P w K mg base CX0 2 f_law_of fd_law_of ["_law_bag_here", "_law_some_here"] (spC K (C_of K))) (g_law_of : mg "_law_of" = some (.ref f_law_of)) (k_law_of : PySem.W.keepIn K (.ref f_law_of) = true) (b_law_of : Binds K fd_law_of ["_law_bag_here", "_law_some_here"] [])
    (m_range : mg "range" = none) : FnOk P w K mg base CX0 3 f fd ["_law_bag_here", "_law_many"] (spC K (C_names K)) := by
  refine okC F sc_law_names (fun c h => by obtain ⟨v, s, n, _, _, rfl⟩ := h; rfl) fun cdv A outer s H vs Q E hr => ⟨_, ((pss_cons (ps_set (i := 2) sc_law_names.nd rfl (.inr rfl) pe_str)
      (pss_cons (ps_set (i := 3) sc_law_names.nd rfl (.inr rfl) (pe_join pe_str (pe_lc (own := [("_law_k", 7)]) rfl sc_law_names.nd (pi_range1 rfl m_range (pa_cons (pe_call G_law_of (hr.mono (by decide)) rfl g_law_of k_law_of b_law_of .nil pass0 (pa_cons (pv 0) (pa_cons (pe_lst (pa_cons pe_int (pa_cons pe_int (pa_cons pe_int (pa_cons pe_int pa_nil))))) pa_nil))) pa_nil)) (blkOk_by (N := ["_law_bag_here", "_law_many", "_law_letters", "_law_base", "_law_start", "_law_is_behind", "_law_found", "_law_k", "_law_one"]) (sc := defScope s_law_names) (by decide +kernel)) (fun _ _ _ _ _ => (pg_name (i := 7) sc_law_names.nd rfl (.inl rfl))) (fun _ _ _ _ _ => pts_nil) (fun _ _ _ _ _ => (pe_ix (ix_seqK (K := K)) (pv 2) (pe_call G_law_take (hr.mono (by decide)) rfl g_law_take k_law_take b_law_take .nil pass0 (pa_cons (pv 0) (pa_cons pe_int pa_nil))) (fun _ _ => rfl))))))
      (pss_cons (ps_asg (pe_tup (pa_cons (pe_call G_law_take (hr.mono (by decide)) rfl g_law_take k_law_take b_law_take .nil pass0 (pa_cons (pv 0) (pa_cons pe_int pa_nil))) (pa_cons (pe_call G_law_take (hr.mono (by decide)) rfl g_law_take k_law_take b_law_take .nil pass0 (pa_cons (pv 0) (pa_cons pe_int pa_nil))) pa_nil))) (pg_tup rfl (pgs_cons (pg_name (i := 4) sc_law_names.nd rfl (.inr rfl)) (pgs_cons (pg_name (i := 5) sc_law_names.nd rfl (.inr rfl)) pgs_nil))))
      (pss_cons (ps_setLc (i := 6) (own := [("_law_k", 7)]) rfl sc_law_names.nd rfl rfl (sw_true rfl rfl rfl (by decide +kernel)) (pi_range1 rfl m_range (pa_cons (pv 1) pa_nil)) (blkOk_by (N := ["_law_bag_here", "_law_many", "_law_letters", "_law_base", "_law_start", "_law_is_behind", "_law_found", "_law_k", "_law_one"]) (sc := defScope s_law_names) (by decide +kernel)) (fun _ _ _ _ _ => (pg_name (i := 7) sc_law_names.nd rfl (.inl rfl))) (fun _ _ _ _ _ => pts_nil) (fun _ _ _ _ _ => (pe_ix (ix_seqK (K := K)) (pv 2) (pe_op op_mod (pe_op (op_addK (K := K)) (pv 4) (pe_op op_mulW pe_int (pv 7))) pe_int) (fun _ _ => rfl))))
      (pss_one (ps_ret (pe_lc (own := [("_law_one", 8)]) rfl sc_law_names.nd (pi_any (pv 6)) (blkOk_by (N := ["_law_bag_here", "_law_many", "_law_letters", "_law_base", "_law_start", "_law_is_behind", "_law_found", "_law_k", "_law_one"]) (sc := defScope s_law_names) (by decide +kernel)) (fun _ _ _ _ _ => (pg_name (i := 8) sc_law_names.nd rfl (.inl rfl))) (fun _ _ _ _ _ => pts_nil) (fun _ _ _ _ _ => (pe_ifExp (pt_tru (K := K) (pv 5)) (pe_op (op_addK (K := K)) (pv 3) (pv 8)) (pe_op (op_addK (K := K)) (pv 8) (pv 3)))))))))))), ?_⟩
  rintro c ⟨v, s, n, hs, hn, rfl⟩
  have hs1 : okB (tkS s 4) := okS hs (by decide)
  obtain ⟨hb1, hb2⟩ := nb_ok hs
  have hs2 : okB (s1 s) := ok_bgI hs1 (by decide) _
  have hs3 : okB (tkS (s1 s) 26) := okS hs2 (by decide)
  refine body_d (Γ0 := [.res v (rB K s), .dat (.int (n : Nat)), .em, .em, .em, .em, .em, .em, .em]) (Γ := [.res v (rB K (namesB s)), .dat (.int (n : Nat)), .dat (.str abc), .dat (.str (baseS s)), .dat (.int (tk (s1 s) 26)), .dat (.int (behind s)), .dat (strL (ones s n)), .em, .em]) (z' := strL (namesL s n)) ?_ rfl (by walk_at "po") rfl
  refine run_seq (Γ1 := [.res v (rB K s), .dat (.int (n : Nat)), .dat (.str abc), .em, .em, .em, .em, .em, .em]) (by walk_at "stx") ?_
  refine run_seq (Γ1 := [.res v (rB K (s1 s)), .dat (.int (n : Nat)), .dat (.str abc), .dat (.str (baseS s)), .em, .em, .em, .em, .em]) ?_ ?_
  · refine run_asg (m := .e) (Γ1 := [.res v (rB K (s1 s)), .dat (.int (n : Nat)), .dat (.str abc), .em, .em, .em, .em, .em, .em]) (d := .str (baseS s)) (ev_join (a := Str.empty) (ys := baseL s) (d := .lst ((baseL s).map .str)) ev_str (EvR.frz ?_) (.inl rfl) ?_)
    · refine EvR.eq (er_lc (m := .e) (js := [7]) (ds := intsD 0 (nb s)) (fun i => [.res v (rB K (bgI (tkS s 4) 26 i)), .dat (.int (n : Nat)), .dat (.str abc), .em, .em, .em, .em, .em, .em]) (fun _ => true) (fun i => .str (letS (tk (bgI (tkS s 4) 26 i) 26))) ?_ (fun i _ k hk => by simp at hk; subst hk; rfl) (fun j hj => hj) (by simp [intsD]; exact small1000 (by omega)) (fun i d hi hd => ?_)) ?_ ?_
      · refine it_rngN (n := nb s) (ea_cons (Γ1 := [.res v (rB K (tkS s 4)), .dat (.int (n : Nat)), .dat (.str abc), .em, .em, .em, .em, .em, .em]) (Ev.eq (ev_call1 (m := .e) (i := 0) (v := v) (R := rB K s) (ds := [intL [0, 0, 2, 7]]) (Γ' := [.res v (rB K s), .dat (.int (n : Nat)), .dat (.str abc), .em, .em, .em, .em, .em, .em]) (ea_cons (Ev.eq (d := .lst [.int 0, .int 0, .int 2, .int 7]) (by walk_at "ev") rfl rfl) ea_nil) rfl rfl (con_ofI hs (by decide) (by decide))) (by rw [hb1]) rfl) ea_nil) (by omega)
      · have hk := tk_lt (n := 26) (ok_bgI hs1 (n := 26) (by decide) i) (by decide)
        have hok := ok_bgI hs1 (n := 26) (by decide) i
        refine ⟨_, _, by walk_at "rg", evt_yes, fun _ => ⟨[.res v (rB K (bgI (tkS s 4) 26 (i + 1))), .dat (.int (n : Nat)), .dat (.str abc), .em, .em, .em, .em, .dat d, .em], ?_, by walk_at "wk"⟩, fun h => nomatch h⟩
        refine Ev.eq (ev_op (x := .str abc) (y := .int (tk (bgI (tkS s 4) 26 i) 26)) (Γ2 := [.res v (rB K (bgI (tkS s 4) 26 (i + 1))), .dat (.int (n : Nat)), .dat (.str abc), .em, .em, .em, .em, .dat d, .em]) (ev_var rfl) (by walk_at "evx") (opd_letter hk)) rfl rfl
      · show Rlst K _ = Rlst K _
        congr 1
        rw [filter_true]
        simp [intsD, baseL, List.map_map]
      · simp [intsD, s1]
    · obtain ⟨j1, j2⟩ := join_ok (ys := baseL s) fun y hy => by
        obtain ⟨i, _, rfl⟩ := List.mem_map.mp hy
        exact ok_letS (tk_lt (ok_bgI hs1 (by decide) i) (by decide))
      have l1 : ∀ {ys : List Str}, (∀ y ∈ ys, y.length = 1) → (ys.map (·.length)).sum = ys.length := by
        intro ys
        induction ys with
        | nil => intro _; rfl
        | cons y ys ih => intro h; simp [ih fun z hz => h z (List.mem_cons_of_mem _ hz), h y (by simp)]; omega
      have l2 : (baseL s).length ≤ 7 := by simpa [baseL] using hb2
      rw [l1 fun y hy => by
        obtain ⟨i, _, rfl⟩ := List.mem_map.mp hy
        rfl]
      show (baseL s).length + (baseL s).length * 0 ≤ 16777216
      omega
  refine run_seq (Γ1 := [.res v (rB K (namesB s)), .dat (.int (n : Nat)), .dat (.str abc), .dat (.str (baseS s)), .dat (.int (tk (s1 s) 26)), .dat (.int (behind s)), .em, .em, .em]) ?_ ?_
  · refine run_asgG (m := .e) (d := .tup [.int (tk (s1 s) 26), .int (behind s)]) (Γ1 := [.res v (rB K (namesB s)), .dat (.int (n : Nat)), .dat (.str abc), .dat (.str (baseS s)), .em, .em, .em, .em, .em]) ?_ (by walk_at "rg")
    refine ev_tup (ea_cons (Γ1 := [.res v (rB K (tkS (s1 s) 26)), .dat (.int (n : Nat)), .dat (.str abc), .dat (.str (baseS s)), .em, .em, .em, .em, .em]) (by walk_at "evx") (ea_cons (Γ1 := [.res v (rB K (namesB s)), .dat (.int (n : Nat)), .dat (.str abc), .dat (.str (baseS s)), .em, .em, .em, .em, .em]) (by walk_at "evx") ea_nil)) (Nat.le_of_lt (L2.small1000 (Nat.le_of_ble_eq_true rfl)))
  refine run_seq (Γ1 := [.res v (rB K (namesB s)), .dat (.int (n : Nat)), .dat (.str abc), .dat (.str (baseS s)), .dat (.int (tk (s1 s) 26)), .dat (.int (behind s)), .dat (strL (ones s n)), .em, .em]) ?_ ?_
  · have hk := tk_lt (n := 26) hs2 (by decide)
    refine run_asg (m := .e) (d := strL (ones s n)) (Γ1 := [.res v (rB K (namesB s)), .dat (.int (n : Nat)), .dat (.str abc), .dat (.str (baseS s)), .dat (.int (tk (s1 s) 26)), .dat (.int (behind s)), .em, .em, .em]) (Ev.eq (ev_lc (m := .e) (js := [7]) (xs := List.range n) (enc := fun i => .int (0 + (i : Nat))) (fun _ => true) (fun i => .str (letS ((tk (s1 s) 26 + 7 * (i : Int)) % 26))) (fun i => [.res v (rB K (namesB s)), .dat (.int (n : Nat)), .dat (.str abc), .dat (.str (baseS s)), .dat (.int (tk (s1 s) 26)), .dat (.int (behind s)), .em, .dat (.int (0 + (i : Nat))), .em]) (fun i => [.res v (rB K (namesB s)), .dat (.int (n : Nat)), .dat (.str abc), .dat (.str (baseS s)), .dat (.int (tk (s1 s) 26)), .dat (.int (behind s)), .em, .dat (.int (0 + (i : Nat))), .em]) ?_ (fun k hk => by simp at hk; subst hk; rfl) (fun j hj => hj) (by simp; exact small1000 hn) (fun i hi => by walk_at "rg") (fun i hi => evt_yes) (fun i hi _ => ⟨[.res v (rB K (namesB s)), .dat (.int (n : Nat)), .dat (.str abc), .dat (.str (baseS s)), .dat (.int (tk (s1 s) 26)), .dat (.int (behind s)), .em, .dat (.int (0 + (i : Nat))), .em], ?_⟩)) ?_ rfl)
    · exact it_rngN (n := n) (ea_cons (ev_var rfl) ea_nil) (by omega)
    · have hi' := List.mem_range.mp hi
      have h3 : (0 : Int) + (i : Nat) = (i : Nat) := by omega
      refine ev_op (x := .str abc) (y := .int ((tk (s1 s) 26 + 7 * (0 + (i : Nat))) % 26)) (ev_var rfl) (by walk_at "ev") ?_
      rw [h3]
      exact opd_letter (by omega)
    · rw [filter_true, strL, ones, List.map_map]
      rfl
  · refine run_ret (m := .e) (Ev.eq (ev_lc (m := .e) (js := [8]) (xs := ones s n) (enc := .str) (fun _ => true) (fun x => .str (if decide (behind s ≠ 0) then baseS s ++ x else x ++ baseS s)) (fun x => [.res v (rB K (namesB s)), .dat (.int (n : Nat)), .dat (.str abc), .dat (.str (baseS s)), .dat (.int (tk (s1 s) 26)), .dat (.int (behind s)), .dat (strL (ones s n)), .em, .dat (.str x)]) (fun x => [.res v (rB K (namesB s)), .dat (.int (n : Nat)), .dat (.str abc), .dat (.str (baseS s)), .dat (.int (tk (s1 s) 26)), .dat (.int (behind s)), .dat (strL (ones s n)), .em, .dat (.str x)]) (it_anyL (ev_var rfl)) (fun k hk => by simp at hk; subst hk; rfl) (fun j hj => hj) (by simp [ones]; exact small1000 hn) (fun x hx => by walk_at "rg") (fun i hi => evt_yes) (fun x hx _ => ⟨[.res v (rB K (namesB s)), .dat (.int (n : Nat)), .dat (.str abc), .dat (.str (baseS s)), .dat (.int (tk (s1 s) 26)), .dat (.int (behind s)), .dat (strL (ones s n)), .em, .dat (.str x)], ?_⟩)) ?_ rfl)
    · have hb := (base_ok hs).2
      have ho := (ones_ok hx).2
      refine ev_if (b := decide (behind s ≠ 0)) (Γ1 := [.res v (rB K (namesB s)), .dat (.int (n : Nat)), .dat (.str abc), .dat (.str (baseS s)), .dat (.int (tk (s1 s) 26)), .dat (.int (behind s)), .dat (strL (ones s n)), .em, .dat (.str x)]) (Γ2 := [.res v (rB K (namesB s)), .dat (.int (n : Nat)), .dat (.str abc), .dat (.str (baseS s)), .dat (.int (tk (s1 s) 26)), .dat (.int (behind s)), .dat (strL (ones s n)), .em, .dat (.str x)]) (evt_truInt (ev_var rfl)) (fun h => ?_) (fun h => ?_)
      · rw [if_pos h]
        exact ev_op (ev_var rfl) (ev_var rfl) (opd_addStr (Nat.le_of_lt (small1000 (by omega))))
      · rw [if_neg (by rw [h]; exact Bool.false_ne_true)]
        exact ev_op (ev_var rfl) (ev_var rfl) (opd_addStr (Nat.le_of_lt (small1000 (by omega))))
    · rw [filter_true, strL, namesL, List.map_map]
      rfl
end


/-! ### the order of words -/
theorem slt_irr (x : Str) : slt x x = false := decide_eq_false (List.lt_irrefl _)
theorem slt_tri (x y : Str) : slt x y = true ∨ x = y ∨ slt y x = true := by
  rcases Std.lt_trichotomy x.cps.toList y.cps.toList with h | h | h
  · exact .inl (decide_eq_true h)
  · exact .inr (.inl (PySem.W.str_of_cps h))
  · exact .inr (.inr (decide_eq_true h))
theorem slt_trans {x y z : Str} (h : slt x y = true) (h' : slt y z = true) : slt x z = true := decide_eq_true (List.lt_trans (of_decide_eq_true h) (of_decide_eq_true h'))
theorem slt_asym {x y : Str} (h : slt x y = true) : slt y x = false := by
  cases e : slt y x with
  | false => rfl
  | true =>
    have := slt_trans h e
    rw [slt_irr] at this
    cases this
/-- a > b -/
def WM (a b : Wo) : Prop := b.1 < a.1 ∨ (a.1 = b.1 ∧ (slt b.2.1 a.2.1 = true ∨ (a.2.1 = b.2.1 ∧ a.2.2 = true ∧ b.2.2 = false)))
theorem wmore_iff (a b : Wo) : wmore a b = true ↔ WM a b := by
  unfold wmore WM
  by_cases h : a.1 = b.1
  · rw [if_pos h]
    by_cases h2 : a.2.1 = b.2.1
    · rw [if_pos h2, h2, slt_irr]
      simp [h]
    · rw [if_neg h2]
      simp [h, h2]
  · rw [if_neg h]
    simp [h]
theorem wm_irr (a : Wo) : ¬ WM a a := by
  rintro (h | ⟨_, h | ⟨_, h, h'⟩⟩)
  · omega
  · rw [slt_irr] at h; cases h
  · rw [h] at h'; cases h'
theorem wm_trans {a b c : Wo} (h : WM a b) (h' : WM b c) : WM a c := by
  rcases h with h | ⟨h, k⟩
  · rcases h' with h' | ⟨h', _⟩
    · exact .inl (by omega)
    · exact .inl (by omega)
  · rcases h' with h' | ⟨h', k'⟩
    · exact .inl (by omega)
    · refine .inr ⟨by omega, ?_⟩
      rcases k with k | ⟨k, k1, k2⟩
      · rcases k' with k' | ⟨k', _⟩
        · exact .inl (slt_trans k' k)
        · exact .inl (by rw [← k']; exact k)
      · rcases k' with k' | ⟨k', k3, k4⟩
        · exact .inl (by rw [k]; exact k')
        · rw [k2] at k3; cases k3
theorem wm_tri (a b : Wo) : WM a b ∨ a = b ∨ WM b a := by
  obtain ⟨a1, a2, a3⟩ := a
  obtain ⟨b1, b2, b3⟩ := b
  unfold WM
  dsimp only
  rcases Int.lt_trichotomy a1 b1 with h | h | h
  · exact .inr (.inr (.inl h))
  · subst h
    rcases slt_tri a2 b2 with h | h | h
    · exact .inr (.inr (.inr ⟨rfl, .inl h⟩))
    · subst h
      cases a3 <;> cases b3 <;> simp
    · exact .inl (.inr ⟨rfl, .inl h⟩)
  · exact .inl (.inl h)
theorem wm_asym {a b : Wo} (h : WM a b) : ¬ WM b a := fun h' => wm_irr a (wm_trans h h')
theorem wmore_f (a b : Wo) : wmore a b = false ↔ ¬ WM a b := by
  rw [← wmore_iff, Bool.not_eq_true]
theorem le_cases {a b : Wo} (h : ¬ WM a b) : a = b ∨ WM b a := (wm_tri a b).elim (fun q => absurd q h) id
/-- the greater -/
def oadd (o : Option Wo) (w : Wo) : Option Wo := match o with
  | none => some w
  | some v => some (if wmore w v then w else v)
theorem oadd_comm (o : Option Wo) (a b : Wo) : oadd (oadd o a) b = oadd (oadd o b) a := by
  have two : ∀ a b : Wo, (if wmore b a then b else a) = (if wmore a b then a else b) := fun a b => by
    rcases wm_tri a b with h | h | h
    · rw [if_neg (by rw [wmore_iff]; exact wm_asym h), if_pos ((wmore_iff _ _).mpr h)]
    · subst h; rfl
    · rw [if_pos ((wmore_iff _ _).mpr h), if_neg (by rw [wmore_iff]; exact wm_asym h)]
  cases o with
  | none => exact congrArg some (two a b)
  | some v =>
    show some (if wmore b (if wmore a v then a else v) then b else (if wmore a v then a else v)) = some (if wmore a (if wmore b v then b else v) then a else (if wmore b v then b else v))
    congr 1
    by_cases h1 : WM a v
    · rw [if_pos ((wmore_iff _ _).mpr h1)]
      by_cases h2 : WM b v
      · rw [if_pos ((wmore_iff _ _).mpr h2)]
        exact two a b
      · rw [if_neg (show ¬ wmore b v = true by rw [wmore_iff]; exact h2), if_pos ((wmore_iff _ _).mpr h1), if_neg]
        rw [wmore_iff]
        intro q
        exact h2 (wm_trans q h1)
    · rw [if_neg (show ¬ wmore a v = true by rw [wmore_iff]; exact h1)]
      by_cases h2 : WM b v
      · rw [if_pos ((wmore_iff _ _).mpr h2), if_neg]
        rw [wmore_iff]
        intro q
        exact h1 (wm_trans q h2)
      · rw [if_neg (show ¬ wmore b v = true by rw [wmore_iff]; exact h2), if_neg (show ¬ wmore a v = true by rw [wmore_iff]; exact h1)]
/-! ### tables -/
abbrev Tb := List Row
def tget (t : Tb) (n : Int) : Option Wo := (t.find? fun e => decide (e.1 = n)).map (·.2)
def tput (t : Tb) (n : Int) (w : Wo) : Tb := if (t.any fun e => decide (e.1 = n)) = true then t.map (fun e => if e.1 = n then (e.1, w) else e) else t ++ [(n, w)]
def tadd (t : Tb) (r : Row) : Tb := match tget t r.1 with
  | none => tput t r.1 r.2
  | some v => if wmore r.2 v then tput t r.1 r.2 else t
def tab (rs : List Row) : Tb := rs.foldl tadd []
def TOk (t : Tb) : Prop := (t.map (·.1)).Nodup
theorem tget_cons (e : Row) (t : Tb) (n : Int) : tget (e :: t) n = if e.1 = n then some e.2 else tget t n := by
  unfold tget
  by_cases h : e.1 = n
  · rw [List.find?_cons_of_pos (by simpa using h), if_pos h]
    rfl
  · rw [List.find?_cons_of_neg (by simpa using h), if_neg h]
theorem tget_none {t : Tb} {n : Int} : tget t n = none ↔ n ∉ t.map (·.1) := by
  induction t with
  | nil => simp [tget]
  | cons e t ih =>
    rw [tget_cons]
    by_cases h : e.1 = n
    · simp [h]
    · rw [if_neg h, ih]
      simp [Ne.symm h]
theorem tget_mem {t : Tb} {n : Int} {w : Wo} (h : tget t n = some w) : (n, w) ∈ t := by
  induction t with
  | nil => simp [tget] at h
  | cons e t ih =>
    rw [tget_cons] at h
    by_cases q : e.1 = n
    · rw [if_pos q] at h
      cases h
      subst q
      exact List.mem_cons_self
    · rw [if_neg q] at h
      exact List.mem_cons_of_mem _ (ih h)
theorem tget_of_mem {t : Tb} (ok : TOk t) {e : Row} (h : e ∈ t) : tget t e.1 = some e.2 := by
  induction t with
  | nil => simp at h
  | cons a t ih =>
    rw [tget_cons]
    have nd := List.nodup_cons.mp ok
    rcases List.mem_cons.mp h with h | h
    · subst h; rw [if_pos rfl]
    · by_cases q : a.1 = e.1
      · exact absurd (show a.1 ∈ t.map (·.1) by rw [q]; exact List.mem_map_of_mem (f := (·.1)) h) nd.1
      · rw [if_neg q]
        exact ih nd.2 h
theorem any_iff {t : Tb} {n : Int} : (t.any fun e => decide (e.1 = n)) = true ↔ n ∈ t.map (·.1) := by
  simp
theorem map_keys (t : Tb) (n : Int) (w : Wo) : (t.map fun e => if e.1 = n then (e.1, w) else e).map (·.1) = t.map (·.1) := by
  rw [List.map_map]
  apply List.map_congr_left
  intro e _
  show (if e.1 = n then (e.1, w) else e).1 = e.1
  split <;> rfl
theorem tput_keys (t : Tb) (n : Int) (w : Wo) : (tput t n w).map (·.1) = if n ∈ t.map (·.1) then t.map (·.1) else t.map (·.1) ++ [n] := by
  unfold tput
  by_cases h : n ∈ t.map (·.1)
  · rw [if_pos (any_iff.mpr h), if_pos h, map_keys]
  · rw [if_neg (fun q => h (any_iff.mp q)), if_neg h, List.map_append]
    rfl
theorem tput_ok {t : Tb} {n : Int} {w : Wo} (h : TOk t) : TOk (tput t n w) := by
  unfold TOk
  rw [tput_keys]
  split
  · exact h
  · rename_i q
    exact List.nodup_append.mpr ⟨h, by simp, fun a ha b hb e => by simp at hb; subst hb e; exact q ha⟩
theorem tget_map (t : Tb) (n m : Int) (w : Wo) : tget (t.map fun e => if e.1 = n then (e.1, w) else e) m = if m = n ∧ n ∈ t.map (·.1) then some w else tget t m := by
  induction t with
  | nil => simp [tget]
  | cons e t ih =>
    rw [List.map_cons, tget_cons, ih, tget_cons]
    by_cases h : e.1 = n
    · rw [if_pos h]
      by_cases q : m = n
      · subst q
        simp [h]
      · have : ¬ n = m := fun z => q z.symm
        simp [h, q, this]
    · rw [if_neg h]
      by_cases q : e.1 = m
      · have : ¬ m = n := fun z => h (q.trans z)
        simp [q, this]
      · by_cases z : m = n
        · subst z
          rw [if_neg q]
          by_cases y : m ∈ t.map (·.1)
          · rw [if_pos ⟨rfl, y⟩, if_pos ⟨rfl, by rw [List.map_cons]; exact List.mem_cons_of_mem _ y⟩]
          · rw [if_neg (fun k => y k.2), if_neg (fun k => by
              have := k.2
              rw [List.map_cons] at this
              rcases List.mem_cons.mp this with e1 | e1
              · exact q e1.symm
              · exact y e1), if_neg q]
        · simp [q, z]
theorem tget_snoc (t : Tb) (n m : Int) (w : Wo) (h : n ∉ t.map (·.1)) : tget (t ++ [(n, w)]) m = if m = n then some w else tget t m := by
  induction t with
  | nil =>
    rw [List.nil_append, tget_cons]
    by_cases q : m = n
    · simp [q]
    · have : ¬ n = m := fun z => q z.symm
      simp [q, this, tget]
  | cons e t ih =>
    simp only [List.map_cons, List.mem_cons, not_or] at h
    rw [List.cons_append, tget_cons, tget_cons, ih h.2]
    by_cases q : e.1 = m
    · have : ¬ m = n := fun z => h.1 (z.symm.trans q.symm)
      simp [q, this]
    · simp [q]
theorem tget_tput (t : Tb) (n m : Int) (w : Wo) : tget (tput t n w) m = if m = n then some w else tget t m := by
  unfold tput
  by_cases h : n ∈ t.map (·.1)
  · rw [if_pos (any_iff.mpr h), tget_map]
    simp only [h, and_true]
  · rw [if_neg (fun q => h (any_iff.mp q)), tget_snoc _ _ _ _ h]
theorem tput_self {t : Tb} {n : Int} {w : Wo} (ok : TOk t) (h : tget t n = some w) : tput t n w = t := by
  have hm := tget_mem h
  unfold tput
  rw [if_pos (any_iff.mpr (List.mem_map_of_mem (f := (·.1)) hm))]
  conv => rhs; rw [← List.map_id t]
  apply List.map_congr_left
  intro e he
  by_cases q : e.1 = n
  · rw [if_pos q]
    have := tget_of_mem ok he
    rw [q, h] at this
    cases this
    rfl
  · rw [if_neg q]
    rfl
theorem tadd_ok {t : Tb} {r : Row} (h : TOk t) : TOk (tadd t r) := by
  unfold tadd
  split
  · exact tput_ok h
  · split
    · exact tput_ok h
    · exact h
theorem tget_tadd (t : Tb) (r : Row) (m : Int) : tget (tadd t r) m = if m = r.1 then oadd (tget t r.1) r.2 else tget t m := by
  unfold tadd
  cases h : tget t r.1 with
  | none => exact tget_tput _ _ _ _
  | some v =>
    show tget (if wmore r.2 v then tput t r.1 r.2 else t) m = if m = r.1 then some (if wmore r.2 v then r.2 else v) else tget t m
    by_cases q : wmore r.2 v = true
    · rw [if_pos q, if_pos q]
      exact tget_tput _ _ _ _
    · rw [if_neg q, if_neg q]
      by_cases z : m = r.1
      · rw [if_pos z, z, h]
      · rw [if_neg z]
def gmS (n : Int) (o : Option Wo) (r : Row) : Option Wo := if r.1 = n then oadd o r.2 else o
def gm (rs : List Row) (n : Int) : Option Wo := rs.foldl (gmS n) none
theorem tabG : ∀ (rs : List Row) (t : Tb) (n : Int), TOk t → TOk (rs.foldl tadd t) ∧ tget (rs.foldl tadd t) n = rs.foldl (gmS n) (tget t n)
  | [], t, n, h => ⟨h, rfl⟩
  | r :: rs, t, n, h => by
    obtain ⟨a, b⟩ := tabG rs (tadd t r) n (tadd_ok h)
    refine ⟨a, ?_⟩
    rw [List.foldl_cons, List.foldl_cons, b, tget_tadd]
    congr 1
    unfold gmS
    by_cases q : n = r.1
    · subst q; simp
    · rw [if_neg q, if_neg (Ne.symm q)]
theorem tab_ok (rs : List Row) : TOk (tab rs) := (tabG rs [] 0 List.nodup_nil).1
theorem tget_tab (rs : List Row) (n : Int) : tget (tab rs) n = gm rs n := (tabG rs [] n List.nodup_nil).2
theorem gmS_comm (n : Int) (o : Option Wo) (r q : Row) : gmS n (gmS n o r) q = gmS n (gmS n o q) r := by
  unfold gmS
  by_cases h : r.1 = n <;> by_cases h' : q.1 = n <;> simp [h, h', oadd_comm]
theorem gm_perm {rs qs : List Row} (p : rs.Perm qs) (n : Int) : gm rs n = gm qs n := p.foldl_eq' (fun x _ y _ z => gmS_comm n z x y) none
theorem gm_app (rs qs : List Row) (n : Int) : gm (rs ++ qs) n = qs.foldl (gmS n) (gm rs n) := by
  unfold gm
  rw [List.foldl_append]
/-- no row of it is more than what the table has -/
theorem gm_up : ∀ (rs : List Row) (o : Option Wo) (n : Int), (∀ v, o = some v → ∃ w, rs.foldl (gmS n) o = some w ∧ ¬ WM v w) ∧ ∀ r ∈ rs, r.1 = n → ∃ w, rs.foldl (gmS n) o = some w ∧ ¬ WM r.2 w
  | [], o, n => ⟨fun v h => ⟨v, h, wm_irr v⟩, fun r h => by simp at h⟩
  | r :: rs, o, n => by
    obtain ⟨a, b⟩ := gm_up rs (gmS n o r) n
    rw [List.foldl_cons]
    refine ⟨fun v h => ?_, fun q hq hn => ?_⟩
    · subst h
      unfold gmS at a ⊢
      by_cases q : r.1 = n
      · rw [if_pos q] at a ⊢
        obtain ⟨w, h1, h2⟩ := a _ rfl
        refine ⟨w, h1, fun z => ?_⟩
        by_cases y : WM r.2 v
        · rw [if_pos ((wmore_iff _ _).mpr y)] at h2
          exact h2 (wm_trans y z)
        · rw [if_neg (by rw [wmore_iff]; exact y)] at h2
          exact h2 z
      · rw [if_neg q] at a ⊢
        exact a v rfl
    · rcases List.mem_cons.mp hq with h | h
      · subst h
        unfold gmS at a ⊢
        rw [if_pos hn] at a ⊢
        cases o with
        | none => exact a q.2 rfl
        | some v =>
          obtain ⟨w, h1, h2⟩ := a _ rfl
          refine ⟨w, h1, fun z => ?_⟩
          by_cases y : WM q.2 v
          · rw [if_pos ((wmore_iff _ _).mpr y)] at h2
            exact h2 z
          · rw [if_neg (by rw [wmore_iff]; exact y)] at h2
            rcases le_cases y with e | e
            · exact h2 (e ▸ z)
            · exact h2 (wm_trans e z)
      · exact b q h hn
theorem gm_absorb {rs : List Row} : ∀ {qs : List Row} (n : Int), (∀ q ∈ qs, q ∈ rs) → qs.foldl (gmS n) (gm rs n) = gm rs n
  | [], n, _ => rfl
  | q :: qs, n, h => by
    rw [List.foldl_cons]
    have e : gmS n (gm rs n) q = gm rs n := by
      unfold gmS
      by_cases hn : q.1 = n
      · rw [if_pos hn]
        obtain ⟨w, h1, h2⟩ := (gm_up rs none n).2 q (h q List.mem_cons_self) hn
        have h1' : gm rs n = some w := h1
        rw [h1']
        show some (if wmore q.2 w then q.2 else w) = some w
        rw [if_neg (by rw [wmore_iff]; exact h2)]
      · rw [if_neg hn]
    rw [e]
    exact gm_absorb n fun z hz => h z (List.mem_cons_of_mem _ hz)
theorem gm_twice {rs qs : List Row} (n : Int) (h : ∀ q ∈ qs, q ∈ rs) : gm (rs ++ qs) n = gm rs n := by rw [gm_app, gm_absorb n h]
/-- the rows of a table are their own table -/
theorem gm_self {t : Tb} (ok : TOk t) (n : Int) : gm t n = tget t n := by
  have key : ∀ (t : Tb) (o : Option Wo), TOk t → (tget t n ≠ none → o = none) → t.foldl (gmS n) o = (tget t n).or o := by
    intro t
    induction t with
    | nil => intro o _ _; simp [tget]
    | cons e t ih =>
      intro o ok ho
      have nd := List.nodup_cons.mp ok
      rw [List.foldl_cons]
      by_cases q : e.1 = n
      · have hn : tget t n = none := tget_none.mpr (q ▸ nd.1)
        rw [tget_cons, if_pos q] at ho ⊢
        have ho' := ho (by simp)
        subst ho'
        rw [ih _ nd.2 (fun z => absurd hn z), hn]
        unfold gmS
        rw [if_pos q]
        rfl
      · rw [tget_cons, if_neg q] at ho ⊢
        unfold gmS
        rw [if_neg q]
        exact ih o nd.2 ho
  unfold gm
  rw [key t none ok (fun _ => rfl)]
  cases tget t n <;> rfl
theorem gm_tab (rs : List Row) (n : Int) : gm (tab rs) n = gm rs n := by rw [gm_self (tab_ok rs), tget_tab]
theorem gm_tabs {t u : Tb} {rs qs : List Row} (ht : ∀ n, gm t n = gm rs n) (hu : ∀ n, gm u n = gm qs n) (n : Int) : gm (t ++ u) n = gm (rs ++ qs) n := by
  rw [gm_app, ht n, ← gm_app, gm_perm List.perm_append_comm, gm_app, hu n, ← gm_app]
  exact gm_perm List.perm_append_comm n
/-! ### tables alike -/
def TEq (t u : Tb) : Prop := ∀ n, tget t n = tget u n
theorem teq_keys {t u : Tb} (ht : TOk t) (hu : TOk u) (h : TEq t u) : (t.map (·.1)).Perm (u.map (·.1)) := by
  refine (List.perm_ext_iff_of_nodup ht hu).mpr fun n => ?_
  have e := h n
  have a := tget_none (t := t) (n := n)
  have b := tget_none (t := u) (n := n)
  rw [e] at a
  constructor
  · intro q
    exact Classical.byContradiction fun z => (a.mp (b.mpr z)) q
  · intro q
    exact Classical.byContradiction fun z => (b.mp (a.mpr z)) q
def encT (t : Tb) : List (Key × D) := t.map fun e => (Sum.inl e.1, wD e.2)
theorem look_enc (t : Tb) (n : Int) : look (encT t) (.inl n) = (tget t n).map wD := by
  induction t with
  | nil => rfl
  | cons e t ih =>
    rw [tget_cons]
    unfold look encT
    rw [List.map_cons]
    by_cases h : e.1 = n
    · rw [List.find?_cons_of_pos (by simp [h]), if_pos h]
      rfl
    · rw [List.find?_cons_of_neg (by simp [h]), if_neg h, ← ih]
      rfl
theorem enc_put (t : Tb) (n : Int) (w : Wo) : encT (tput t n w) = putD (encT t) (.inl n) (wD w) := by
  have e : ((encT t).any fun e => decide (e.1 = (Sum.inl n : Key))) = (t.any fun e => decide (e.1 = n)) := by
    unfold encT
    rw [List.any_map]
    congr 1
    funext e
    simp
  unfold tput putD
  rw [e]
  by_cases h : (t.any fun e => decide (e.1 = n)) = true
  · rw [if_pos h, if_pos h]
    unfold encT
    rw [List.map_map, List.map_map]
    apply List.map_congr_left
    intro e _
    show (Sum.inl (if e.1 = n then (e.1, w) else e).1, wD (if e.1 = n then (e.1, w) else e).2) = if (Sum.inl e.1 : Key) = Sum.inl n then (Sum.inl e.1, wD w) else (Sum.inl e.1, wD e.2)
    by_cases q : e.1 = n
    · rw [if_pos q, if_pos (by rw [q])]
    · rw [if_neg q, if_neg (fun z => q (Sum.inl.inj z))]
  · rw [if_neg h, if_neg h]
    unfold encT
    rw [List.map_append]
    rfl
theorem eqv_word (a b : Wo) : D.eqv (wD a) (wD b) = decide (a = b) := by
  obtain ⟨a1, a2, a3⟩ := a
  obtain ⟨b1, b2, b3⟩ := b
  show PyData.eqv (.tuple [.int a1, .str a2, .bool a3]) (.tuple [.int b1, .str b2, .bool b3]) = _
  simp [PyData.eqv, PyData.eqvAll, Bool.beq_eq_decide_eq, Bool.decide_and]
theorem nodup_len : ∀ {l m : List Int}, l.Nodup → (∀ x ∈ l, x ∈ m) → l.length ≤ m.length
  | [], m, _, _ => Nat.zero_le _
  | a :: l, m, h, hs => by
    have nd := List.nodup_cons.mp h
    have ha := hs a List.mem_cons_self
    have := nodup_len (l := l) (m := m.erase a) nd.2 fun x hx => (List.mem_erase_of_ne (show x ≠ a from fun e => by subst e; exact nd.1 hx)).mpr (hs x (List.mem_cons_of_mem _ hx))
    rw [List.length_erase_of_mem ha] at this
    have := List.length_pos_of_mem ha
    rw [List.length_cons]
    omega
theorem eqDic_enc {t u : Tb} (ht : TOk t) (hu : TOk u) : eqDic (encT t) (encT u) = true ↔ TEq t u := by
  have len : ∀ t : Tb, (encT t).length = t.length := fun t => by simp [encT]
  have all : ((encT t).all fun e => match look (encT u) e.1 with | some d => D.eqv e.2 d | none => false) = true ↔ ∀ e ∈ t, tget u e.1 = some e.2 := by
    unfold encT
    rw [List.all_eq_true]
    constructor
    · intro h e he
      have := h (Sum.inl e.1, wD e.2) (List.mem_map_of_mem (f := fun e : Row => ((Sum.inl e.1 : Key), wD e.2)) he)
      have l := look_enc u e.1
      unfold encT at l
      simp only [l] at this
      cases q : tget u e.1 with
      | none => rw [q] at this; simp at this
      | some w =>
        rw [q] at this
        simp only [Option.map_some, eqv_word, decide_eq_true_eq] at this
        rw [this]
    · intro h e he
      obtain ⟨a, ha, rfl⟩ := List.mem_map.mp he
      have l := look_enc u a.1
      unfold encT at l
      simp only [l, h a ha, Option.map_some, eqv_word, decide_true]
  unfold eqDic
  rw [Bool.and_eq_true]
  refine Iff.trans (and_congr Iff.rfl all) ?_
  rw [len, len, beq_iff_eq]
  constructor
  · rintro ⟨hl, h⟩ n
    cases q : tget t n with
    | some w => exact (h _ (tget_mem q)).symm
    | none =>
      cases z : tget u n with
      | none => rfl
      | some w =>
        exfalso
        have sub : t.map (·.1) ⊆ (u.map (·.1)).erase n := by
          intro m hm
          obtain ⟨e, he, rfl⟩ := List.mem_map.mp hm
          refine (List.mem_erase_of_ne ?_).mpr (List.mem_map_of_mem (f := (·.1)) (tget_mem (h e he)))
          intro ee
          exact (tget_none.mp q) (ee ▸ hm)
        have hn : n ∈ u.map (·.1) := List.mem_map_of_mem (f := (·.1)) (tget_mem z)
        have l1 : (t.map (·.1)).length ≤ ((u.map (·.1)).erase n).length := nodup_len ht sub
        rw [List.length_erase_of_mem hn, List.length_map, List.length_map] at l1
        have := List.length_pos_of_mem hn
        rw [List.length_map] at this
        omega
  · intro h
    refine ⟨by have := (teq_keys ht hu h).length_eq; simpa using this, fun e he => ?_⟩
    rw [← h]
    exact tget_of_mem ht he
/-! ### as data -/
def wsOk (t : List Row) : Prop := ∀ r ∈ t, wOk r.2
theorem word_shaped {a : Wo} (h : wOk a) : (wD a).shaped = true := by
  show (true && (PyData.canLayAll0 [.int a.1, .str a.2.1, .bool a.2.2] && decide (_ ≤ 64))) = true
  simp only [PyData.canLayAll0, PyData.canLay0]
  rw [show PyData.strOk a.2.1 = true from h]
  rfl
theorem enc_shaped {t : Tb} (h : wsOk t) : shapedV (encT t) := fun e he => by
  obtain ⟨r, hr, rfl⟩ := List.mem_map.mp he
  exact word_shaped (h r hr)
theorem tput_ws {t : Tb} {n : Int} {w : Wo} (h : wsOk t) (hw : wOk w) : wsOk (tput t n w) := fun r hr => by
  unfold tput at hr
  split at hr
  · obtain ⟨e, he, rfl⟩ := List.mem_map.mp hr
    split
    · exact hw
    · exact h e he
  · rcases List.mem_append.mp hr with q | q
    · exact h r q
    · rw [List.mem_singleton.mp q]; exact hw
theorem tadd_ws {t : Tb} {r : Row} (h : wsOk t) (hw : wOk r.2) : wsOk (tadd t r) := by
  unfold tadd
  split
  · exact tput_ws h hw
  · split
    · exact tput_ws h hw
    · exact h
theorem foldl_ws : ∀ {rs : List Row} {t : Tb}, wsOk t → wsOk rs → wsOk (rs.foldl tadd t)
  | [], t, h, _ => h
  | r :: rs, t, h, h' => by
    rw [List.foldl_cons]
    exact foldl_ws (rs := rs) (t := tadd t r) (tadd_ws h (h' r List.mem_cons_self)) fun q hq => h' q (List.mem_cons_of_mem _ hq)
theorem tab_ws {rs : List Row} (h : wsOk rs) : wsOk (tab rs) := foldl_ws (fun _ h => by simp at h) h
theorem tadd_len (t : Tb) (r : Row) : (tadd t r).length ≤ t.length + 1 := by
  have p : ∀ n w, (tput t n w).length ≤ t.length + 1 := fun n w => by
    unfold tput
    split
    · rw [List.length_map]; omega
    · rw [List.length_append]; exact Nat.le_refl _
  unfold tadd
  split
  · exact p _ _
  · split
    · exact p _ _
    · omega
theorem foldl_len : ∀ (rs : List Row) (t : Tb), (rs.foldl tadd t).length ≤ t.length + rs.length
  | [], t => Nat.le_refl _
  | r :: rs, t => by
    have := foldl_len rs (tadd t r)
    have := tadd_len t r
    rw [List.foldl_cons, List.length_cons]
    omega
theorem tab_len (rs : List Row) : (tab rs).length ≤ rs.length := by
  have := foldl_len rs []
  show (rs.foldl tadd []).length ≤ rs.length
  simpa using this
/-- < on the data of words -/
theorem dataLt_word (a b : Wo) : PySem.W.dataLt (wD a).py (wD b).py = wmore b a := by
  obtain ⟨a1, a2, a3⟩ := a
  obtain ⟨b1, b2, b3⟩ := b
  show PySem.W.dataLt (.tuple [.int a1, .str a2, .bool a3]) (.tuple [.int b1, .str b2, .bool b3]) = _
  rw [PySem.W.dataLt_tuple, PySem.W.dataLt_cons rfl, PySem.W.dataLt_cons rfl, PySem.W.dataLt_cons rfl, PySem.W.dataLt_int, PySem.W.dataLt_str, PySem.W.dataLt_bool]
  unfold wmore slt
  dsimp only
  have e1 : PyData.eqv (.int a1) (.int b1) = decide (a1 = b1) := eqv_int a1 b1
  have e2 : PyData.eqv (.str a2) (.str b2) = decide (a2 = b2) := eqv_str a2 b2
  have e3 : PyData.eqv (.bool a3) (.bool b3) = decide (a3 = b3) := eqv_bl a3 b3
  rw [e1, e2, e3]
  by_cases h1 : a1 = b1
  · rw [if_pos (decide_eq_true h1), if_pos h1.symm]
    by_cases h2 : a2 = b2
    · rw [if_pos (decide_eq_true h2), if_pos h2.symm]
      cases a3 <;> cases b3 <;> rfl
    · rw [if_neg (by simpa using h2), if_neg (fun z => h2 z.symm)]
  · rw [if_neg (by simpa using h1), if_neg (fun z => h1 z.symm)]
theorem cmpb_word (a b : Wo) : Cmpb (wD a).py (wD b).py := ⟨rfl, (fun z => nomatch z), (by show PyData.depth (.tuple [.int a.1, .str a.2.1, .bool a.2.2]) ≤ 60; simp [PyData.depth, PyData.depthAll])⟩
theorem cmp2_word (a b : Wo) : Cmp2 (wD a).py (wD b).py := by
  refine ⟨⟨fun x hx y hy => ?_, fun x hx => ?_⟩, ?_⟩
  · simp only [List.mem_cons, List.not_mem_nil, or_false] at hx hy
    rcases hx with rfl | rfl <;> rcases hy with rfl | rfl <;> rfl
  · simp only [List.mem_cons, List.not_mem_nil, or_false] at hx
    rcases hx with rfl | rfl <;> exact fun z => nomatch z
  · show PyData.depthAll [.tuple [.int a.1, .str a.2.1, .bool a.2.2], .tuple [.int b.1, .str b.2.1, .bool b.2.2]] ≤ 60
    simp [PyData.depth, PyData.depthAll]


theorem tab_take {rs : List Row} {i : Nat} (h : i < rs.length) : tab (rs.take (i + 1)) = tadd (tab (rs.take i)) rs[i] := by
  unfold tab
  rw [List.take_succ_eq_append_getElem h, List.foldl_append]
  rfl
abbrev s_law_table : Stmt := topS 10
theorem sc_law_table : FnScope ["_law_words_here", "_law_found", "_law_number", "_law_seen", "_law_many", "_law_name", "_law_word"] ["_law_words_here"] (defScope s_law_table) := ⟨rfl, rfl, rfl, by decide +kernel, rfl, by decide +kernel, by decide +kernel⟩
def C_table (K : PySem.W.Frag) : Pr → Prop := fun c => ∃ rs, wsOk rs ∧ rs.length ≤ 1000 ∧ c = .d [.dat (rowsD rs)] (D.dict (encT (tab rs))) [.dat (rowsD rs)]
theorem con_table {K : PySem.W.Frag} {rs : List Row} (h : wsOk rs) (hl : rs.length ≤ 1000) : Con K (spC K (C_table K)) [.dat (rowsD rs)] (D.dict (encT (tab rs))) [.dat (rowsD rs)] := con_of ⟨rs, h, hl, rfl⟩
theorem rD_get {rs : List Row} {i : Nat} {d : D} (h : (rs.map rD)[i]? = some d) : ∃ hi : i < rs.length, d = rD rs[i] := by
  have hi : i < rs.length := by simpa using (List.getElem?_eq_some_iff.mp h).1
  refine ⟨hi, ?_⟩
  rw [List.getElem?_map, List.getElem?_eq_getElem hi] at h
  exact (Option.some.inj h).symm
section
variable {P : Program} {w : PySem.World} {K : PySem.W.Frag} {mg : Str → Option Value} {base : Heap} {f_law_more f_greatest_words : Addr} {fd_law_more fd_greatest_words : FuncData}
theorem ok_table {f : Addr} {fd : FuncData} (F : Fun K "_law_table" "_law_table" s_law_table f fd) (G_law_more : FnOk P w K mg base CX0 1 f_law_more fd_law_more ["_law_one", "_law_two"] (spC K (C_more K))) (g_law_more : mg "_law_more" = some (.ref f_law_more)) (k_law_more : PySem.W.keepIn K (.ref f_law_more) = true) (b_law_more : Binds K fd_law_more ["_law_one", "_law_two"] []) :
    FnOk P w K mg base CX0 2 f fd ["_law_words_here"] (spC K (C_table K)) := by
  refine okC F sc_law_table (fun c h => by obtain ⟨rs, _, _, rfl⟩ := h; rfl) fun cdv A outer s H vs Q E hr => ⟨_, ((pss_cons (ps_set (i := 1) sc_law_table.nd rfl (.inl rfl) pe_dnewK)
      (pss_cons (ps_for PassesOwn.never rfl (pi_any (pv 0)) (pg_tup rfl (pgs_cons (pg_name (i := 2) sc_law_table.nd rfl (.inl rfl)) (pgs_cons (pg_name (i := 3) sc_law_table.nd rfl (.inl rfl)) (pgs_cons (pg_name (i := 4) sc_law_table.nd rfl (.inl rfl)) (pgs_cons (pg_name (i := 5) sc_law_table.nd rfl (.inl rfl)) pgs_nil)))))
      (pss_cons (ps_set (i := 6) sc_law_table.nd rfl (.inl rfl) (pe_tup (pa_cons (pv 4) (pa_cons (pv 5) (pa_cons (pv 3) pa_nil)))))
      (pss_one (ps_if (PW.pt (pw_or (pt_cmp (pc_dnotin (hu_of hr) (pv 2) (pv 1)) rfl) (pw_or1 (pt_val (pe_call G_law_more (hr.mono (by decide)) rfl g_law_more k_law_more b_law_more .nil pass0 (pa_cons (pv 6) (pa_cons (pe_dget (hu_of hr) (pv 1) (pv 2) (fun _ _ => rfl)) pa_nil)))))))
      (pss_one (ps_dput (hu_of hr) (pv 1) (pv 2) (pv 6) rfl))
      pss_nil))))
      (pss_one (ps_ret (pv 1)))))), ?_⟩
  rintro c ⟨rs, hw, hl, rfl⟩
  refine body_d (Γ0 := [.dat (rowsD rs), .em, .em, .em, .em, .em, .em]) (Γ := [.dat (rowsD rs), .dat (D.dict (encT (tab rs))), .em, .em, .em, .em, .em]) (z' := D.dict (encT (tab rs))) ?_ rfl (by walk_at "po") rfl
  refine run_asgR (R := Rdic K []) (Γ1 := [.dat (rowsD rs), .em, .em, .em, .em, .em, .em]) er_dnew (by simp) fun vf => ?_
  refine run_seq (Γ1 := [.dat (rowsD rs), .res vf (Rdic K (encT (tab rs))), .em, .em, .em, .em, .em]) ?_ (Run.frzD (i := 1) rfl (run_ret (m := .e) (ev_var rfl)))
  refine run_for (m := .e) (ds := rs.map rD) (n := rs.length) (Γ1 := [.dat (rowsD rs), .res vf (Rdic K []), .em, .em, .em, .em, .em]) (fun i => [.dat (rowsD rs), .res vf (Rdic K (encT (tab (rs.take i)))), .em, .em, .em, .em, .em]) (it_anyL (ev_var rfl)) rfl (by simp) (fun i d hi hd => ?_) (.inl ⟨by simp, by rw [List.take_length]⟩)
  obtain ⟨_, rfl⟩ := rD_get hd
  rw [tab_take hi]
  have hok := tab_ok (rs.take i)
  have hwt : wsOk (tab (rs.take i)) := tab_ws fun r hr => hw r (List.mem_of_mem_take hr)
  have hlt : (tab (rs.take i)).length ≤ 1000 := Nat.le_trans (tab_len _) (by rw [List.length_take]; omega)
  have hwr : wOk rs[i].2 := hw _ (List.getElem_mem hi)
  generalize tab (rs.take i) = t at hok hwt hlt ⊢
  generalize rs[i] = r at hwr ⊢
  have hz : (encT t).length < sizeLine := by unfold encT; rw [List.length_map]; exact small1000 hlt
  refine turn_g (Γ1 := [.dat (rowsD rs), .res vf (Rdic K (encT t)), .dat (.int r.1), .dat (.bl r.2.2.2), .dat (.int r.2.1), .dat (.str r.2.2.1), .em]) (by walk_at "rg") (Run.lp (Run.nxWeak (Γ1 := [.dat (rowsD rs), .res vf (Rdic K (encT (tadd t r))), .dat (.int r.1), .dat (.bl r.2.2.2), .dat (.int r.2.1), .dat (.str r.2.2.1), .dat (wD r.2)]) ?_ (by walk_at "wk")))
  refine run_seq (Γ1 := [.dat (rowsD rs), .res vf (Rdic K (encT t)), .dat (.int r.1), .dat (.bl r.2.2.2), .dat (.int r.2.1), .dat (.str r.2.2.1), .dat (wD r.2)]) (by walk_at "stx") ?_
  have lk := look_enc t r.1
  have dn := ev_dnotinP (K := K) (m := .e) (Γ := [.dat (rowsD rs), .res vf (Rdic K (encT t)), .dat (.int r.1), .dat (.bl r.2.2.2), .dat (.int r.2.1), .dat (.str r.2.2.1), .dat (wD r.2)]) (Γ1 := [.dat (rowsD rs), .res vf (Rdic K (encT t)), .dat (.int r.1), .dat (.bl r.2.2.2), .dat (.int r.2.1), .dat (.str r.2.2.1), .dat (wD r.2)]) (td := tVar 1) (ty := tVar 2) (kd := .int r.1) (k := .inl r.1) (ev_var rfl) (refE_var rfl) (plc_slot (k := 1) rfl) kInt
  have put := run_dput (K := K) (m := .e) (Γ := [.dat (rowsD rs), .res vf (Rdic K (encT t)), .dat (.int r.1), .dat (.bl r.2.2.2), .dat (.int r.2.1), .dat (.str r.2.2.1), .dat (wD r.2)]) (Γ1 := [.dat (rowsD rs), .res vf (Rdic K (encT t)), .dat (.int r.1), .dat (.bl r.2.2.2), .dat (.int r.2.1), .dat (.str r.2.2.1), .dat (wD r.2)]) (Γ2 := [.dat (rowsD rs), .res vf (Rdic K (encT t)), .dat (.int r.1), .dat (.bl r.2.2.2), .dat (.int r.2.1), .dat (.str r.2.2.1), .dat (wD r.2)]) (td := tVar 1) (ty := tVar 2) (tv := tVar 6) (kd := .int r.1) (k := .inl r.1) (d := wD r.2) (ev_var rfl) (refE_var rfl) (ev_var rfl) (plc_slot (k := 1) rfl) kInt hz
  rw [← enc_put] at put
  cases hg : tget t r.1 with
  | none =>
    rw [hg] at lk
    refine run_if (m := .e) (b := true) (Γ1 := [.dat (rowsD rs), .res vf (Rdic K (encT t)), .dat (.int r.1), .dat (.bl r.2.2.2), .dat (.int r.2.1), .dat (.str r.2.2.1), .dat (wD r.2)]) ?_ (fun _ => ?_) (fun h => nomatch h)
    · refine EvT.is (evt_or (a := true) (b := true) (Γ1 := [.dat (rowsD rs), .res vf (Rdic K (encT t)), .dat (.int r.1), .dat (.bl r.2.2.2), .dat (.int r.2.1), .dat (.str r.2.2.1), .dat (wD r.2)]) ?_ (fun h => nomatch h) (fun _ => rfl)) rfl
      refine evt_B (Ev.is dn ?_)
      rw [lk]
      rfl
    · rw [show tadd t r = tput t r.1 r.2 from by unfold tadd; rw [hg]]
      exact put
  | some v =>
    rw [hg] at lk
    have hv : wOk v := hwt (r.1, v) (tget_mem hg)
    refine run_if (m := .e) (b := wmore r.2 v) (Γ1 := [.dat (rowsD rs), .res vf (Rdic K (encT t)), .dat (.int r.1), .dat (.bl r.2.2.2), .dat (.int r.2.1), .dat (.str r.2.2.1), .dat (wD r.2)]) ?_ (fun hb => ?_) (fun hb => ?_)
    · refine EvT.is (evt_or (a := false) (b := wmore r.2 v) (Γ1 := [.dat (rowsD rs), .res vf (Rdic K (encT t)), .dat (.int r.1), .dat (.bl r.2.2.2), .dat (.int r.2.1), .dat (.str r.2.2.1), .dat (wD r.2)]) ?_ (fun _ => ?_) (fun h => nomatch h)) (by simp)
      · refine evt_B (Ev.is dn ?_)
        rw [lk]
        rfl
      · refine evt_B (ev_call0 (m := .e) (ds := [wD r.2, wD v]) (ea_cons (ev_var rfl) (ea_cons ?_ ea_nil)) (con_more hwr hv))
        exact ev_dgetP (k := .inl r.1) (kd := .int r.1) (es := encT t) (refE_var (k := 1) (R := Rdic K (encT t)) rfl) (ev_var rfl) (plc_slot (k := 1) rfl) kInt lk
    · rw [show tadd t r = tput t r.1 r.2 from by unfold tadd; rw [hg]; exact if_pos hb]
      exact put
    · rw [show tadd t r = t from by unfold tadd; rw [hg]; exact if_neg (by rw [hb]; exact Bool.false_ne_true)]
      exact run_next
end


/-! ### the class -/
abbrev s_LW (i : Nat) : Stmt := inClass (topS 1) i
abbrev s_LastWords_init : Stmt := s_LW 0
abbrev s_LastWords_say : Stmt := s_LW 1
abbrev s_LastWords_last : Stmt := s_LW 2
abbrev s_LastWords_seen : Stmt := s_LW 3
abbrev s_LastWords_numbers : Stmt := s_LW 4
abbrev s_LastWords_said : Stmt := s_LW 5
abbrev s_LastWords_or : Stmt := s_LW 6
abbrev s_LastWords_eq : Stmt := s_LW 7
abbrev s_greatest_words : Stmt := topS 2
theorem sc_greatest_words : FnScope ["words", "found", "number", "seen", "count", "device", "word"] ["words"] (defScope s_greatest_words) := ⟨rfl, rfl, rfl, by decide +kernel, rfl, by decide +kernel, by decide +kernel⟩
theorem sc_LastWords_init : FnScope ["self", "words"] ((["self"] : List Str) ++ (["words"] : List Str)) (defScope s_LastWords_init) := ⟨rfl, rfl, rfl, by decide +kernel, rfl, by decide +kernel, by decide +kernel⟩
theorem sc_LastWords_say : FnScope ["self", "number", "seen", "count", "device", "word", "last"] ["self", "number", "seen", "count", "device"] (defScope s_LastWords_say) := ⟨rfl, rfl, rfl, by decide +kernel, rfl, by decide +kernel, by decide +kernel⟩
theorem sc_LastWords_last : FnScope ["self", "number"] ["self", "number"] (defScope s_LastWords_last) := ⟨rfl, rfl, rfl, by decide +kernel, rfl, by decide +kernel, by decide +kernel⟩
theorem sc_LastWords_seen : FnScope ["self", "number", "word"] ["self", "number"] (defScope s_LastWords_seen) := ⟨rfl, rfl, rfl, by decide +kernel, rfl, by decide +kernel, by decide +kernel⟩
theorem sc_LastWords_numbers : FnScope ["self"] ["self"] (defScope s_LastWords_numbers) := ⟨rfl, rfl, rfl, by decide +kernel, rfl, by decide +kernel, by decide +kernel⟩
theorem sc_LastWords_eq : FnScope ["self", "other"] ["self", "other"] (defScope s_LastWords_eq) := ⟨rfl, rfl, rfl, by decide +kernel, rfl, by decide +kernel, by decide +kernel⟩
def oD : Option Wo → D
  | none => .non
  | some w => wD w
theorem look_oD (t : Tb) (n : Int) : (look (encT t) (.inl n)).getD .non = oD (tget t n) := by
  rw [look_enc]
  cases tget t n <;> rfl
abbrev Rob (K : PySem.W.Frag) (C : Addr) (t : Tb) (q : V) : Res := Robj K C ["_last"] [.res q (Rdic K (encT t))]
def Rlw (K : PySem.W.Frag) (C : Addr) (t : Tb) : Res := Rex fun q => Rob K C t q
theorem Rlw_of {K : PySem.W.Frag} {C : Addr} {t : Tb} {q v : V} : ∀ I H L, (Rob K C t q).P I v H L → (Rlw K C t).P I v H L := fun _ _ _ h => ⟨q, h⟩
structure LW (K : PySem.W.Frag) (C : Addr) : Prop where
  cl : Cls K C
  na : NoAttr K C "_last"
theorem ob_lw {K : PySem.W.Frag} {C : Addr} {t : Tb} {mm : Str} (h : mm ∉ (["_last"] : List Str)) : ObjAt K C mm (Rlw K C t) := objAt_ex fun q => objAt_obj h
def C_greatest (K : PySem.W.Frag) : Pr → Prop := fun c => ∃ rs, wsOk rs ∧ rs.length ≤ 1000 ∧ c = .r [.dat (.tup (rs.map rD))] (Rdic K (encT (tab rs))) [.dat (.tup (rs.map rD))]
def C_init (K : PySem.W.Frag) (C : Addr) : Pr → Prop := fun c => ∃ v rs, wsOk rs ∧ rs.length ≤ 1000 ∧ c = .d [.res v (Robj K C [] []), .dat (.tup (rs.map rD))] .non [.res v (Rlw K C (tab rs)), .dat (.tup (rs.map rD))]
def C_last (K : PySem.W.Frag) (C : Addr) : Pr → Prop := fun c => ∃ v t n, c = .d [.res v (Rlw K C t), .dat (.int n)] (oD (tget t n)) [.res v (Rlw K C t), .dat (.int n)]
def seenB : Option Wo → Bool
  | none => false
  | some w => w.2.2
def C_seen (K : PySem.W.Frag) (C : Addr) : Pr → Prop := fun c => ∃ v t n, c = .d [.res v (Rlw K C t), .dat (.int n)] (.bl (seenB (tget t n))) [.res v (Rlw K C t), .dat (.int n)]
def numsL (t : Tb) : List Int := isort (t.map (·.1))
def C_numbers (K : PySem.W.Frag) (C : Addr) : Pr → Prop := fun c => ∃ v t, t.length < 64 ∧ (c = .d [.res v (Rlw K C t)] (intL (numsL t)) [.res v (Rlw K C t)] ∨ c = .r [.res v (Rlw K C t)] (Rlst K ((numsL t).map .int)) [.res v (Rlw K C t)])
def newB (t : Tb) (r : Row) : Bool := match tget t r.1 with
  | none => true
  | some v => wmore r.2 v
def C_say (K : PySem.W.Frag) (C : Addr) : Pr → Prop := fun c => ∃ v t r, t.length ≤ 1000 ∧ c = .d [.res v (Rlw K C t), .dat (.int r.1), .dat (.bl r.2.2.2), .dat (.int r.2.1), .dat (.str r.2.2.1)] (.bl (newB t r)) [.res v (Rlw K C (tadd t r)), .dat (.int r.1), .dat (.bl r.2.2.2), .dat (.int r.2.1), .dat (.str r.2.2.1)]
def C_eq (K : PySem.W.Frag) (C : Addr) : Pr → Prop := fun c => (∃ v u t t', wsOk t ∧ wsOk t' ∧ c = .d [.res v (Rlw K C t), .res u (Rlw K C t')] (.bl (eqDic (encT t) (encT t'))) [.res v (Rlw K C t), .res u (Rlw K C t')]) ∨
  ∃ v t ds, c = .d [.res v (Rlw K C t), .dat (.lst ds)] (.bl false) [.res v (Rlw K C t), .dat (.lst ds)]
section
variable {P : Program} {w : PySem.World} {K : PySem.W.Frag} {mg : Str → Option Value} {base : Heap} {C : Addr} {f_greatest_words : Addr} {fd_greatest_words : FuncData}
theorem ok_greatest {f : Addr} {fd : FuncData} (F : Fun K "greatest_words" "greatest_words" s_greatest_words f fd) (m_max : mg "max" = none) : FnOk P w K mg base CX0 1 f fd ["words"] (spC K (C_greatest K)) := by
  refine okC F sc_greatest_words (fun c h => by obtain ⟨rs, _, _, rfl⟩ := h; rfl) fun cdv A outer s H vs Q E hr => ⟨_, ((pss_cons (ps_set (i := 1) sc_greatest_words.nd rfl (.inl rfl) pe_dnewK)
      (pss_cons (ps_for PassesOwn.never rfl (pi_any (pv 0)) (pg_tup rfl (pgs_cons (pg_name (i := 2) sc_greatest_words.nd rfl (.inl rfl)) (pgs_cons (pg_name (i := 3) sc_greatest_words.nd rfl (.inl rfl)) (pgs_cons (pg_name (i := 4) sc_greatest_words.nd rfl (.inl rfl)) (pgs_cons (pg_name (i := 5) sc_greatest_words.nd rfl (.inl rfl)) pgs_nil)))))
      (pss_cons (ps_set (i := 6) sc_greatest_words.nd rfl (.inl rfl) (pe_tup (pa_cons (pv 4) (pa_cons (pv 5) (pa_cons (pv 3) pa_nil)))))
      (pss_one (ps_dput (hu_of hr) (pv 1) (pv 2) (pe_callB (call_max2D rfl (hu64 hr)) rfl m_max (by decide +kernel) (pa_cons (pv 6) (pa_cons (pe_dget2 (hu_of hr) (pv 1) (pv 2) (pv 6) ⟨rfl, rfl, rfl, rfl⟩) pa_nil))) rfl))))
      (pss_one (ps_ret (pv 1)))))), ?_⟩
  rintro c ⟨rs, hw, hl, rfl⟩
  refine body_r (Γ0 := [.dat (.tup (rs.map rD)), .em, .em, .em, .em, .em, .em]) (Γ := [.dat (.tup (rs.map rD)), .em, .em, .em, .em, .em, .em]) (R := Rdic K (encT (tab rs))) ?_ rfl (by walk_at "po")
  refine run_asgR (R := Rdic K []) (Γ1 := [.dat (.tup (rs.map rD)), .em, .em, .em, .em, .em, .em]) er_dnew (by simp) fun vf => ?_
  refine run_seq (Γ1 := [.dat (.tup (rs.map rD)), .res vf (Rdic K (encT (tab rs))), .em, .em, .em, .em, .em]) ?_ (run_retRes (k := 1) rfl)
  refine run_for (m := .e) (ds := rs.map rD) (n := rs.length) (Γ1 := [.dat (.tup (rs.map rD)), .res vf (Rdic K []), .em, .em, .em, .em, .em]) (fun i => [.dat (.tup (rs.map rD)), .res vf (Rdic K (encT (tab (rs.take i)))), .em, .em, .em, .em, .em]) (it_anyT (ev_var rfl)) rfl (by simp) (fun i d hi hd => ?_) (.inl ⟨by simp, by rw [List.take_length]⟩)
  obtain ⟨_, rfl⟩ := rD_get hd
  rw [tab_take hi]
  have hok := tab_ok (rs.take i)
  have hlt : (tab (rs.take i)).length ≤ 1000 := Nat.le_trans (tab_len _) (by rw [List.length_take]; omega)
  generalize tab (rs.take i) = t at hok hlt ⊢
  generalize rs[i] = r
  have hz : (encT t).length < sizeLine := by unfold encT; rw [List.length_map]; exact small1000 hlt
  refine turn_g (Γ1 := [.dat (.tup (rs.map rD)), .res vf (Rdic K (encT t)), .dat (.int r.1), .dat (.bl r.2.2.2), .dat (.int r.2.1), .dat (.str r.2.2.1), .em]) (by walk_at "rg") (Run.lp (Run.nxWeak (Γ1 := [.dat (.tup (rs.map rD)), .res vf (Rdic K (encT (tadd t r))), .dat (.int r.1), .dat (.bl r.2.2.2), .dat (.int r.2.1), .dat (.str r.2.2.1), .dat (wD r.2)]) ?_ (by walk_at "wk")))
  refine run_seq (Γ1 := [.dat (.tup (rs.map rD)), .res vf (Rdic K (encT t)), .dat (.int r.1), .dat (.bl r.2.2.2), .dat (.int r.2.1), .dat (.str r.2.2.1), .dat (wD r.2)]) (by walk_at "stx") ?_
  have lk := look_enc t r.1
  -- the word that is laid
  let old : Wo := (tget t r.1).getD r.2
  let new : Wo := if wmore old r.2 then old else r.2
  have he : Ev K .e (tCB (rMax2D K) (tCons (tVar 6) (tCons (tDGet2 (tVar 1) (tVar 2) (tVar 6)) tNil))) [.dat (.tup (rs.map rD)), .res vf (Rdic K (encT t)), .dat (.int r.1), .dat (.bl r.2.2.2), .dat (.int r.2.1), .dat (.str r.2.2.1), .dat (wD r.2)] (wD new) [.dat (.tup (rs.map rD)), .res vf (Rdic K (encT t)), .dat (.int r.1), .dat (.bl r.2.2.2), .dat (.int r.2.1), .dat (.str r.2.2.1), .dat (wD r.2)] := by
    refine Ev.is (ev_cb (ds := [wD r.2, wD old]) (ea_cons (ev_var rfl) (ea_cons (Ev.is (ev_dget2P (k := .inl r.1) (kd := .int r.1) (e0 := wD r.2) (es := encT t) (es' := encT t) (refE_var (k := 1) rfl) (plc_slot (k := 1) rfl) (ev_var rfl) (ev_var rfl) (plc_slot (k := 1) rfl) kInt) ?_) ea_nil)) (cd_max2D rfl rfl (cmp2_word _ _))) ?_
    · rw [lk]
      show ((tget t r.1).map wD).getD (wD r.2) = wD ((tget t r.1).getD r.2)
      cases tget t r.1 <;> rfl
    · rw [dataLt_word]
      show (if wmore old r.2 then wD old else wD r.2) = wD (if wmore old r.2 then old else r.2)
      split <;> rfl
  have put := run_dput (K := K) (m := .e) (td := tVar 1) (ty := tVar 2) (kd := .int r.1) (k := .inl r.1) he (refE_var (k := 1) (R := Rdic K (encT t)) rfl) (ev_var rfl) (plc_slot (k := 1) (R := Rdic K (encT t)) rfl) kInt hz
  rw [← enc_put] at put
  have e : tput t r.1 new = tadd t r := by
    unfold tadd
    show tput t r.1 (if wmore ((tget t r.1).getD r.2) r.2 then (tget t r.1).getD r.2 else r.2) = _
    cases hg : tget t r.1 with
    | none =>
      show tput t r.1 (if wmore r.2 r.2 then r.2 else r.2) = tput t r.1 r.2
      split <;> rfl
    | some v =>
      show tput t r.1 (if wmore v r.2 then v else r.2) = if wmore r.2 v then tput t r.1 r.2 else t
      rcases wm_tri v r.2 with h | h | h
      · rw [if_pos ((wmore_iff _ _).mpr h), if_neg (by rw [wmore_iff]; exact wm_asym h)]
        exact tput_self hok hg
      · rw [← h, if_neg (by rw [wmore_iff]; exact wm_irr _), if_neg (by rw [wmore_iff]; exact wm_irr _)]
        exact tput_self hok hg
      · rw [if_neg (by rw [wmore_iff]; exact wm_asym h), if_pos ((wmore_iff _ _).mpr h)]
  rw [e] at put
  exact put
theorem ok_last {f : Addr} {fd : FuncData} (c : LW K C) (F : Fun K "last" "LastWords.last" s_LastWords_last f fd) : FnOk P w K mg base CX0 1 f fd ["self", "number"] (spC K (C_last K C)) := by
  refine okC F sc_LastWords_last (fun c h => by obtain ⟨v, t, n, rfl⟩ := h; rfl) fun cdv A outer s H vs Q E hr => ⟨_, ((pss_one (ps_ret (pe_dget1 (hu_of hr) (pe_fld (pv 0) rfl) (pv 1) ⟨rfl, rfl, rfl, rfl⟩)))), ?_⟩
  rintro _ ⟨v, t, n, rfl⟩
  refine body_d (Γ0 := [.res v (Rlw K C t), .dat (.int n)]) (Γ := [.res v (Rlw K C t), .dat (.int n)]) (z' := oD (tget t n)) ?_ rfl (by walk_at "po") rfl
  refine Run.openX (k := 0) rfl fun q => Run.rtW (Γ1 := [.res v (Rob K C t q), .dat (.int n)]) ?_ (.res Rlw_of (WkR.refl _))
  refine run_ret (m := .e) (Ev.is (ev_dget1P (k := .inl n) (kd := .int n) (es := encT t) (es' := encT t) (v := q) (refE_fld (i := 0) (ns := ["_last"]) (by decide) c.cl c.na (refE_var (k := 0) (R := Rob K C t q) rfl) (plc_slot (k := 0) (R := Rob K C t q) rfl) rfl rfl) (plc_fld (i := 0) (plc_slot (k := 0) (R := Rob K C t q) rfl) rfl) (ev_var rfl) (plc_fld (i := 0) (plc_slot (k := 0) (R := Rob K C t q) rfl) rfl) kInt) (look_oD t n))
theorem opd_notO {o : Option Wo} : OpD K (fun x y H Q => y = .non ∧ Q (.bl (!decide (x = .non))) H) (oD o) .non (.bl o.isSome) := by cases o <;> exact opd_notN
theorem ok_seen {f : Addr} {fd : FuncData} (c : LW K C) (F : Fun K "seen" "LastWords.seen" s_LastWords_seen f fd) : FnOk P w K mg base CX0 1 f fd ["self", "number"] (spC K (C_seen K C)) := by
  refine okC F sc_LastWords_seen (fun c h => by obtain ⟨v, t, n, rfl⟩ := h; rfl) fun cdv A outer s H vs Q E hr => ⟨_, ((pss_cons (ps_set (i := 2) sc_LastWords_seen.nd rfl (.inl rfl) (pe_dget1 (hu_of hr) (pe_fld (pv 0) rfl) (pv 1) ⟨rfl, rfl, rfl, rfl⟩))
      (pss_one (ps_ret (pe_and (pe_cmpR op_notN (pv 2) pe_non (nomark _)) (pe_one (pe_ix ix_seq (pv 2) pe_int (fun _ _ => rfl)))))))), ?_⟩
  rintro _ ⟨v, t, n, rfl⟩
  refine body_d (Γ0 := [.res v (Rlw K C t), .dat (.int n), .em]) (Γ := [.res v (Rlw K C t), .dat (.int n), .dat (oD (tget t n))]) (z' := .bl (seenB (tget t n))) ?_ rfl (by walk_at "po") rfl
  refine Run.openX (k := 0) rfl fun q => Run.rtW (Γ1 := [.res v (Rob K C t q), .dat (.int n), .dat (oD (tget t n))]) ?_ (.res Rlw_of (WkR.refl _))
  refine run_seq (Γ1 := [.res v (Rob K C t q), .dat (.int n), .dat (oD (tget t n))]) ?_ ?_
  · refine Run.is (run_asg (m := .e) (d := oD (tget t n)) (Γ1 := [.res v (Rob K C t q), .dat (.int n), .em]) (Ev.is (ev_dget1P (k := .inl n) (kd := .int n) (es := encT t) (es' := encT t) (v := q) (refE_fld (i := 0) (ns := ["_last"]) (by decide) c.cl c.na (refE_var (k := 0) (R := Rob K C t q) rfl) (plc_slot (k := 0) (R := Rob K C t q) rfl) rfl rfl) (plc_fld (i := 0) (plc_slot (k := 0) (R := Rob K C t q) rfl) rfl) (ev_var rfl) (plc_fld (i := 0) (plc_slot (k := 0) (R := Rob K C t q) rfl) rfl) kInt) (look_oD t n))) rfl
  · refine run_ret (m := .e) ?_
    have hn := ev_op (K := K) (m := .e) (Γ := [.res v (Rob K C t q), .dat (.int n), .dat (oD (tget t n))]) (x := oD (tget t n)) (y := .non) (ev_var (i := 2) rfl) ev_non opd_notO
    cases hg : tget t n with
    | none =>
      rw [hg] at hn
      exact Ev.is (ev_andV (a := false) (b := false) (Γ1 := [.res v (Rob K C t q), .dat (.int n), .dat (oD none)]) hn (fun h => nomatch h) (fun _ => rfl)) rfl
    | some a =>
      rw [hg] at hn
      exact Ev.is (ev_andV (a := true) (b := a.2.2) (Γ1 := [.res v (Rob K C t q), .dat (.int n), .dat (oD (some a))]) hn (fun _ => ev_op (ev_var (i := 2) (d := wD a) rfl) ev_int (opd_ixT rfl)) (fun h => nomatch h)) (by simp [seenB])
theorem enc_keys (t : Tb) : (encT t).map (·.1) = (t.map (·.1)).map Sum.inl := by
  unfold encT
  rw [List.map_map, List.map_map]
  rfl
theorem ok_numbers {f : Addr} {fd : FuncData} (c : LW K C) (F : Fun K "numbers" "LastWords.numbers" s_LastWords_numbers f fd) (m_sorted : mg "sorted" = none) : FnOk P w K mg base CX0 1 f fd ["self"] (spC K (C_numbers K C)) := by
  refine okC F sc_LastWords_numbers (fun c h => by obtain ⟨v, t, _, rfl | rfl⟩ := h <;> rfl) fun cdv A outer s H vs Q E hr => ⟨_, ((pss_one (ps_ret (pe_callB (call_sortedDI rfl) rfl m_sorted (by decide +kernel) (pa_cons (pe_fld (pv 0) rfl) pa_nil))))), ?_⟩
  rintro _ ⟨v, t, hl, rfl | rfl⟩
  · refine body_d (Γ0 := [.res v (Rlw K C t)]) (Γ := [.res v (Rlw K C t)]) (z' := intL (numsL t)) ?_ rfl (by walk_at "po") rfl
    refine Run.openX (k := 0) rfl fun q => Run.rtW (Γ1 := [.res v (Rob K C t q)]) ?_ (.res Rlw_of (WkR.refl _))
    exact run_ret (m := .e) (ev_sortedDP (v := q) (es := encT t) (refE_fld (i := 0) (ns := ["_last"]) (by decide) c.cl c.na (refE_var (k := 0) (R := Rob K C t q) rfl) (plc_slot (k := 0) (R := Rob K C t q) rfl) rfl rfl) (plc_fld (i := 0) (plc_slot (k := 0) (R := Rob K C t q) rfl) rfl) (enc_keys t) (by simpa using hl))
  · refine body_r (Γ0 := [.res v (Rlw K C t)]) (Γ := [.res v (Rlw K C t)]) (R := Rlst K ((numsL t).map .int)) ?_ rfl (by walk_at "po")
    refine Run.openX (k := 0) rfl fun q => Run.rtRW (Γ1 := [.res v (Rob K C t q)]) ?_ (.res Rlw_of (WkR.refl _))
    exact run_retR (er_sortedDP (v := q) (es := encT t) (refE_fld (i := 0) (ns := ["_last"]) (by decide) c.cl c.na (refE_var (k := 0) (R := Rob K C t q) rfl) (plc_slot (k := 0) (R := Rob K C t q) rfl) rfl rfl) (plc_fld (i := 0) (plc_slot (k := 0) (R := Rob K C t q) rfl) rfl) (enc_keys t) (by simpa using hl))
theorem ok_say {f : Addr} {fd : FuncData} (c : LW K C) (F : Fun K "say" "LastWords.say" s_LastWords_say f fd) : FnOk P w K mg base CX0 1 f fd ["self", "number", "seen", "count", "device"] (spC K (C_say K C)) := by
  refine okC F sc_LastWords_say (fun c h => by obtain ⟨v, t, r, _, rfl⟩ := h; rfl) fun cdv A outer s H vs Q E hr => ⟨_, ((pss_cons (ps_set (i := 5) sc_LastWords_say.nd rfl (.inl rfl) (pe_tup (pa_cons (pv 3) (pa_cons (pv 4) (pa_cons (pv 2) pa_nil)))))
      (pss_cons (ps_set (i := 6) sc_LastWords_say.nd rfl (.inl rfl) (pe_dget1 (hu_of hr) (pe_fld (pv 0) rfl) (pv 1) ⟨rfl, rfl, rfl, rfl⟩))
      (pss_cons (ps_if (PW.pt (pw_and (pt_cmpR op_notN (pv 6) pe_non (nomark _)) (pw_and1 (pt_cmpR (op_geD (hu64 hr)) (pv 6) (pv 5) (nomark _)))))
      (pss_one (ps_ret pe_bl))
      pss_nil)
      (pss_cons (ps_dput (hu_of hr) (pe_fld (pv 0) rfl) (pv 1) (pv 5) rfl)
      (pss_one (ps_ret pe_bl))))))), ?_⟩
  rintro _ ⟨v, t, r, hl, rfl⟩
  have hz : (encT t).length < sizeLine := by unfold encT; rw [List.length_map]; exact small1000 hl
  refine body_d (Γ0 := [.res v (Rlw K C t), .dat (.int r.1), .dat (.bl r.2.2.2), .dat (.int r.2.1), .dat (.str r.2.2.1), .em, .em]) (Γ := [.res v (Rlw K C (tadd t r)), .dat (.int r.1), .dat (.bl r.2.2.2), .dat (.int r.2.1), .dat (.str r.2.2.1), .dat (wD r.2), .dat (oD (tget t r.1))]) (z' := .bl (newB t r)) ?_ rfl (by walk_at "po") rfl
  refine Run.openX (k := 0) rfl fun q => ?_
  refine run_seq (Γ1 := [.res v (Rob K C t q), .dat (.int r.1), .dat (.bl r.2.2.2), .dat (.int r.2.1), .dat (.str r.2.2.1), .dat (wD r.2), .em]) (by walk_at "stx") ?_
  refine run_seq (Γ1 := [.res v (Rob K C t q), .dat (.int r.1), .dat (.bl r.2.2.2), .dat (.int r.2.1), .dat (.str r.2.2.1), .dat (wD r.2), .dat (oD (tget t r.1))]) ?_ ?_
  · refine Run.is (run_asg (m := .e) (d := oD (tget t r.1)) (Γ1 := [.res v (Rob K C t q), .dat (.int r.1), .dat (.bl r.2.2.2), .dat (.int r.2.1), .dat (.str r.2.2.1), .dat (wD r.2), .em]) (Ev.is (ev_dget1P (k := .inl r.1) (kd := .int r.1) (es := encT t) (es' := encT t) (v := q) (refE_fld (i := 0) (ns := ["_last"]) (by decide) c.cl c.na (refE_var (k := 0) (R := Rob K C t q) rfl) (plc_slot (k := 0) (R := Rob K C t q) rfl) rfl rfl) (plc_fld (i := 0) (plc_slot (k := 0) (R := Rob K C t q) rfl) rfl) (ev_var rfl) (plc_fld (i := 0) (plc_slot (k := 0) (R := Rob K C t q) rfl) rfl) kInt) (look_oD t r.1))) rfl
  have hn := ev_op (K := K) (m := .e) (Γ := [.res v (Rob K C t q), .dat (.int r.1), .dat (.bl r.2.2.2), .dat (.int r.2.1), .dat (.str r.2.2.1), .dat (wD r.2), .dat (oD (tget t r.1))]) (x := oD (tget t r.1)) (y := .non) (ev_var (i := 6) rfl) ev_non opd_notO
  have put := run_dput (K := K) (m := .e) (td := tFld K (tVar 0) "_last") (ty := tVar 1) (tv := tVar 5) (kd := .int r.1) (k := .inl r.1) (d := wD r.2) (Γ := [.res v (Rob K C t q), .dat (.int r.1), .dat (.bl r.2.2.2), .dat (.int r.2.1), .dat (.str r.2.2.1), .dat (wD r.2), .dat (oD (tget t r.1))]) (Γ1 := [.res v (Rob K C t q), .dat (.int r.1), .dat (.bl r.2.2.2), .dat (.int r.2.1), .dat (.str r.2.2.1), .dat (wD r.2), .dat (oD (tget t r.1))]) (Γ2 := [.res v (Rob K C t q), .dat (.int r.1), .dat (.bl r.2.2.2), .dat (.int r.2.1), .dat (.str r.2.2.1), .dat (wD r.2), .dat (oD (tget t r.1))]) (ev_var rfl) (refE_fld (i := 0) (ns := ["_last"]) (w := q) (by decide) c.cl c.na (refE_var (k := 0) (R := Rob K C t q) rfl) (plc_slot (k := 0) (R := Rob K C t q) rfl) rfl rfl) (ev_var rfl) (plc_fld (i := 0) (plc_slot (k := 0) (R := Rob K C t q) rfl) rfl) kInt hz
  rw [← enc_put] at put
  have fin : newB t r = true → Run K (tSeq (sDPut (tFld K (tVar 0) "_last") (tVar 1) (tVar 5)) (tRet (tC (.bl true)))) [.res v (Rob K C t q), .dat (.int r.1), .dat (.bl r.2.2.2), .dat (.int r.2.1), .dat (.str r.2.2.1), .dat (wD r.2), .dat (oD (tget t r.1))] (.rt (.bl (newB t r)) [.res v (Rlw K C (tadd t r)), .dat (.int r.1), .dat (.bl r.2.2.2), .dat (.int r.2.1), .dat (.str r.2.2.1), .dat (wD r.2), .dat (oD (tget t r.1))]) := fun h => by
    rw [h]
    have e : tput t r.1 r.2 = tadd t r := by
      unfold newB at h
      unfold tadd
      cases hg : tget t r.1 with
      | none => rfl
      | some a => rw [hg] at h; exact (if_pos h).symm
    rw [e] at put
    exact run_seq put (Run.rtW (run_ret (m := .e) ev_bl) (.res Rlw_of (WkR.refl _)))
  cases hg : tget t r.1 with
  | none =>
    rw [hg] at hn fin
    refine run_ifSeq (m := .e) (b := false) (Γ1 := [.res v (Rob K C t q), .dat (.int r.1), .dat (.bl r.2.2.2), .dat (.int r.2.1), .dat (.str r.2.2.1), .dat (wD r.2), .dat (oD none)]) ?_ (fun h => nomatch h) (fun _ => run_nextSeq (fin (by unfold newB; rw [hg])))
    exact EvT.is (evt_and (a := false) (b := false) (Γ1 := [.res v (Rob K C t q), .dat (.int r.1), .dat (.bl r.2.2.2), .dat (.int r.2.1), .dat (.str r.2.2.1), .dat (wD r.2), .dat (oD none)]) (evt_test hn) (fun h => nomatch h) (fun _ => rfl)) rfl
  | some a =>
    rw [hg] at hn fin
    have hge := ev_op (K := K) (m := .e) (Γ := [.res v (Rob K C t q), .dat (.int r.1), .dat (.bl r.2.2.2), .dat (.int r.2.1), .dat (.str r.2.2.1), .dat (wD r.2), .dat (oD (some a))]) (x := wD a) (y := wD r.2) (ev_var (i := 6) rfl) (ev_var (i := 5) rfl) (opd_cmpD (f := fun d e => !PySem.W.dataLt d e) rfl rfl (cmpb_word a r.2))
    rw [dataLt_word] at hge
    have eN : newB t r = wmore r.2 a := by unfold newB; rw [hg]
    refine run_ifSeq (m := .e) (b := !wmore r.2 a) (Γ1 := [.res v (Rob K C t q), .dat (.int r.1), .dat (.bl r.2.2.2), .dat (.int r.2.1), .dat (.str r.2.2.1), .dat (wD r.2), .dat (oD (some a))]) ?_ (fun h => run_end ?_ rfl) (fun h => run_nextSeq (fin (by rw [eN]; simpa using h)))
    · exact EvT.is (evt_and (a := true) (b := !wmore r.2 a) (Γ1 := [.res v (Rob K C t q), .dat (.int r.1), .dat (.bl r.2.2.2), .dat (.int r.2.1), .dat (.str r.2.2.1), .dat (wD r.2), .dat (oD (some a))]) (evt_test hn) (fun _ => evt_test hge) (fun h => nomatch h)) (by simp)
    · have hf : wmore r.2 a = false := by simpa using h
      rw [eN, hf, show tadd t r = t from by unfold tadd; rw [hg]; exact if_neg (by rw [hf]; exact Bool.false_ne_true)]
      exact Run.rtW (run_ret (m := .e) ev_bl) (.res Rlw_of (WkR.refl _))
theorem ok_eq {f : Addr} {fd : FuncData} (c : LW K C) (o : IsiO K C) (F : Fun K "__eq__" "LastWords.__eq__" s_LastWords_eq f fd) (m_isinstance : mg "isinstance" = none) (g_LastWords : mg "LastWords" = some (.ref C)) : FnOk P w K mg base CX0 1 f fd ["self", "other"] (spC K (C_eq K C)) := by
  refine okC F sc_LastWords_eq (fun c h => by obtain ⟨v, u, t, t', _, _, rfl⟩ | ⟨v, t, ds, rfl⟩ := h <;> rfl) fun cdv A outer s H vs Q E hr => ⟨_, ((pss_one (ps_ret (pe_and (pe_callB call_isi rfl m_isinstance (by decide +kernel) (pa_cons (pv 1) (pa_cons (pe_glob (v := .ref C) rfl g_LastWords rfl) pa_nil))) (pe_one (pe_cmpR (op_eqDic (hu65 hr)) (pe_fld (pv 0) rfl) (pe_fld (pv 1) rfl) (nomark _))))))), ?_⟩
  rintro _ (⟨v, u, t, t', ht, ht', rfl⟩ | ⟨v, t, ds, rfl⟩)
  · refine body_d (Γ0 := [.res v (Rlw K C t), .res u (Rlw K C t')]) (Γ := [.res v (Rlw K C t), .res u (Rlw K C t')]) (z' := .bl (eqDic (encT t) (encT t'))) ?_ rfl (by walk_at "po") rfl
    refine Run.openX (k := 0) rfl fun q => Run.openX (k := 1) (F := fun q' => Rob K C t' q') rfl fun q' => Run.rtW (Γ1 := [.res v (Rob K C t q), .res u (Rob K C t' q')]) ?_ (.res Rlw_of (.res Rlw_of .nil))
    refine run_ret (m := .e) (Ev.is (ev_andV (a := true) (b := eqDic (encT t) (encT t') ^^ false) (Γ1 := [.res v (Rob K C t q), .res u (Rob K C t' q')]) ?_ (fun _ => ?_) (fun h => nomatch h)) (by simp))
    · exact ev_isiO (i := 1) (mm := "x") o (R := Rob K C t' q') rfl (objAt_obj (by decide)) ev_raw
    · exact ev_eqDicP (v := q) (u := q') (es := encT t) (fs := encT t') (refE_fld (i := 0) (ns := ["_last"]) (by decide) c.cl c.na (refE_var (k := 0) (R := Rob K C t q) rfl) (plc_slot (k := 0) (R := Rob K C t q) rfl) rfl rfl) (plc_fld (i := 0) (plc_slot (k := 0) (R := Rob K C t q) rfl) rfl)
        (refE_fld (i := 0) (ns := ["_last"]) (by decide) c.cl c.na (refE_var (k := 1) (R := Rob K C t' q') rfl) (plc_slot (k := 1) (R := Rob K C t' q') rfl) rfl rfl) (plc_fld (i := 0) (plc_slot (k := 1) (R := Rob K C t' q') rfl) rfl) (enc_shaped ht) (enc_shaped ht')
  · refine body_d (Γ0 := [.res v (Rlw K C t), .dat (.lst ds)]) (Γ := [.res v (Rlw K C t), .dat (.lst ds)]) (z' := .bl (false && false)) ?_ rfl (by walk_at "po") rfl
    refine run_ret (m := .e) (ev_andV (a := false) (b := false) (Γ1 := [.res v (Rlw K C t), .dat (.lst ds)]) ?_ (fun h => nomatch h) (fun _ => rfl))
    exact ev_cb (ea_cons (ev_var rfl) (ea_cons ev_raw ea_nil)) (cd_isiO o rfl)
theorem ok_init {f : Addr} {fd : FuncData} (c : LW K C) (F : Fun K "__init__" "LastWords.__init__" s_LastWords_init f fd) (G_greatest_words : FnOk P w K mg base CX0 1 f_greatest_words fd_greatest_words ["words"] (spC K (C_greatest K))) (g_greatest_words : mg "greatest_words" = some (.ref f_greatest_words)) (k_greatest_words : PySem.W.keepIn K (.ref f_greatest_words) = true) (b_greatest_words : Binds K fd_greatest_words ["words"] []) :
    FnR P w K mg base CX0 2 f (spStar 1 (spC K (C_init K C))) := by
  refine okStarC (ps := ["self"]) (pv := "words") F sc_LastWords_init (fun kV doc pm an cdv ct us rest hl => StX.bind_star1 (B := fun xs => bindArgs (PySem.W.fnOf "__init__" "LastWords.__init__" (defArgs s_LastWords_init) (defBody s_LastWords_init) (defScope s_LastWords_init) .none kV doc pm an cdv ct) ⟨xs, []⟩) (fun a => rfl) (fun a r rs => rfl) us rest hl) fun cdv A outer s H vs Q E hr => ⟨_, ((pss_one (ps_fld (pv 0) (pe_call G_greatest_words (hr.mono (by decide)) rfl g_greatest_words k_greatest_words b_greatest_words .nil pass0 (pa_cons (pv 1) pa_nil)) rfl))), ?_⟩
  rintro _ ⟨v, rs, hw, hl, rfl⟩
  refine body_n (Γ0 := [.res v (Robj K C [] []), .dat (.tup (rs.map rD))]) (Γ := [.res v (Rlw K C (tab rs)), .dat (.tup (rs.map rD))]) ?_ rfl (by walk_at "po")
  exact run_fldR (k := 0) (v := v) (C := C) (ns := []) (fs := []) (R := Rdic K (encT (tab rs))) (Γ1 := [.res v (Robj K C [] []), .dat (.tup (rs.map rD))]) (er_call0 (m := .e) (ds := [.tup (rs.map rD)]) (ea_cons (ev_var rfl) ea_nil) (conR_of ⟨rs, hw, hl, rfl⟩)) rfl c.cl c.na (by decide) (by decide)
end


def entW (t : Tb) : List (Int × D) := t.map fun e => (e.1, wD e.2)
theorem enc_ent (t : Tb) : encT t = encI (entW t) := by
  unfold encT encI entW
  rw [List.map_map]
  rfl
def sortT (t : Tb) : Tb := t.mergeSort fun a b => decide (a.1 ≤ b.1)
theorem sortT_perm (t : Tb) : (sortT t).Perm t := List.mergeSort_perm t _
theorem sortT_ent (t : Tb) (ok : TOk t) : sortE (entW t) = entW (sortT t) := by
  refine keyed_eq ((sortE_perm _).trans ((sortT_perm t).symm.map _)) ?_ (sortE_sorted _) ?_
  · refine ((sortE_perm _).map (·.1)).nodup_iff.mpr ?_
    unfold entW
    rw [List.map_map]
    exact ok
  · unfold entW
    rw [List.pairwise_map]
    have := List.pairwise_mergeSort (le := fun a b : Row => decide (a.1 ≤ b.1)) (fun a b c h1 h2 => by simp at *; omega) (fun a b => by simp; omega) t
    exact this.imp fun h => by simpa using h
theorem sc_LastWords_said : FnScope ["self", "number", "count", "device", "seen"] ["self"] (defScope s_LastWords_said) := ⟨rfl, rfl, rfl, by decide +kernel, rfl, by decide +kernel, by decide +kernel⟩
theorem sc_LastWords_or : FnScope ["self", "other", "words"] ["self", "other"] (defScope s_LastWords_or) := ⟨rfl, rfl, rfl, by decide +kernel, rfl, by decide +kernel, by decide +kernel⟩
def C_said (K : PySem.W.Frag) (C : Addr) : Pr → Prop := fun c => ∃ v t, TOk t ∧ t.length < 64 ∧ c = .d [.res v (Rlw K C t)] (rowsD (sortT t)) [.res v (Rlw K C t)]
def C_or (K : PySem.W.Frag) (C : Addr) : Pr → Prop := fun c => ∃ v u t t', TOk t ∧ TOk t' ∧ wsOk t ∧ wsOk t' ∧ t.length < 64 ∧ t'.length < 64 ∧ c = .r [.res v (Rlw K C t), .res u (Rlw K C t')] (Rlw K C (tab (sortT t ++ sortT t'))) [.res v (Rlw K C t), .res u (Rlw K C t')]
section
variable {P : Program} {w : PySem.World} {K : PySem.W.Frag} {mg : Str → Option Value} {base : Heap} {C : Addr} {f_said f_init : Addr} {fd_said : FuncData}
theorem ok_said {f : Addr} {fd : FuncData} (c : LW K C) (F : Fun K "said" "LastWords.said" s_LastWords_said f fd) (m_sorted : mg "sorted" = none) : FnOk P w K mg base CX0 1 f fd ["self"] (spC K (C_said K C)) := by
  refine okC F sc_LastWords_said (fun c h => by obtain ⟨v, t, _, _, rfl⟩ := h; rfl) fun cdv A outer s H vs Q E hr => ⟨_, ((pss_one (ps_ret (pe_lc (own := [("number", 1), ("count", 2), ("device", 3), ("seen", 4)]) rfl sc_LastWords_said.nd (pi_any (pe_callB (cr_sortItK rfl (hu64 hr)) rfl m_sorted (by decide +kernel) (pa_cons (pe_bm0 PySem.F.plainAttrs_dict PySem.F.slot_dict_items PySem.F.type_dict_items mt_itemsK (pe_fld (pv 0) rfl)) pa_nil))) (blkOk_by (N := ["self", "number", "count", "device", "seen"]) (sc := defScope s_LastWords_said) (by decide +kernel)) (fun _ _ _ _ _ => (pg_tupK (K := K) 2 rfl (pgs_cons (pg_name (i := 1) sc_LastWords_said.nd rfl (.inl rfl)) (pgs_cons (pg_tupK (K := K) 3 rfl (pgs_cons (pg_name (i := 2) sc_LastWords_said.nd rfl (.inl rfl)) (pgs_cons (pg_name (i := 3) sc_LastWords_said.nd rfl (.inl rfl)) (pgs_cons (pg_name (i := 4) sc_LastWords_said.nd rfl (.inl rfl)) pgs_nil)))) pgs_nil)))) (fun _ _ _ _ _ => pts_nil) (fun _ _ _ _ _ => (pe_tup (pa_cons (pv 1) (pa_cons (pv 4) (pa_cons (pv 2) (pa_cons (pv 3) pa_nil)))))))))), ?_⟩
  rintro _ ⟨v, t, ok, hl, rfl⟩
  refine body_d (Γ0 := [.res v (Rlw K C t), .em, .em, .em, .em]) (Γ := [.res v (Rlw K C t), .em, .em, .em, .em]) (z' := rowsD (sortT t)) ?_ rfl (by walk_at "po") rfl
  refine Run.openX (k := 0) rfl fun q => Run.rtW (Γ1 := [.res v (Rob K C t q), .em, .em, .em, .em]) ?_ (.res Rlw_of (WkR.refl _))
  refine run_ret (m := .e) (Ev.eq (ev_lc (m := .e) (js := [1] ++ (([2] ++ ([3] ++ ([4] ++ []))) ++ [])) (xs := sortT t) (enc := fun r => .tup [.int r.1, wD r.2]) (fun _ => true) rD (fun r => [.res v (Rob K C t q), .dat (.int r.1), .dat (.int r.2.1), .dat (.str r.2.2.1), .dat (.bl r.2.2.2)]) (fun r => [.res v (Rob K C t q), .dat (.int r.1), .dat (.int r.2.1), .dat (.str r.2.2.1), .dat (.bl r.2.2.2)]) (it_anyL (Ev.is (ev_sortItP (v := q) (es := entW t) (up := fun R' => [.res v (Robj K C ["_last"] [.res q R']), .em, .em, .em, .em]) (refE_fld (i := 0) (ns := ["_last"]) (by decide) c.cl c.na (refE_var (k := 0) (R := Rob K C t q) rfl) (plc_slot (k := 0) (R := Rob K C t q) rfl) rfl rfl) ?_ ?_ ?_ ?_ ?_ ?_) ?_)) (fun k hk => ?_) (fun j hj => by simpa using hj) ?_ (fun x hx => by walk_at "rg") (fun i hi => evt_yes) (fun r hx _ => ⟨[.res v (Rob K C t q), .dat (.int r.1), .dat (.int r.2.1), .dat (.str r.2.2.1), .dat (.bl r.2.2.2)], by walk_at "evx"⟩)) ?_ rfl)
  · rw [← enc_ent]
    exact plc_fld (i := 0) (plc_slot (k := 0) (R := Rob K C t q) rfl) rfl
  · unfold entW
    rw [List.map_map]
    exact ok
  · simpa [entW] using hl
  · intro e he
    obtain ⟨r, _, rfl⟩ := List.mem_map.mp he
    rfl
  · intro x hx y hy
    obtain ⟨a, _, rfl⟩ := List.mem_map.mp hx
    obtain ⟨b, _, rfl⟩ := List.mem_map.mp hy
    rfl
  · intro x hx
    obtain ⟨a, _, rfl⟩ := List.mem_map.mp hx
    show PyData.depth (.tuple [.int a.2.1, .str a.2.2.1, .bool a.2.2.2]) ≤ 50
    simp [PyData.depth, PyData.depthAll]
  · rw [sortT_ent t ok, entW, List.map_map]
    rfl
  · simp only [List.map_cons, List.map_nil, List.mem_cons, List.not_mem_nil, or_false] at hk
    rcases hk with rfl | rfl | rfl | rfl <;> rfl
  · rw [(sortT_perm t).length_eq]
    exact small1000 (by omega)
  · rw [filter_true]
    rfl
theorem wsOk_perm {t u : Tb} (p : t.Perm u) (h : wsOk u) : wsOk t := fun r hr => h r (p.mem_iff.mp hr)
theorem ok_or {f : Addr} {fd : FuncData} (c : LW K C) (M_LastWords : Mk K C f_init) (F : Fun K "__or__" "LastWords.__or__" s_LastWords_or f fd) (c_LastWords : Cls K C) (mt_said : Meth K C "said" f_said) (G_said : FnOk P w K mg base CX0 1 f_said fd_said ["self"] (spC K (C_said K C))) (b_said : Binds K fd_said ["self"] [])
    (G_init : FnR P w K mg base CX0 2 f_init (spStar 1 (spC K (C_init K C)))) (g_LastWords : mg "LastWords" = some (.ref C)) : FnOk P w K mg base CX0 4 f fd ["self", "other"] (spC K (C_or K C)) := by
  refine okC F sc_LastWords_or (fun c h => by obtain ⟨v, u, t, t', _, _, _, _, _, _, rfl⟩ := h; rfl) fun cdv A outer s H vs Q E hr => ⟨_, ((pss_cons (ps_set (i := 2) sc_LastWords_or.nd rfl (.inl rfl) (pe_op op_addA (pe_meth0 (pv 0) c_LastWords mt_said G_said (hr.mono (by decide)) b_said .nil pass0) (pe_meth0 (pv 1) c_LastWords mt_said G_said (hr.mono (by decide)) b_said .nil pass0)))
      (pss_one (ps_ret (pe_makeS M_LastWords G_init (hr.mono (by decide)) rfl g_LastWords pass0 (pv 2)))))), ?_⟩
  rintro _ ⟨v, u, t, t', ok, ok', hw, hw', hl, hl', rfl⟩
  have ll : (sortT t).length < 64 := by rw [(sortT_perm t).length_eq]; exact hl
  have ll' : (sortT t').length < 64 := by rw [(sortT_perm t').length_eq]; exact hl'
  refine body_r (Γ0 := [.res v (Rlw K C t), .res u (Rlw K C t'), .em]) (Γ := [.res v (Rlw K C t), .res u (Rlw K C t'), .dat (rowsD (sortT t ++ sortT t'))]) (R := Rlw K C (tab (sortT t ++ sortT t'))) ?_ rfl (by walk_at "po")
  refine run_seq (Γ1 := [.res v (Rlw K C t), .res u (Rlw K C t'), .dat (rowsD (sortT t ++ sortT t'))]) ?_ ?_
  · refine Run.is (run_asg (m := .e) (d := rowsD (sortT t ++ sortT t')) (Γ1 := [.res v (Rlw K C t), .res u (Rlw K C t'), .em]) (Ev.eq (ev_op (m := .e) (x := rowsD (sortT t)) (y := rowsD (sortT t')) (Γ1 := [.res v (Rlw K C t), .res u (Rlw K C t'), .em]) (Γ2 := [.res v (Rlw K C t), .res u (Rlw K C t'), .em]) ?_ ?_ (opd_addL (Nat.le_of_lt (small1000 ?_)))) ?_ rfl)) rfl
    · exact Ev.eq (ev_meth (m := .e) (ds := []) (R := Rlw K C t) (R' := Rlw K C t) (Γ' := [.res v (Rlw K C t), .res u (Rlw K C t'), .em]) (refE_var (k := 0) rfl) (plc_slot (k := 0) rfl) (ob_lw (by decide)) ea_nil (plc_slot (k := 0) rfl) (con_of ⟨v, t, ok, hl, rfl⟩)) rfl rfl
    · exact Ev.eq (ev_meth (m := .e) (ds := []) (R := Rlw K C t') (R' := Rlw K C t') (Γ' := [.res v (Rlw K C t), .res u (Rlw K C t'), .em]) (refE_var (k := 1) rfl) (plc_slot (k := 1) rfl) (ob_lw (by decide)) ea_nil (plc_slot (k := 1) rfl) (con_of ⟨u, t', ok', hl', rfl⟩)) rfl rfl
    · rw [List.length_map, List.length_map]
      omega
    · unfold rowsD
      rw [List.map_append]
  · refine run_retR (er_makeS (m := .e) (ds := (sortT t ++ sortT t').map rD) (ev_var rfl) (.inl rfl) (con_star (fun v => con_of ⟨v, sortT t ++ sortT t', ?_, ?_, rfl⟩) ?_))
    · intro r hr
      rcases List.mem_append.mp hr with h | h
      · exact wsOk_perm (sortT_perm t) hw r h
      · exact wsOk_perm (sortT_perm t') hw' r h
    · rw [List.length_append]; omega
    · rw [List.length_map, List.length_append]
      exact Nat.le_of_lt (small1000 (by omega))
end


theorem pyA_ints (ns : List Int) : (intL ns).py = .list (ns.map PyData.int) := by
  show PyData.list (D.pyA (ns.map .int)) = _
  rw [pyA_map, List.map_map]
  rfl
theorem ints_shaped (ns : List Int) : (intL ns).shaped = true := by
  unfold D.shaped
  rw [pyA_ints, PySem.W.shaped_ints]
  show (D.pureA (ns.map .int) && true) = true
  rw [pureA_of fun d hd => by obtain ⟨n, _, rfl⟩ := List.mem_map.mp hd; rfl]
  rfl
theorem eqv_ints (ns : List Int) : D.eqv (intL ns) (intL ns) = true := by
  unfold D.eqv
  rw [pyA_ints]
  exact SeqAt.eqv_refl _ (SeqAt.canLay_of_shaped (PySem.W.shaped_ints ns))
abbrev s_law_is : Stmt := topS 12
abbrev s_law_made : Stmt := topS 14
abbrev s_law_said : Stmt := topS 16
theorem sc_law_is : FnScope ["_law_told", "_law_words_here", "_law_pool", "_law_due", "_law_number"] ["_law_told", "_law_words_here", "_law_pool"] (defScope s_law_is) := ⟨rfl, rfl, rfl, by decide +kernel, rfl, by decide +kernel, by decide +kernel⟩
theorem sc_law_made : FnScope ["_law_words_here", "_law_made_here", "_law_number", "_law_seen", "_law_many", "_law_name"] ["_law_words_here"] (defScope s_law_made) := ⟨rfl, rfl, rfl, by decide +kernel, rfl, by decide +kernel, by decide +kernel⟩
theorem sc_law_said : FnScope ["_law_told", "_law_words_here", "_law_pool", "_law_lap", "_law_number", "_law_seen", "_law_many", "_law_name", "_law_is_new"] ["_law_told", "_law_words_here", "_law_pool"] (defScope s_law_said) := ⟨rfl, rfl, rfl, by decide +kernel, rfl, by decide +kernel, by decide +kernel⟩
def C_is (K : PySem.W.Frag) (C : Addr) : Pr → Prop := fun c => ∃ v t rs pool, TOk t ∧ TEq t (tab rs) ∧ wsOk rs ∧ t.length < 64 ∧ rs.length < 64 ∧ c = .d [.res v (Rlw K C t), .dat (rowsD rs), .dat (intL pool)] (.bl true) [.res v (Rlw K C t), .dat (rowsD rs), .dat (intL pool)]
theorem con_is {K : PySem.W.Frag} {C : Addr} {v : V} {t : Tb} {rs : List Row} {pool : List Int} (h : TOk t) (h2 : TEq t (tab rs)) (h3 : wsOk rs) (h4 : t.length < 64) (h5 : rs.length < 64) : FD.Con K (spC K (C_is K C)) [.res v (Rlw K C t), .dat (rowsD rs), .dat (intL pool)] (.bl true) [.res v (Rlw K C t), .dat (rowsD rs), .dat (intL pool)] := con_of ⟨v, t, rs, pool, h, h2, h3, h4, h5, rfl⟩
def C_made (K : PySem.W.Frag) (C : Addr) : Pr → Prop := fun c => ∃ rs, wsOk rs ∧ rs.length < 64 ∧ c = .r [.dat (rowsD rs)] (Rlw K C (tab rs)) [.dat (rowsD rs)]
def C_saidL (K : PySem.W.Frag) (C : Addr) : Pr → Prop := fun c => ∃ v rs pool, wsOk rs ∧ rs.length < 64 ∧ c = .d [.res v (Rlw K C []), .dat (rowsD rs), .dat (intL pool)] (.bl true) [.res v (Rlw K C (tab rs)), .dat (rowsD rs), .dat (intL pool)]
section
variable {P : Program} {w : PySem.World} {K : PySem.W.Frag} {mg : Str → Option Value} {base : Heap} {C : Addr} {f_law_table f_law_bool f_last f_seen f_numbers f_say f_init f_law_is : Addr} {fd_law_table fd_law_bool fd_last fd_seen fd_numbers fd_say fd_law_is : FuncData}
theorem ok_is {f : Addr} {fd : FuncData} (F : Fun K "_law_is" "_law_is" s_law_is f fd) (G_law_table : FnOk P w K mg base CX0 2 f_law_table fd_law_table ["_law_words_here"] (spC K (C_table K))) (g_law_table : mg "_law_table" = some (.ref f_law_table)) (k_law_table : PySem.W.keepIn K (.ref f_law_table) = true) (b_law_table : Binds K fd_law_table ["_law_words_here"] [])
    (G_law_bool : FnOk P w K mg base CX0 1 f_law_bool fd_law_bool ["_law_told", "_law_due"] (spC K (C_bool K))) (g_law_bool : mg "_law_bool" = some (.ref f_law_bool)) (k_law_bool : PySem.W.keepIn K (.ref f_law_bool) = true) (b_law_bool : Binds K fd_law_bool ["_law_told", "_law_due"] [])
    (c_LastWords : Cls K C) (mt_last : Meth K C "last" f_last) (G_last : FnOk P w K mg base CX0 1 f_last fd_last ["self", "number"] (spC K (C_last K C))) (b_last : Binds K fd_last ["self", "number"] [])
    (mt_seen : Meth K C "seen" f_seen) (G_seen : FnOk P w K mg base CX0 1 f_seen fd_seen ["self", "number"] (spC K (C_seen K C))) (b_seen : Binds K fd_seen ["self", "number"] [])
    (mt_numbers : Meth K C "numbers" f_numbers) (G_numbers : FnOk P w K mg base CX0 1 f_numbers fd_numbers ["self"] (spC K (C_numbers K C))) (b_numbers : Binds K fd_numbers ["self"] [])
    (m_isinstance : mg "isinstance" = none) (m_list : mg "list" = none) (m_sorted : mg "sorted" = none) (m_tuple : mg "tuple" = none) : FnOk P w K mg base CX0 3 f fd ["_law_told", "_law_words_here", "_law_pool"] (spC K (C_is K C)) := by
  refine okC F sc_law_is (fun c h => by obtain ⟨v, t, rs, pool, _, _, _, _, _, rfl⟩ := h; rfl) fun cdv A outer s H vs Q E hr => ⟨_, ((pss_cons (ps_set (i := 3) sc_law_is.nd rfl (.inl rfl) (pe_call G_law_table (hr.mono (by decide)) rfl g_law_table k_law_table b_law_table .nil pass0 (pa_cons (pv 1) pa_nil)))
      (pss_cons (ps_for PassesOwn.never rfl (pi_any (pv 2)) (pg_name (i := 4) sc_law_is.nd rfl (.inl rfl))
      (pss_one (ps_if (pt_cmp (pc_dnotin (hu_of hr) (pv 4) (pv 3)) rfl)
      (pss_one (ps_if (PW.pt (pw_or (pt_cmpR op_notN (pe_meth (pv 0) c_LastWords mt_last G_last (hr.mono (by decide)) b_last .nil pass0 (pa_cons (pv 4) pa_nil)) pe_non (nomark _)) (pw_or1 (pt_cmpR op_isnot_bl (pe_meth (pv 0) c_LastWords mt_seen G_seen (hr.mono (by decide)) b_seen .nil pass0 (pa_cons (pv 4) pa_nil)) pe_bl (nomark _)))))
      (pss_one (ps_ret pe_bl))
      pss_nil))
      (pss_one (ps_if (PW.pt (pw_or (pt_cmpR (op_neD (hu64 hr)) (pe_meth (pv 0) c_LastWords mt_last G_last (hr.mono (by decide)) b_last .nil pass0 (pa_cons (pv 4) pa_nil)) (pe_dget (hu_of hr) (pv 3) (pv 4) (fun _ _ => rfl)) (nomark _)) (pw_or1 (pt_not (pt_val (pe_callB call_isi rfl m_isinstance (by decide +kernel) (pa_cons (pe_meth (pv 0) c_LastWords mt_last G_last (hr.mono (by decide)) b_last .nil pass0 (pa_cons (pv 4) pa_nil)) (pa_cons (pe_bltn (v := .ty "tuple") rfl m_tuple (by decide +kernel) rfl) pa_nil))))))))
      (pss_one (ps_ret pe_bl))
      (pss_one (ps_if (pt_not (pt_val (pe_call G_law_bool (hr.mono (by decide)) rfl g_law_bool k_law_bool b_law_bool .nil pass0 (pa_cons (pe_meth (pv 0) c_LastWords mt_seen G_seen (hr.mono (by decide)) b_seen .nil pass0 (pa_cons (pv 4) pa_nil)) (pa_cons (pe_ix ix_seq (pe_dget (hu_of hr) (pv 3) (pv 4) (fun _ _ => rfl)) pe_int (fun _ _ => rfl)) pa_nil)))))
      (pss_one (ps_ret pe_bl))
      (pss_one (ps_if (pt_not (pt_val (pe_call G_law_bool (hr.mono (by decide)) rfl g_law_bool k_law_bool b_law_bool .nil pass0 (pa_cons (pe_ix ix_seq (pe_meth (pv 0) c_LastWords mt_last G_last (hr.mono (by decide)) b_last .nil pass0 (pa_cons (pv 4) pa_nil)) pe_int (fun _ _ => rfl)) (pa_cons (pe_ix ix_seq (pe_dget (hu_of hr) (pv 3) (pv 4) (fun _ _ => rfl)) pe_int (fun _ _ => rfl)) pa_nil)))))
      (pss_one (ps_ret pe_bl))
      pss_nil)))))))))
      (pss_one (ps_ret (pe_and (pe_callB call_isi rfl m_isinstance (by decide +kernel) (pa_cons (pe_meth0 (pv 0) c_LastWords mt_numbers G_numbers (hr.mono (by decide)) b_numbers .nil pass0) (pa_cons (pe_bltn (v := .ty "list") rfl m_list (by decide +kernel) rfl) pa_nil))) (pe_one (pe_cmpR (op_eqD (hu64 hr)) (pe_meth0 (pv 0) c_LastWords mt_numbers G_numbers (hr.mono (by decide)) b_numbers .nil pass0) (pe_callB cr_sortedI rfl m_sorted (by decide +kernel) (pa_cons (pe_callTy (call_listD rfl) rfl m_list (by decide +kernel) (pa_cons (pv 3) pa_nil)) pa_nil)) (nomark _))))))))), ?_⟩
  rintro _ ⟨v, t, rs, pool, ok, te, hw, hl, hrl, rfl⟩
  refine body_d (Γ0 := [.res v (Rlw K C t), .dat (rowsD rs), .dat (intL pool), .em, .em]) (Γ := [.res v (Rlw K C t), .dat (rowsD rs), .dat (intL pool), .dat (D.dict (encT (tab rs))), .em]) (z' := .bl true) ?_ rfl (by walk_at "po") rfl
  refine run_seq (Γ1 := [.res v (Rlw K C t), .dat (rowsD rs), .dat (intL pool), .dat (D.dict (encT (tab rs))), .em]) (Run.is (run_asg (m := .e) (Γ1 := [.res v (Rlw K C t), .dat (rowsD rs), .dat (intL pool), .em, .em]) (ev_call0 (m := .e) (ds := [rowsD rs]) (ea_cons (ev_var rfl) ea_nil) (con_table hw (by omega)))) rfl) ?_
  refine run_seq (Γ1 := [.res v (Rlw K C t), .dat (rowsD rs), .dat (intL pool), .dat (D.dict (encT (tab rs))), .em]) ?_ ?_
  · refine run_for (m := .e) (ds := pool.map .int) (n := pool.length) (Γ1 := [.res v (Rlw K C t), .dat (rowsD rs), .dat (intL pool), .dat (D.dict (encT (tab rs))), .em]) (fun i => [.res v (Rlw K C t), .dat (rowsD rs), .dat (intL pool), .dat (D.dict (encT (tab rs))), .em]) (it_anyL (ev_var rfl)) rfl (by simp) (fun i d hi hd => ?_) (.inl ⟨by simp, rfl⟩)
    obtain ⟨n, rfl⟩ : ∃ n, d = .int n := by
      rw [List.getElem?_map, List.getElem?_eq_getElem hi] at hd
      exact ⟨_, (Option.some.inj hd).symm⟩
    refine turn_g (Γ1 := [.res v (Rlw K C t), .dat (rowsD rs), .dat (intL pool), .dat (D.dict (encT (tab rs))), .dat (.int n)]) (by walk_at "rg") (Run.lp (Run.nxWeak (Γ1 := [.res v (Rlw K C t), .dat (rowsD rs), .dat (intL pool), .dat (D.dict (encT (tab rs))), .dat (.int n)]) ?_ (by walk_at "wk")))
    have hlast := ev_meth (K := K) (C := C) (mm := "last") (E := E0) (m := .e) (to := tVar 0) (ta := tCons (tVar 4) tNil) (Γ := [.res v (Rlw K C t), .dat (rowsD rs), .dat (intL pool), .dat (D.dict (encT (tab rs))), .dat (.int n)]) (Γ' := [.res v (Rlw K C t), .dat (rowsD rs), .dat (intL pool), .dat (D.dict (encT (tab rs))), .dat (.int n)]) (ds := [.int n]) (R := Rlw K C t) (R' := Rlw K C t) (refE_var (k := 0) rfl) (plc_slot (k := 0) rfl) (ob_lw (by decide)) (ea_cons (ev_var rfl) ea_nil) (plc_slot (k := 0) rfl) (con_of (C := C_last K C) ⟨v, t, n, rfl⟩)
    have hseen := ev_meth (K := K) (C := C) (mm := "seen") (E := E0) (m := .e) (to := tVar 0) (ta := tCons (tVar 4) tNil) (Γ := [.res v (Rlw K C t), .dat (rowsD rs), .dat (intL pool), .dat (D.dict (encT (tab rs))), .dat (.int n)]) (Γ' := [.res v (Rlw K C t), .dat (rowsD rs), .dat (intL pool), .dat (D.dict (encT (tab rs))), .dat (.int n)]) (ds := [.int n]) (R := Rlw K C t) (R' := Rlw K C t) (refE_var (k := 0) rfl) (plc_slot (k := 0) rfl) (ob_lw (by decide)) (ea_cons (ev_var rfl) ea_nil) (plc_slot (k := 0) rfl) (con_of (C := C_seen K C) ⟨v, t, n, rfl⟩)
    have hin := ev_dnotin (K := K) (m := .e) (Γ := [.res v (Rlw K C t), .dat (rowsD rs), .dat (intL pool), .dat (D.dict (encT (tab rs))), .dat (.int n)]) (td := tVar 3) (ty := tVar 4) (k := .inl n) (kd := .int n) (es := encT (tab rs)) (ev_var rfl) (ev_var rfl) kInt
    have lk := look_enc (tab rs) n
    rw [te n] at hlast hseen
    rw [lk] at hin
    cases hg : tget (tab rs) n with
    | none =>
      rw [hg] at hlast hseen hin
      refine run_if (m := .e) (b := true) (Γ1 := [.res v (Rlw K C t), .dat (rowsD rs), .dat (intL pool), .dat (D.dict (encT (tab rs))), .dat (.int n)]) (evt_B hin) (fun _ => ?_) (fun h => nomatch h)
      refine run_if (m := .e) (b := false) (Γ1 := [.res v (Rlw K C t), .dat (rowsD rs), .dat (intL pool), .dat (D.dict (encT (tab rs))), .dat (.int n)]) ?_ (fun h => nomatch h) (fun _ => run_next)
      exact EvT.is (evt_or (a := false) (b := false) (Γ1 := [.res v (Rlw K C t), .dat (rowsD rs), .dat (intL pool), .dat (D.dict (encT (tab rs))), .dat (.int n)]) (evt_test (ev_op hlast ev_non (opd_notO (o := none)))) (fun _ => evt_test (ev_op hseen ev_bl opd_isnotBl)) (fun h => nomatch h)) rfl
    | some a =>
      rw [hg] at hlast hseen hin lk
      have ha : wOk a := tab_ws hw (n, a) (tget_mem hg)
      have hget := ev_dget (K := K) (m := .e) (Γ := [.res v (Rlw K C t), .dat (rowsD rs), .dat (intL pool), .dat (D.dict (encT (tab rs))), .dat (.int n)]) (td := tVar 3) (ty := tVar 4) (k := .inl n) (kd := .int n) (es := encT (tab rs)) (d := wD a) (ev_var rfl) (ev_var rfl) kInt lk
      have hget2 := ev_op (K := K) (r := rIx K) hget ev_int (opd_ixT (K := K) (ds := [.int a.1, .str a.2.1, .bl a.2.2]) (k := 2) (d := .bl a.2.2) rfl)
      have hlast2 := ev_op (K := K) (r := rIx K) hlast ev_int (opd_ixT (K := K) (ds := [.int a.1, .str a.2.1, .bl a.2.2]) (k := 2) (d := .bl a.2.2) rfl)
      refine run_if (m := .e) (b := false) (Γ1 := [.res v (Rlw K C t), .dat (rowsD rs), .dat (intL pool), .dat (D.dict (encT (tab rs))), .dat (.int n)]) (evt_B hin) (fun h => nomatch h) (fun _ => ?_)
      refine run_if (m := .e) (b := false) (Γ1 := [.res v (Rlw K C t), .dat (rowsD rs), .dat (intL pool), .dat (D.dict (encT (tab rs))), .dat (.int n)]) ?_ (fun h => nomatch h) (fun _ => ?_)
      · refine EvT.is (evt_or (a := false) (b := false) (Γ1 := [.res v (Rlw K C t), .dat (rowsD rs), .dat (intL pool), .dat (D.dict (encT (tab rs))), .dat (.int n)]) ?_ (fun _ => ?_) (fun h => nomatch h)) rfl
        · refine evt_test (Ev.is (ev_op hlast hget (opd_neD (word_shaped ha) (word_shaped ha))) ?_)
          show D.bl (!D.eqv (wD a) (wD a)) = _
          rw [eqv_word]
          simp
        · exact EvT.is (evt_not (evt_B (ev_cb (ea_cons hlast (ea_cons ev_raw ea_nil)) (cd_isi rfl (show kitB "tuple" "tuple" = some true by decide +kernel))))) rfl
      refine run_if (m := .e) (b := false) (Γ1 := [.res v (Rlw K C t), .dat (rowsD rs), .dat (intL pool), .dat (D.dict (encT (tab rs))), .dat (.int n)]) ?_ (fun h => nomatch h) (fun _ => ?_)
      · refine EvT.is (evt_not (evt_B (ev_call0 (ds := [.bl a.2.2, .bl a.2.2]) (ea_cons hseen (ea_cons hget2 ea_nil)) con_bool))) ?_
        simp
      refine run_if (m := .e) (b := false) (Γ1 := [.res v (Rlw K C t), .dat (rowsD rs), .dat (intL pool), .dat (D.dict (encT (tab rs))), .dat (.int n)]) ?_ (fun h => nomatch h) (fun _ => run_next)
      refine EvT.is (evt_not (evt_B (ev_call0 (ds := [.bl a.2.2, .bl a.2.2]) (ea_cons hlast2 (ea_cons hget2 ea_nil)) con_bool))) ?_
      simp
  · have hnum := ev_meth (K := K) (C := C) (mm := "numbers") (E := E0) (m := .e) (to := tVar 0) (ta := tNil) (Γ := [.res v (Rlw K C t), .dat (rowsD rs), .dat (intL pool), .dat (D.dict (encT (tab rs))), .em]) (Γ' := [.res v (Rlw K C t), .dat (rowsD rs), .dat (intL pool), .dat (D.dict (encT (tab rs))), .em]) (ds := []) (R := Rlw K C t) (R' := Rlw K C t) (refE_var (k := 0) rfl) (plc_slot (k := 0) rfl) (ob_lw (by decide)) ea_nil (plc_slot (k := 0) rfl) (con_of (C := C_numbers K C) ⟨v, t, hl, .inl rfl⟩)
    have en : numsL t = isort ((tab rs).map (·.1)) := isort_uniq ((isort_perm _).trans (teq_keys ok (tab_ok rs) te)) (isort_sorted _)
    have hs : CallD K (rSortedI K) [.lst ((encT (tab rs)).map fun e => kD e.1)] (intL (isort ((tab rs).map (·.1)))) := by
      rw [show ((encT (tab rs)).map fun e => kD e.1) = ((tab rs).map (·.1)).map .int from by unfold encT; rw [List.map_map, List.map_map]; rfl]
      exact cd_sortedI
    refine run_ret (m := .e) (Ev.is (ev_andV (a := true) (b := true) (Γ1 := [.res v (Rlw K C t), .dat (rowsD rs), .dat (intL pool), .dat (D.dict (encT (tab rs))), .em]) ?_ (fun _ => ?_) (fun h => nomatch h)) rfl)
    · exact ev_cb (ea_cons hnum (ea_cons ev_raw ea_nil)) (cd_isi rfl (show kitB "list" "list" = some true by decide +kernel))
    · refine Ev.is (ev_op hnum (ev_cb (ea_cons (ev_cb (ea_cons (ev_var rfl) ea_nil) cd_listDic) ea_nil) hs) (opd_eqD (ints_shaped _) (ints_shaped _))) ?_
      show D.bl (D.eqv (intL (numsL t)) (intL (isort ((tab rs).map (·.1))))) = _
      rw [en, eqv_ints]
theorem con_say {v : V} {t : Tb} {r : Row} (hl : t.length ≤ 1000) : FD.Con K (spC K (C_say K C)) [.res v (Rlw K C t), .dat (.int r.1), .dat (.bl r.2.2.2), .dat (.int r.2.1), .dat (.str r.2.2.1)] (.bl (newB t r)) [.res v (Rlw K C (tadd t r)), .dat (.int r.1), .dat (.bl r.2.2.2), .dat (.int r.2.1), .dat (.str r.2.2.1)] := con_of ⟨v, t, r, hl, rfl⟩
theorem con_new {rs : List Row} (hw : wsOk rs) (hl : rs.length ≤ 1000) (v : V) : FD.Con K (spStar 1 (spC K (C_init K C))) (.res v (Robj K C [] []) :: (rs.map rD).map .dat) .non (.res v (Rlw K C (tab rs)) :: (rs.map rD).map .dat) :=
  con_star (fun v => con_of ⟨v, rs, hw, hl, rfl⟩) (by rw [List.length_map]; exact Nat.le_of_lt (small1000 hl)) v
theorem ok_made {f : Addr} {fd : FuncData} (F : Fun K "_law_made" "_law_made" s_law_made f fd) (c_LastWords : Cls K C) (M_LastWords : Mk K C f_init) (G_init : FnR P w K mg base CX0 2 f_init (spStar 1 (spC K (C_init K C)))) (g_LastWords : mg "LastWords" = some (.ref C))
    (mt_say : Meth K C "say" f_say) (G_say : FnOk P w K mg base CX0 1 f_say fd_say ["self", "number", "seen", "count", "device"] (spC K (C_say K C))) (kb_say : KBn K fd_say ["self", "number", "seen", "count", "device"] 3 ["count", "device"] (fun us ws => us ++ ws) (fun vs zs => vs ++ zs)) : FnOk P w K mg base CX0 4 f fd ["_law_words_here"] (spC K (C_made K C)) := by
  refine okC F sc_law_made (fun c h => by obtain ⟨rs, _, _, rfl⟩ := h; rfl) fun cdv A outer s H vs Q E hr => ⟨_, ((pss_cons (ps_set (i := 1) sc_law_made.nd rfl (.inl rfl) (pe_makeR0 M_LastWords G_init (hr.mono (by decide)) rfl g_LastWords pass0))
      (pss_cons (ps_for PassesOwn.never rfl (pi_any (pv 0)) (pg_tup rfl (pgs_cons (pg_name (i := 2) sc_law_made.nd rfl (.inl rfl)) (pgs_cons (pg_name (i := 3) sc_law_made.nd rfl (.inl rfl)) (pgs_cons (pg_name (i := 4) sc_law_made.nd rfl (.inl rfl)) (pgs_cons (pg_name (i := 5) sc_law_made.nd rfl (.inl rfl)) pgs_nil)))))
      (pss_one (ps_expr (pe_methN (pv 1) c_LastWords mt_say G_say (hr.mono (by decide)) kb_say pass0 (pa_cons (pv 2) (pa_cons (pv 3) pa_nil)) (pk_cons (pv 4) (pk_cons (pv 5) pk_nil))))))
      (pss_one (ps_ret (pv 1)))))), ?_⟩
  rintro _ ⟨rs, hw, hl, rfl⟩
  refine body_r (Γ0 := [.dat (rowsD rs), .em, .em, .em, .em, .em]) (Γ := [.dat (rowsD rs), .em, .em, .em, .em, .em]) (R := Rlw K C (tab rs)) ?_ rfl (by walk_at "po")
  refine run_asgR (R := Rlw K C (tab [])) (Γ1 := [.dat (rowsD rs), .em, .em, .em, .em, .em]) (er_makeR (m := .e) (ds := []) ea_nil (con_new (rs := []) (fun _ h => by simp at h) (by decide))) (by simp) fun vm => ?_
  refine run_seq (Γ1 := [.dat (rowsD rs), .res vm (Rlw K C (tab rs)), .em, .em, .em, .em]) ?_ (run_retRes (k := 1) rfl)
  refine run_for (m := .e) (ds := rs.map rD) (n := rs.length) (Γ1 := [.dat (rowsD rs), .res vm (Rlw K C (tab [])), .em, .em, .em, .em]) (fun i => [.dat (rowsD rs), .res vm (Rlw K C (tab (rs.take i))), .em, .em, .em, .em]) (it_anyL (ev_var rfl)) rfl (by simp) (fun i d hi hd => ?_) (.inl ⟨by simp, by rw [List.take_length]⟩)
  obtain ⟨_, rfl⟩ := rD_get hd
  rw [tab_take hi]
  have hlt : (tab (rs.take i)).length ≤ 1000 := Nat.le_trans (tab_len _) (by rw [List.length_take]; omega)
  generalize tab (rs.take i) = t at hlt ⊢
  generalize rs[i] = r
  refine turn_g (Γ1 := [.dat (rowsD rs), .res vm (Rlw K C t), .dat (.int r.1), .dat (.bl r.2.2.2), .dat (.int r.2.1), .dat (.str r.2.2.1)]) (by walk_at "rg") (Run.lp (Run.nxWeak (Γ1 := [.dat (rowsD rs), .res vm (Rlw K C (tadd t r)), .dat (.int r.1), .dat (.bl r.2.2.2), .dat (.int r.2.1), .dat (.str r.2.2.1)]) ?_ (by walk_at "wk")))
  exact Run.is (run_drop (m := .e) (ev_methN (m := .e) (ds := [.int r.1, .bl r.2.2.2]) (es := [.int r.2.1, .str r.2.2.1]) (R := Rlw K C t) (R' := Rlw K C (tadd t r)) (Γ1 := [.dat (rowsD rs), .res vm (Rlw K C t), .dat (.int r.1), .dat (.bl r.2.2.2), .dat (.int r.2.1), .dat (.str r.2.2.1)]) (Γ' := [.dat (rowsD rs), .res vm (Rlw K C t), .dat (.int r.1), .dat (.bl r.2.2.2), .dat (.int r.2.1), .dat (.str r.2.2.1)]) (refE_var (k := 1) rfl) (plc_slot (k := 1) rfl) (ob_lw (by decide)) (by walk_at "ea") (by walk_at "ea") (plc_slot (k := 1) rfl) rfl rfl (fun _ _ _ _ => rfl) (con_say hlt))) rfl
theorem new_eq {t : Tb} {r : Row} (ok : TOk t) : (eqDic (encT t) (encT (tadd t r)) ^^ true) = newB t r := by
  have e := eqDic_enc ok (tadd_ok (r := r) ok)
  have g := tget_tadd t r r.1
  rw [if_pos rfl] at g
  cases hb : newB t r with
  | true =>
    have : ¬ TEq t (tadd t r) := fun h => by
      have h1 := h r.1
      rw [g] at h1
      unfold newB at hb
      cases hg : tget t r.1 with
      | none => rw [hg] at h1; cases h1
      | some v =>
        rw [hg] at h1 hb
        have hb' : wmore r.2 v = true := hb
        have h2 : some v = some (if wmore r.2 v then r.2 else v) := h1
        rw [if_pos hb'] at h2
        have h3 := Option.some.inj h2
        rw [← h3] at hb'
        exact wm_irr v ((wmore_iff _ _).mp hb')
    have hf : eqDic (encT t) (encT (tadd t r)) = false := by
      cases q : eqDic (encT t) (encT (tadd t r)) with
      | false => rfl
      | true => exact absurd (e.mp q) this
    rw [hf]
    rfl
  | false =>
    have ht : tadd t r = t := by
      unfold newB at hb
      unfold tadd
      cases hg : tget t r.1 with
      | none => rw [hg] at hb; cases hb
      | some v =>
        rw [hg] at hb
        have hb' : wmore r.2 v = false := hb
        exact if_neg (by rw [hb']; exact Bool.false_ne_true)
    rw [ht] at e ⊢
    rw [e.mpr fun n => rfl]
    rfl
theorem ok_saidL {f : Addr} {fd : FuncData} (F : Fun K "_law_said" "_law_said" s_law_said f fd) (G_law_table : FnOk P w K mg base CX0 2 f_law_table fd_law_table ["_law_words_here"] (spC K (C_table K))) (g_law_table : mg "_law_table" = some (.ref f_law_table)) (k_law_table : PySem.W.keepIn K (.ref f_law_table) = true) (b_law_table : Binds K fd_law_table ["_law_words_here"] [])
    (G_law_bool : FnOk P w K mg base CX0 1 f_law_bool fd_law_bool ["_law_told", "_law_due"] (spC K (C_bool K))) (g_law_bool : mg "_law_bool" = some (.ref f_law_bool)) (k_law_bool : PySem.W.keepIn K (.ref f_law_bool) = true) (b_law_bool : Binds K fd_law_bool ["_law_told", "_law_due"] [])
    (G_law_is : FnOk P w K mg base CX0 3 f_law_is fd_law_is ["_law_told", "_law_words_here", "_law_pool"] (spC K (C_is K C))) (g_law_is : mg "_law_is" = some (.ref f_law_is)) (k_law_is : PySem.W.keepIn K (.ref f_law_is) = true) (b_law_is : Binds K fd_law_is ["_law_told", "_law_words_here", "_law_pool"] [])
    (c_LastWords : Cls K C) (mt_say : Meth K C "say" f_say) (G_say : FnOk P w K mg base CX0 1 f_say fd_say ["self", "number", "seen", "count", "device"] (spC K (C_say K C))) (kb_say : KBn K fd_say ["self", "number", "seen", "count", "device"] 3 ["count", "device"] (fun us ws => us ++ ws) (fun vs zs => vs ++ zs)) (m_enumerate : mg "enumerate" = none) : FnOk P w K mg base CX0 4 f fd ["_law_told", "_law_words_here", "_law_pool"] (spC K (C_saidL K C)) := by
  refine okC F sc_law_said (fun c h => by obtain ⟨v, rs, pool, _, _, rfl⟩ := h; rfl) fun cdv A outer s H vs Q E hr => ⟨_, ((pss_cons (ps_for PassesOwn.never rfl (pi_enum rfl m_enumerate (pa_cons (pv 1) pa_nil)) (pg_tup rfl (pgs_cons (pg_name (i := 3) sc_law_said.nd rfl (.inl rfl)) (pgs_cons (pg_tup rfl (pgs_cons (pg_name (i := 4) sc_law_said.nd rfl (.inl rfl)) (pgs_cons (pg_name (i := 5) sc_law_said.nd rfl (.inl rfl)) (pgs_cons (pg_name (i := 6) sc_law_said.nd rfl (.inl rfl)) (pgs_cons (pg_name (i := 7) sc_law_said.nd rfl (.inl rfl)) pgs_nil))))) pgs_nil)))
      (pss_cons (ps_set (i := 8) sc_law_said.nd rfl (.inl rfl) (pe_cmpR (op_neDic (hu65 hr)) (pe_call G_law_table (hr.mono (by decide)) rfl g_law_table k_law_table b_law_table .nil pass0 (pa_cons (pe_slice sl_any (pv 1) po_none (po_some (pv 3))) pa_nil)) (pe_call G_law_table (hr.mono (by decide)) rfl g_law_table k_law_table b_law_table .nil pass0 (pa_cons (pe_slice sl_any (pv 1) po_none (po_some (pe_op op_addA (pv 3) pe_int))) pa_nil)) (nomark _)))
      (pss_cons (ps_if (pt_not (pt_val (pe_call G_law_bool (hr.mono (by decide)) rfl g_law_bool k_law_bool b_law_bool .nil pass0 (pa_cons (pe_methN (pv 0) c_LastWords mt_say G_say (hr.mono (by decide)) kb_say pass0 (pa_cons (pv 4) (pa_cons (pv 5) pa_nil)) (pk_cons (pv 6) (pk_cons (pv 7) pk_nil))) (pa_cons (pv 8) pa_nil)))))
      (pss_one (ps_ret pe_bl))
      pss_nil)
      (pss_one (ps_if (pt_not (pt_val (pe_call G_law_is (hr.mono (by decide)) rfl g_law_is k_law_is b_law_is .nil pass0 (pa_cons (pv 0) (pa_cons (pe_slice sl_any (pv 1) po_none (po_some (pe_op op_addA (pv 3) pe_int))) (pa_cons (pv 2) pa_nil))))))
      (pss_one (ps_ret pe_bl))
      pss_nil)))))
      (pss_one (ps_ret pe_bl)))), ?_⟩
  rintro _ ⟨v, rs, pool, hw, hl, rfl⟩
  refine body_d (Γ0 := [.res v (Rlw K C []), .dat (rowsD rs), .dat (intL pool), .em, .em, .em, .em, .em, .em]) (Γ := [.res v (Rlw K C (tab rs)), .dat (rowsD rs), .dat (intL pool), .em, .em, .em, .em, .em, .em]) (z' := .bl true) ?_ rfl (by walk_at "po") rfl
  refine run_seq (Γ1 := [.res v (Rlw K C (tab rs)), .dat (rowsD rs), .dat (intL pool), .em, .em, .em, .em, .em, .em]) ?_ (run_ret (m := .e) ev_bl)
  refine run_for (m := .e) (ds := enumD (rs.map rD)) (n := rs.length) (Γ1 := [.res v (Rlw K C []), .dat (rowsD rs), .dat (intL pool), .em, .em, .em, .em, .em, .em]) (fun i => [.res v (Rlw K C (tab (rs.take i))), .dat (rowsD rs), .dat (intL pool), .em, .em, .em, .em, .em, .em]) (it_enum (ea_cons (ev_var rfl) ea_nil)) rfl (by simp [enumD]) (fun i d hi hd => ?_) (.inl ⟨by simp [enumD], by rw [List.take_length]⟩)
  have hd' : d = .tup [.int (i : Nat), rD rs[i]] := by
    rw [enumD_map, List.getElem?_map, List.getElem?_zipIdx, List.getElem?_eq_getElem hi] at hd
    simpa using hd.symm
  subst hd'
  have htk : tab (rs.take (i + 1)) = tadd (tab (rs.take i)) rs[i] := tab_take hi
  have hlt : (tab (rs.take i)).length ≤ 1000 := Nat.le_trans (tab_len _) (by rw [List.length_take]; omega)
  have hw1 : wsOk (rs.take i) := fun r hr => hw r (List.mem_of_mem_take hr)
  have hw2 : wsOk (rs.take (i + 1)) := fun r hr => hw r (List.mem_of_mem_take hr)
  have hl1 : (rs.take i).length ≤ 1000 := by rw [List.length_take]; omega
  have hl2 : (rs.take (i + 1)).length < 64 := by rw [List.length_take]; omega
  have cut : ∀ k : Nat, SlD K (rSlAny K) (rowsD rs) none (some (k : Int)) (rowsD (rs.take k)) := fun k => by
    have q := sld_list (K := K) (ds := rs.map rD) (lo := none) (hi := some (k : Int))
    rw [cutD_to, ← List.map_take] at q
    exact q
  generalize hr' : rs[i] = r at htk ⊢
  refine turn_g (Γ1 := [.res v (Rlw K C (tab (rs.take i))), .dat (rowsD rs), .dat (intL pool), .dat (.int (i : Nat)), .dat (.int r.1), .dat (.bl r.2.2.2), .dat (.int r.2.1), .dat (.str r.2.2.1), .em]) (by walk_at "rg") (Run.lp (Run.nxWeak (Γ1 := [.res v (Rlw K C (tab (rs.take (i + 1)))), .dat (rowsD rs), .dat (intL pool), .dat (.int (i : Nat)), .dat (.int r.1), .dat (.bl r.2.2.2), .dat (.int r.2.1), .dat (.str r.2.2.1), .dat (.bl (newB (tab (rs.take i)) r))]) ?_ (by walk_at "wk")))
  refine run_seq (Γ1 := [.res v (Rlw K C (tab (rs.take i))), .dat (rowsD rs), .dat (intL pool), .dat (.int (i : Nat)), .dat (.int r.1), .dat (.bl r.2.2.2), .dat (.int r.2.1), .dat (.str r.2.2.1), .dat (.bl (newB (tab (rs.take i)) r))]) ?_ ?_
  · refine Run.is (run_asg (m := .e) (d := .bl (newB (tab (rs.take i)) r)) (Γ1 := [.res v (Rlw K C (tab (rs.take i))), .dat (rowsD rs), .dat (intL pool), .dat (.int (i : Nat)), .dat (.int r.1), .dat (.bl r.2.2.2), .dat (.int r.2.1), .dat (.str r.2.2.1), .em]) (Ev.is (ev_op (x := D.dict (encT (tab (rs.take i)))) (y := D.dict (encT (tab (rs.take (i + 1))))) (ev_call0 (m := .e) (ds := [rowsD (rs.take i)]) (ea_cons (ev_sl (ev_var rfl) eo_none (eo_some (ev_var rfl)) (cut i)) ea_nil) (con_table hw1 hl1)) (ev_call0 (m := .e) (ds := [rowsD (rs.take (i + 1))]) (ea_cons (ev_sl (ev_var rfl) eo_none (eo_some (ev_op (ev_var rfl) ev_int opd_add)) (cut (i + 1))) ea_nil) (con_table hw2 (by omega))) (opd_eqDic (enc_shaped (tab_ws hw1)) (enc_shaped (tab_ws hw2)))) ?_)) rfl
    rw [htk, new_eq (tab_ok _)]
  have hsay := ev_methN (K := K) (C := C) (mm := "say") (E := E0) (m := .e) (n := 3) (l := 2) (gV := fun vs zs => vs ++ zs) (to := tVar 0) (ta := tCons (tVar 4) (tCons (tVar 5) tNil)) (tk := tCons (tVar 6) (tCons (tVar 7) tNil)) (ds := [.int r.1, .bl r.2.2.2]) (es := [.int r.2.1, .str r.2.2.1]) (R := Rlw K C (tab (rs.take i))) (R' := Rlw K C (tab (rs.take (i + 1)))) (Γ := [.res v (Rlw K C (tab (rs.take i))), .dat (rowsD rs), .dat (intL pool), .dat (.int (i : Nat)), .dat (.int r.1), .dat (.bl r.2.2.2), .dat (.int r.2.1), .dat (.str r.2.2.1), .dat (.bl (newB (tab (rs.take i)) r))]) (Γ1 := [.res v (Rlw K C (tab (rs.take i))), .dat (rowsD rs), .dat (intL pool), .dat (.int (i : Nat)), .dat (.int r.1), .dat (.bl r.2.2.2), .dat (.int r.2.1), .dat (.str r.2.2.1), .dat (.bl (newB (tab (rs.take i)) r))]) (Γ' := [.res v (Rlw K C (tab (rs.take i))), .dat (rowsD rs), .dat (intL pool), .dat (.int (i : Nat)), .dat (.int r.1), .dat (.bl r.2.2.2), .dat (.int r.2.1), .dat (.str r.2.2.1), .dat (.bl (newB (tab (rs.take i)) r))]) (refE_var (k := 0) rfl) (plc_slot (k := 0) rfl) (ob_lw (by decide)) (by walk_at "ea") (by walk_at "ea") (plc_slot (k := 0) rfl) rfl rfl (fun _ _ _ _ => rfl) (by rw [htk]; exact con_say hlt)
  refine run_seq (Γ1 := [.res v (Rlw K C (tab (rs.take (i + 1)))), .dat (rowsD rs), .dat (intL pool), .dat (.int (i : Nat)), .dat (.int r.1), .dat (.bl r.2.2.2), .dat (.int r.2.1), .dat (.str r.2.2.1), .dat (.bl (newB (tab (rs.take i)) r))]) ?_ ?_
  · refine run_if (m := .e) (b := false) (Γ1 := [.res v (Rlw K C (tab (rs.take (i + 1)))), .dat (rowsD rs), .dat (intL pool), .dat (.int (i : Nat)), .dat (.int r.1), .dat (.bl r.2.2.2), .dat (.int r.2.1), .dat (.str r.2.2.1), .dat (.bl (newB (tab (rs.take i)) r))]) ?_ (fun h => nomatch h) (fun _ => run_next)
    refine EvT.is (evt_not (evt_B (ev_call0 (m := .e) (ds := [.bl (newB (tab (rs.take i)) r), .bl (newB (tab (rs.take i)) r)]) (ea_cons hsay (ea_cons (ev_var rfl) ea_nil)) con_bool))) ?_
    simp
  · refine run_if (m := .e) (b := false) (Γ1 := [.res v (Rlw K C (tab (rs.take (i + 1)))), .dat (rowsD rs), .dat (intL pool), .dat (.int (i : Nat)), .dat (.int r.1), .dat (.bl r.2.2.2), .dat (.int r.2.1), .dat (.str r.2.2.1), .dat (.bl (newB (tab (rs.take i)) r))]) ?_ (fun h => nomatch h) (fun _ => run_next)
    refine EvT.eq (evt_not (evt_B (ev_call1 (m := .e) (i := 0) (v := v) (R := Rlw K C (tab (rs.take (i + 1)))) (R' := Rlw K C (tab (rs.take (i + 1)))) (ds := [rowsD (rs.take (i + 1)), intL pool]) (Γ' := [.res v (Rlw K C (tab (rs.take (i + 1)))), .dat (rowsD rs), .dat (intL pool), .dat (.int (i : Nat)), .dat (.int r.1), .dat (.bl r.2.2.2), .dat (.int r.2.1), .dat (.str r.2.2.1), .dat (.bl (newB (tab (rs.take i)) r))]) (ea_cons (ev_sl (ev_var rfl) eo_none (eo_some (ev_op (ev_var rfl) ev_int opd_add)) (cut (i + 1))) (ea_cons (ev_var rfl) ea_nil)) rfl rfl (con_is (tab_ok _) (fun _ => rfl) hw2 (Nat.lt_of_le_of_lt (tab_len _) hl2) hl2)))) rfl rfl
end


set_option maxHeartbeats 2000000

abbrev s_law : Stmt := topS 17
theorem sc_law : FnScope ["_law_script", "_law_at", "_law_bag_here", "_law_first", "_law_names_here", "_law_pool", "_law_words_here", "_law_near", "_law_far", "_law_cut", "_law_one", "_law_two", "_law_join", "_law_other", "_law_is_like", "_law_made_here", "_law_k"] ["_law_script"] (defScope s_law) := ⟨rfl, rfl, rfl, by decide +kernel, rfl, by decide +kernel, by decide +kernel⟩
theorem sl_to {K : PySem.W.Frag} {α : Type} {f : α → D} {l : List α} {k : Nat} : SlD K (rSlAny K) (.lst (l.map f)) none (some (k : Int)) (.lst ((l.take k).map f)) := by
  have q := sld_list (K := K) (ds := l.map f) (lo := none) (hi := some (k : Int))
  rw [cutD_to, ← List.map_take] at q
  exact q
theorem sl_from {K : PySem.W.Frag} {α : Type} {f : α → D} {l : List α} {k : Nat} : SlD K (rSlAny K) (.lst (l.map f)) (some (k : Int)) none (.lst ((l.drop k).map f)) := by
  have q := sld_list (K := K) (ds := l.map f) (lo := some (k : Int)) (hi := none)
  rw [cutD_from, ← List.map_drop] at q
  exact q
theorem lgOne {n : Nat} (h : n ≤ 1000) : (((n : Nat) : Int) + 1).natAbs.log2 < 9000 := by
  have := FD.lg1 (x := (n : Int) + 1) (by omega)
  omega
theorem atI_last' {ds : List D} {d : D} (h : ds.getLast? = some d) : atI ds (-1) = some d := by
  obtain ⟨xs, rfl⟩ := List.getLast?_eq_some_iff.mp h
  exact atI_last _ _
theorem rows_py (rs : List Row) : (rowsD rs).py = .list (rs.map fun r => (rD r).py) := by
  show PyData.list (D.pyA (rs.map rD)) = _
  rw [pyA_map, List.map_map]
  rfl
theorem rows_shaped {rs : List Row} (h : wsOk rs) : (rowsD rs).shaped = true := by
  unfold D.shaped
  rw [rows_py]
  have c : ∀ rs : List Row, wsOk rs → PyData.canLayAll0 (rs.map fun r => (rD r).py) = true := by
    intro rs
    induction rs with
    | nil => intro _; rfl
    | cons r rs ih =>
      intro h
      show (PyData.canLay0 (.tuple [.int r.1, .bool r.2.2.2, .int r.2.1, .str r.2.2.1]) && _) = true
      rw [ih fun q hq => h q (List.mem_cons_of_mem _ hq)]
      simp only [PyData.canLay0, PyData.canLayAll0]
      rw [show PyData.strOk r.2.2.1 = true from h r List.mem_cons_self]
      rfl
  have dp : ∀ rs : List Row, PyData.depthAll (rs.map fun r => (rD r).py) ≤ 2 := by
    intro rs
    induction rs with
    | nil => exact Nat.zero_le _
    | cons r rs ih =>
      show max (PyData.depth (.tuple [.int r.1, .bool r.2.2.2, .int r.2.1, .str r.2.2.1])) _ ≤ 2
      refine Nat.max_le.mpr ⟨?_, ih⟩
      simp [PyData.depth, PyData.depthAll]
  have pu : D.pureA (rs.map rD) = true := pureA_of fun d hd => by obtain ⟨r, _, rfl⟩ := List.mem_map.mp hd; rfl
  show (D.pureA (rs.map rD) && (PyData.canLayAll0 (rs.map fun r => (rD r).py) && decide (PyData.depth (.list _) ≤ 64))) = true
  rw [pu, c rs h, decide_eq_true]
  · rfl
  · have := dp rs
    simp only [PyData.depth]
    omega
theorem eqv_rows (rs : List Row) : (!D.eqv (rowsD rs) (.lst [])) = !decide (rs = []) := by
  show (!PyData.eqv (rowsD rs).py (.list [])) = _
  rw [rows_py]
  cases rs with
  | nil => rfl
  | cons r rs => simp [PyData.eqv, PyData.eqvAll]
def four : List Row := [(3, 1, "b", true), (3, 1, "c", false), (5, 0, "a", true), (5, 0, "a", false)]
theorem four_ok : wsOk four := fun r h => by
  simp only [four, List.mem_cons, List.not_mem_nil, or_false] at h
  rcases h with rfl | rfl | rfl | rfl <;> (show PyData.strOk _ = true; decide +kernel)
def nlaps (n : Nat) : Int := if (if (n : Int) < 3 then (n : Int) else 3) > 1 then (if (n : Int) < 3 then (n : Int) else 3) else 1
theorem nlaps_le (n : Nat) : 0 ≤ nlaps n ∧ nlaps n ≤ 3 := by
  unfold nlaps
  split
  · split <;> omega
  · omega
theorem teq_or {fs rs : List Row} {c : Nat} (p : fs.Perm (rs ++ rs.take 3)) : TEq (tab (sortT (tab (fs.take c)) ++ sortT (tab (fs.drop c)))) (tab rs) ∧ TEq (tab (sortT (tab (fs.drop c)) ++ sortT (tab (fs.take c)))) (tab rs) := by
  have a : ∀ (xs : List Row) n, gm (sortT (tab xs)) n = gm xs n := fun xs n => by rw [gm_perm (sortT_perm _), gm_tab]
  have b : ∀ n, gm (fs.take c ++ fs.drop c) n = gm rs n := fun n => by
    rw [List.take_append_drop, gm_perm p, gm_twice n fun q hq => List.mem_of_mem_take hq]
  refine ⟨fun n => ?_, fun n => ?_⟩
  · rw [tget_tab, tget_tab, gm_tabs (a _) (a _), b]
  · rw [tget_tab, tget_tab, gm_tabs (a _) (a _), gm_perm List.perm_append_comm, b]
theorem namesB_ok {s : Bg} (h : okB s) : okB (namesB s) := okS (okS (ok_bgI (okS h (by decide)) (by decide) _) (by decide)) (by decide)
theorem gm_none {rs : List Row} {n : Int} (h : ∀ r ∈ rs, r.1 ≠ n) : gm rs n = none := by
  unfold gm
  have : ∀ (rs : List Row), (∀ r ∈ rs, r.1 ≠ n) → ∀ o, rs.foldl (gmS n) o = o := by
    intro rs
    induction rs with
    | nil => intro _ o; rfl
    | cons r rs ih =>
      intro h o
      rw [List.foldl_cons, show gmS n o r = o from if_neg (h r List.mem_cons_self)]
      exact ih (fun q hq => h q (List.mem_cons_of_mem _ hq)) o
  exact this rs h none
theorem Run_rtWeak {K : PySem.W.Frag} {ts : TS} {Γ Γ1 Γ2 : List Sl} {d : D} (h : FD.Run K ts Γ (.rt d Γ1)) (k : Wk Γ1 Γ2) : FD.Run K ts Γ (.rt d Γ2) := fun σ I H L w Dn p => h σ I H L w Dn fun v σ' I' H' L' w' s hv => by
  obtain ⟨L2, w2, s2⟩ := w'.weak k
  exact p v σ' I' H' L2 w2 (s.trans s2) hv
def C_law (K : PySem.W.Frag) : Pr → Prop := fun c => ∃ ns, ns.length ≤ 1000 ∧ c = .d [.dat (intL ns)] (.bl true) [.dat (intL ns)]
section
variable {P : Program} {w : PySem.World} {K : PySem.W.Frag} {mg : Str → Option Value} {base : Heap} {C : Addr} {f_law_table f_law_bool f_law_take f_law_of f_law_bag f_law_names f_law_turned f_law_words f_law_made f_law_said f_last f_numbers f_say f_init f_law_is f_eq f_or : Addr} {fd_law_table fd_law_bool fd_law_take fd_law_of fd_law_bag fd_law_names fd_law_turned fd_law_words fd_law_made fd_law_said fd_last fd_numbers fd_say fd_law_is : FuncData}
theorem ok_law {f : Addr} {fd : FuncData} (F : Fun K "law" "law" s_law f fd)
    (G_law_table : FnOk P w K mg base CX0 2 f_law_table fd_law_table ["_law_words_here"] (spC K (C_table K))) (g_law_table : mg "_law_table" = some (.ref f_law_table)) (k_law_table : PySem.W.keepIn K (.ref f_law_table) = true) (b_law_table : Binds K fd_law_table ["_law_words_here"] [])
    (G_law_bool : FnOk P w K mg base CX0 1 f_law_bool fd_law_bool ["_law_told", "_law_due"] (spC K (C_bool K))) (g_law_bool : mg "_law_bool" = some (.ref f_law_bool)) (k_law_bool : PySem.W.keepIn K (.ref f_law_bool) = true) (b_law_bool : Binds K fd_law_bool ["_law_told", "_law_due"] [])
    (G_law_is : FnOk P w K mg base CX0 3 f_law_is fd_law_is ["_law_told", "_law_words_here", "_law_pool"] (spC K (C_is K C))) (g_law_is : mg "_law_is" = some (.ref f_law_is)) (k_law_is : PySem.W.keepIn K (.ref f_law_is) = true) (b_law_is : Binds K fd_law_is ["_law_told", "_law_words_here", "_law_pool"] [])
    (G_law_take : FnOk P w K mg base CX0 1 f_law_take fd_law_take ["_law_bag_here", "_law_many"] (spC K (C_take K))) (g_law_take : mg "_law_take" = some (.ref f_law_take)) (k_law_take : PySem.W.keepIn K (.ref f_law_take) = true) (b_law_take : Binds K fd_law_take ["_law_bag_here", "_law_many"] [])
    (G_law_of : FnOk P w K mg base CX0 2 f_law_of fd_law_of ["_law_bag_here", "_law_some_here"] (spC K (C_of K))) (g_law_of : mg "_law_of" = some (.ref f_law_of)) (k_law_of : PySem.W.keepIn K (.ref f_law_of) = true) (b_law_of : Binds K fd_law_of ["_law_bag_here", "_law_some_here"] [])
    (G_law_bag : FnOk P w K mg base CX0 1 f_law_bag fd_law_bag ["_law_script", "_law_at"] (spC K (C_bag K))) (g_law_bag : mg "_law_bag" = some (.ref f_law_bag)) (k_law_bag : PySem.W.keepIn K (.ref f_law_bag) = true) (b_law_bag : Binds K fd_law_bag ["_law_script", "_law_at"] [])
    (G_law_names : FnOk P w K mg base CX0 3 f_law_names fd_law_names ["_law_bag_here", "_law_many"] (spC K (C_names K))) (g_law_names : mg "_law_names" = some (.ref f_law_names)) (k_law_names : PySem.W.keepIn K (.ref f_law_names) = true) (b_law_names : Binds K fd_law_names ["_law_bag_here", "_law_many"] [])
    (G_law_turned : FnOk P w K mg base CX0 2 f_law_turned fd_law_turned ["_law_bag_here", "_law_things"] (spC K (C_turned K))) (g_law_turned : mg "_law_turned" = some (.ref f_law_turned)) (k_law_turned : PySem.W.keepIn K (.ref f_law_turned) = true) (b_law_turned : Binds K fd_law_turned ["_law_bag_here", "_law_things"] [])
    (G_law_words : FnOk P w K mg base CX0 3 f_law_words fd_law_words ["_law_bag_here", "_law_pool", "_law_names_here"] (spC K (C_words K))) (g_law_words : mg "_law_words" = some (.ref f_law_words)) (k_law_words : PySem.W.keepIn K (.ref f_law_words) = true) (b_law_words : Binds K fd_law_words ["_law_bag_here", "_law_pool", "_law_names_here"] [])
    (G_law_made : FnOk P w K mg base CX0 4 f_law_made fd_law_made ["_law_words_here"] (spC K (C_made K C))) (g_law_made : mg "_law_made" = some (.ref f_law_made)) (k_law_made : PySem.W.keepIn K (.ref f_law_made) = true) (b_law_made : Binds K fd_law_made ["_law_words_here"] [])
    (G_law_said : FnOk P w K mg base CX0 4 f_law_said fd_law_said ["_law_told", "_law_words_here", "_law_pool"] (spC K (C_saidL K C))) (g_law_said : mg "_law_said" = some (.ref f_law_said)) (k_law_said : PySem.W.keepIn K (.ref f_law_said) = true) (b_law_said : Binds K fd_law_said ["_law_told", "_law_words_here", "_law_pool"] [])
    (c_LastWords : Cls K C) (M_LastWords : Mk K C f_init) (G_init : FnR P w K mg base CX0 2 f_init (spStar 1 (spC K (C_init K C)))) (g_LastWords : mg "LastWords" = some (.ref C))
    (mt_last : Meth K C "last" f_last) (G_last : FnOk P w K mg base CX0 1 f_last fd_last ["self", "number"] (spC K (C_last K C))) (b_last : Binds K fd_last ["self", "number"] [])
    (mt_numbers : Meth K C "numbers" f_numbers) (G_numbers : FnOk P w K mg base CX0 1 f_numbers fd_numbers ["self"] (spC K (C_numbers K C))) (b_numbers : Binds K fd_numbers ["self"] [])
    (mt_say : Meth K C "say" f_say) (G_say : FnOk P w K mg base CX0 1 f_say fd_say ["self", "number", "seen", "count", "device"] (spC K (C_say K C))) (kb_say : KBn K fd_say ["self", "number", "seen", "count", "device"] 3 ["count", "device"] (fun us ws => us ++ ws) (fun vs zs => vs ++ zs))
    (h_eq : PySem.W.findIn K (.ref C) "__eq__" = some (some (.ref f_eq))) (i_eq : PySem.W.isFn K (.ref f_eq) = true) (R_eq : FnR P w K mg base CX0 1 f_eq (spC K (C_eq K C)))
    (sf_LW : PySem.W.selfFirst K C = true) (h_or : PySem.W.findIn K (.ref C) "__or__" = some (some (.ref f_or))) (i_or : PySem.W.isFn K (.ref f_or) = true) (R_or : FnR P w K mg base CX0 4 f_or (spC K (C_or K C)))
    (m_range : mg "range" = none) (m_max : mg "max" = none) (m_min : mg "min" = none) (m_len : mg "len" = none) : FnOk P w K mg base CX0 5 f fd ["_law_script"] (spC K (C_law K)) := by
  refine okC F sc_law (fun c h => by obtain ⟨ns, _, rfl⟩ := h; rfl) fun cdv A outer s H vs Q E hr => ⟨_, (
    ((pss_cons (ps_for PassesOwn.never rfl (pi_range1 rfl m_range (pa_cons (pe_callB (call_max2 rfl) rfl m_max (by decide +kernel) (pa_cons pe_int (pa_cons (pe_callB (call_min2 rfl) rfl m_min (by decide +kernel) (pa_cons pe_int (pa_cons (pe_callB call_lenA rfl m_len (by decide +kernel) (pa_cons (pv 0) pa_nil)) pa_nil))) pa_nil))) pa_nil)) (pg_name (i := 1) sc_law.nd rfl (.inl rfl))
      (pss_cons (ps_set (i := 2) sc_law.nd rfl (.inl rfl) (pe_call G_law_bag (hr.mono (by decide)) rfl g_law_bag k_law_bag b_law_bag .nil pass0 (pa_cons (pv 0) (pa_cons (pv 1) pa_nil))))
      (pss_cons (ps_asg (pe_tup (pa_cons (pe_call G_law_of (hr.mono (by decide)) rfl g_law_of k_law_of b_law_of .nil pass0 (pa_cons (pv 2) (pa_cons (pe_lst (pa_cons pe_int (pa_cons (pe_op op_sub (pe_op op_pow pe_int pe_int) pe_int) (pa_cons (pe_op op_pow pe_int pe_int) pa_nil)))) pa_nil))) (pa_cons (pe_call G_law_names (hr.mono (by decide)) rfl g_law_names k_law_names b_law_names .nil pass0 (pa_cons (pv 2) (pa_cons pe_int pa_nil))) pa_nil))) (pg_tup rfl (pgs_cons (pg_name (i := 3) sc_law.nd rfl (.inr rfl)) (pgs_cons (pg_name (i := 4) sc_law.nd rfl (.inl rfl)) pgs_nil))))
      (pss_cons (ps_setLc (i := 5) (own := [("_law_k", 16)]) rfl sc_law.nd rfl rfl (sw_true rfl rfl rfl (by decide +kernel)) (pi_range1 rfl m_range (pa_cons pe_int pa_nil)) (blkOk_by (N := ["_law_script", "_law_at", "_law_bag_here", "_law_first", "_law_names_here", "_law_pool", "_law_words_here", "_law_near", "_law_far", "_law_cut", "_law_one", "_law_two", "_law_join", "_law_other", "_law_is_like", "_law_made_here", "_law_k"]) (sc := defScope s_law) (by decide +kernel)) (fun _ _ _ _ _ => (pg_name (i := 16) sc_law.nd rfl (.inl rfl))) (fun _ _ _ _ _ => pts_nil) (fun _ _ _ _ _ => (pe_op (op_addK (K := K)) (pv 3) (pv 16))))
      (pss_cons (ps_par (i := 6) (j := 7) rfl sc_law.nd rfl rfl (by decide) rfl rfl (pa_cons (pe_call G_law_words (hr.mono (by decide)) rfl g_law_words k_law_words b_law_words .nil pass0 (pa_cons (pv 2) (pa_cons (pe_slice sl_any (pv 5) po_none (po_some pe_int)) (pa_cons (pv 4) pa_nil)))) (pa_cons (pe_makeR0 M_LastWords G_init (hr.mono (by decide)) rfl g_LastWords pass0) pa_nil)) rfl)
      (pss_cons (ps_if (pt_not (pt_val (pe_call G_law_said (hr.mono (by decide)) rfl g_law_said k_law_said b_law_said .nil pass0 (pa_cons (pv 7) (pa_cons (pv 6) (pa_cons (pv 5) pa_nil))))))
      (pss_one (ps_ret pe_bl))
      pss_nil)
      (pss_cons (ps_set (i := 8) sc_law.nd rfl (.inl rfl) (pe_call G_law_turned (hr.mono (by decide)) rfl g_law_turned k_law_turned b_law_turned .nil pass0 (pa_cons (pv 2) (pa_cons (pe_op op_addA (pv 6) (pe_slice sl_any (pv 6) po_none (po_some pe_int))) pa_nil))))
      (pss_cons (ps_set (i := 9) sc_law.nd rfl (.inl rfl) (pe_call G_law_take (hr.mono (by decide)) rfl g_law_take k_law_take b_law_take .nil pass0 (pa_cons (pv 2) (pa_cons (pe_op op_addA (pe_callB call_lenA rfl m_len (by decide +kernel) (pa_cons (pv 8) pa_nil)) pe_int) pa_nil))))
      (pss_cons (ps_par (i := 10) (j := 11) rfl sc_law.nd rfl rfl (by decide) rfl rfl (pa_cons (pe_call G_law_made (hr.mono (by decide)) rfl g_law_made k_law_made b_law_made .nil pass0 (pa_cons (pe_slice sl_any (pv 8) po_none (po_some (pv 9))) pa_nil)) (pa_cons (pe_call G_law_made (hr.mono (by decide)) rfl g_law_made k_law_made b_law_made .nil pass0 (pa_cons (pe_slice sl_any (pv 8) (po_some (pv 9)) po_none) pa_nil)) pa_nil)) rfl)
      (pss_cons (ps_par (i := 12) (j := 13) rfl sc_law.nd rfl rfl (by decide) rfl rfl (pa_cons (pe_op (op_ownBin (C := C) (g := f_or) sf_LW h_or i_or R_or (hr.mono (by decide)) pass0) (pv 10) (pv 11)) (pa_cons (pe_op (op_ownBin (C := C) (g := f_or) sf_LW h_or i_or R_or (hr.mono (by decide)) pass0) (pv 11) (pv 10)) pa_nil)) rfl)
      (pss_cons (ps_if (PW.pt (pw_or (pt_not (pt_val (pe_call G_law_is (hr.mono (by decide)) rfl g_law_is k_law_is b_law_is .nil pass0 (pa_cons (pv 12) (pa_cons (pv 6) (pa_cons (pv 5) pa_nil)))))) (pw_or1 (pt_not (pt_val (pe_call G_law_is (hr.mono (by decide)) rfl g_law_is k_law_is b_law_is .nil pass0 (pa_cons (pv 13) (pa_cons (pv 6) (pa_cons (pv 5) pa_nil)))))))))
      (pss_one (ps_ret pe_bl))
      pss_nil)
      (pss_cons (ps_if (PW.pt (pw_or (pt_not (pt_cmpR (op_ownCmp (C := C) (g := f_eq) (fun _ _ => rfl) h_eq i_eq R_eq (hr.mono (by decide)) pass0) (pv 12) (pv 7) (nomark _))) (pw_or1 (pt_not (pt_cmpR (op_ownCmp (C := C) (g := f_eq) (fun _ _ => rfl) h_eq i_eq R_eq (hr.mono (by decide)) pass0) (pv 7) (pv 13) (nomark _))))))
      (pss_one (ps_ret pe_bl))
      pss_nil)
      (pss_cons (ps_set (i := 14) sc_law.nd rfl (.inl rfl) (pe_cmpR (op_eqDic (hu65 hr)) (pe_call G_law_table (hr.mono (by decide)) rfl g_law_table k_law_table b_law_table .nil pass0 (pa_cons (pe_slice sl_any (pv 8) po_none (po_some (pv 9))) pa_nil)) (pe_call G_law_table (hr.mono (by decide)) rfl g_law_table k_law_table b_law_table .nil pass0 (pa_cons (pe_slice sl_any (pv 8) (po_some (pv 9)) po_none) pa_nil)) (nomark _)))
      (pss_cons (ps_if (PW.pt (pw_or (pt_not (pt_val (pe_call G_law_bool (hr.mono (by decide)) rfl g_law_bool k_law_bool b_law_bool .nil pass0 (pa_cons (pe_cmpR (op_ownCmp (C := C) (g := f_eq) (fun _ _ => rfl) h_eq i_eq R_eq (hr.mono (by decide)) pass0) (pv 10) (pv 11) (nomark _)) (pa_cons (pv 14) pa_nil))))) (pw_or1 (pt_cmpR (op_ownCmpL (C := C) (g := f_eq) (fun _ _ => rfl) h_eq i_eq R_eq (hr.mono (by decide)) pass0) (pv 7) (pv 6) (nomark _)))))
      (pss_one (ps_ret pe_bl))
      pss_nil)
      (pss_cons (ps_expr (pe_methN (pv 12) c_LastWords mt_say G_say (hr.mono (by decide)) kb_say pass0 (pa_cons (pe_ix ix_seq (pv 5) pe_int (fun _ _ => rfl)) (pa_cons pe_bl pa_nil)) (pk_cons pe_int (pk_cons (pe_ix ix_seq (pv 4) pe_int (fun _ _ => rfl)) pk_nil))))
      (pss_cons (ps_expr (pe_bm PySem.F.plainAttrs_list PySem.F.slot_list_append PySem.F.type_list_append mt_append (pe_meth0 (pv 7) c_LastWords mt_numbers G_numbers (hr.mono (by decide)) b_numbers .nil pass0) (pa_cons (pe_ix ix_seq (pv 5) pe_int (fun _ _ => rfl)) pa_nil)))
      (pss_cons (ps_if (PW.pt (pw_or (pt_not (pt_val (pe_call G_law_is (hr.mono (by decide)) rfl g_law_is k_law_is b_law_is .nil pass0 (pa_cons (pv 10) (pa_cons (pe_slice sl_any (pv 8) po_none (po_some (pv 9))) (pa_cons (pv 5) pa_nil)))))) (pw_or1 (pt_not (pt_val (pe_call G_law_is (hr.mono (by decide)) rfl g_law_is k_law_is b_law_is .nil pass0 (pa_cons (pv 11) (pa_cons (pe_slice sl_any (pv 8) (po_some (pv 9)) po_none) (pa_cons (pv 5) pa_nil)))))))))
      (pss_one (ps_ret pe_bl))
      pss_nil)
      (pss_cons (ps_if (pt_not (pt_val (pe_call G_law_is (hr.mono (by decide)) rfl g_law_is k_law_is b_law_is .nil pass0 (pa_cons (pv 7) (pa_cons (pv 6) (pa_cons (pv 5) pa_nil))))))
      (pss_one (ps_ret pe_bl))
      pss_nil)
      (pss_cons (ps_if (PW.pt (pw_or (pt_cmpR (op_ownCmp (C := C) (g := f_eq) (fun _ _ => rfl) h_eq i_eq R_eq (hr.mono (by decide)) pass0) (pv 12) (pv 7) (nomark _)) (pw_or1 (pt_not (pt_val (pe_call G_law_is (hr.mono (by decide)) rfl g_law_is k_law_is b_law_is .nil pass0 (pa_cons (pv 13) (pa_cons (pv 6) (pa_cons (pv 5) pa_nil)))))))))
      (pss_one (ps_ret pe_bl))
      pss_nil)
      (pss_cons (ps_if (pt_not (pt_val (pe_call G_law_is (hr.mono (by decide)) rfl g_law_is k_law_is b_law_is .nil pass0 (pa_cons (pv 12) (pa_cons (pe_op op_addA (pv 6) (pe_lst (pa_cons (pe_tup (pa_cons (pe_ix ix_seq (pv 5) pe_int (fun _ _ => rfl)) (pa_cons pe_bl (pa_cons pe_int (pa_cons (pe_ix ix_seq (pv 4) pe_int (fun _ _ => rfl)) pa_nil))))) pa_nil))) (pa_cons (pv 5) pa_nil))))))
      (pss_one (ps_ret pe_bl))
      pss_nil)
      (pss_one (ps_if (pt_cmpR (op_neD (hu64 hr)) (pv 6) (pe_lst pa_nil) (nomark _))
      (pss_cons (ps_set (i := 7) sc_law.nd rfl (.inl rfl) (StX.pe_makeR M_LastWords G_init (hr.mono (by decide)) rfl g_LastWords pass0 (pa_cons (pe_ix ix_seq (pv 6) pe_int (fun _ _ => rfl)) (pa_cons (pe_ix ix_seq (pv 6) (pe_un un_neg pe_int) (fun _ _ => rfl)) pa_nil))))
      (pss_one (ps_if (pt_not (pt_val (pe_call G_law_is (hr.mono (by decide)) rfl g_law_is k_law_is b_law_is .nil pass0 (pa_cons (pv 7) (pa_cons (pe_lst (pa_cons (pe_ix ix_seq (pv 6) (pe_un un_neg pe_int) (fun _ _ => rfl)) (pa_cons (pe_ix ix_seq (pv 6) pe_int (fun _ _ => rfl)) pa_nil))) (pa_cons (pv 5) pa_nil))))))
      (pss_one (ps_ret pe_bl))
      pss_nil)))
      pss_nil))))))))))))))))))))))
      (pss_cons (ps_set (i := 15) sc_law.nd rfl (.inl rfl) (StX.pe_makeR M_LastWords G_init (hr.mono (by decide)) rfl g_LastWords pass0 (pa_cons (pe_tup (pa_cons pe_int (pa_cons pe_bl (pa_cons pe_int (pa_cons pe_str pa_nil))))) (pa_cons (pe_tup (pa_cons pe_int (pa_cons pe_bl (pa_cons pe_int (pa_cons pe_str pa_nil))))) (pa_cons (pe_tup (pa_cons pe_int (pa_cons pe_bl (pa_cons pe_int (pa_cons pe_str pa_nil))))) (pa_cons (pe_tup (pa_cons pe_int (pa_cons pe_bl (pa_cons pe_int (pa_cons pe_str pa_nil))))) pa_nil))))))
      (pss_one (ps_ret (pe_and (pe_cmpR (op_eqD (hu64 hr)) (pe_meth (pv 15) c_LastWords mt_last G_last (hr.mono (by decide)) b_last .nil pass0 (pa_cons pe_int pa_nil)) (pe_tup (pa_cons pe_int (pa_cons pe_str (pa_cons pe_bl pa_nil)))) (nomark _)) (pe_and (pe_cmpR (op_eqD (hu64 hr)) (pe_meth (pv 15) c_LastWords mt_last G_last (hr.mono (by decide)) b_last .nil pass0 (pa_cons pe_int pa_nil)) (pe_tup (pa_cons pe_int (pa_cons pe_str (pa_cons pe_bl pa_nil)))) (nomark _)) (pe_one (pe_cmpR (op_ownCmp (C := C) (g := f_eq) (fun _ _ => rfl) h_eq i_eq R_eq (hr.mono (by decide)) pass0) (pe_makeR0 M_LastWords G_init (hr.mono (by decide)) rfl g_LastWords pass0) (pe_makeR0 M_LastWords G_init (hr.mono (by decide)) rfl g_LastWords pass0) (nomark _))))))))))), ?_⟩
  rintro _ ⟨ns, hns, rfl⟩
  have hNl := nlaps_le ns.length
  refine body_d (Γ0 := [.dat (intL ns), .em, .em, .em, .em, .em, .em, .em, .em, .em, .em, .em, .em, .em, .em, .em, .em]) (Γ := [.dat (intL ns), .em, .em, .em, .em, .em, .em, .em, .em, .em, .em, .em, .em, .em, .em, .em, .em]) (z' := .bl true) ?_ rfl (by walk_at "po") rfl
  refine run_seq (Γ1 := [.dat (intL ns), .em, .em, .em, .em, .em, .em, .em, .em, .em, .em, .em, .em, .em, .em, .em, .em]) ?_ ?_
  · refine run_for (m := .e) (ds := intsD 0 (nlaps ns.length).toNat) (n := (nlaps ns.length).toNat) (Γ1 := [.dat (intL ns), .em, .em, .em, .em, .em, .em, .em, .em, .em, .em, .em, .em, .em, .em, .em, .em]) (fun _ => [.dat (intL ns), .em, .em, .em, .em, .em, .em, .em, .em, .em, .em, .em, .em, .em, .em, .em, .em]) (it_rng1 (ea_cons (Ev.is (d := .int (nlaps (ns.map D.int).length)) (by walk_at "ev") (by rw [List.length_map])) ea_nil) (by omega)) rfl (by simp [intsD]) (fun i d hi hd => ?_) (.inl ⟨by simp [intsD], rfl⟩)
    have hi10 : i ≤ 10 := by omega
    have hd' : d = .int (i : Nat) := by
      have := hd
      simp [intsD, hi] at this
      exact this.symm
    subst hd'
    refine turn_g (Γ1 := [.dat (intL ns), .dat (.int (i : Nat)), .em, .em, .em, .em, .em, .em, .em, .em, .em, .em, .em, .em, .em, .em, .em]) (by walk_at "rg") (Run.lp ?_)
    -- the numbers
    let s0 : Bg := bagOf ns i
    have hs0 : okB s0 := ok_bagOf ns i hi10
    have hq1 : okB (tkS s0 3) := okS hs0 (by decide)
    let q1 : Bg := tkS s0 3
    let fi : Int := ofI s0 [1, 10 ^ 30 - 4, 10 ^ 12]
    have hq2 : okB (namesB q1) := namesB_ok hq1
    obtain ⟨hnl, nlOk⟩ := names_ok (n := 3) hq1
    let nl : List Str := namesL q1 3
    let q2 : Bg := namesB q1
    let pool : List Int := (List.range 5).map fun k => fi + (0 + (k : Nat))
    have hpl : (pool.take 4).length = 4 := rfl
    have hq2a : okB (tkS q2 3) := okS hq2 (by decide)
    have hq2b : okB (tkS (tkS q2 3) 31) := okS hq2a (by decide)
    obtain ⟨hq3, hrn, hrs⟩ := wdI_ok (pool := pool.take 4) (cs := ctL q2) (xs := nl) hq2b (by rw [hpl]; decide) (by simp [ctL]) (by rw [hnl]; decide) (wordsN q2)
    let q3 : Bg := (wordsS q2 (pool.take 4) nl).1
    let rs : List Row := (wordsS q2 (pool.take 4) nl).2
    have hrl : rs.length ≤ 30 := by
      have h := tk_lt (n := 31) hq2a (by decide)
      have : rs.length = wordsN q2 := hrn
      rw [this]
      unfold wordsN
      omega
    have hw : wsOk rs := fun r hr => nlOk _ (hrs r hr).2
    have hq3' : okB q3 := hq3
    obtain ⟨fs, pfs, hfs⟩ := perm_lift rD (turnL_perm (l := rs.map rD ++ (rs.take 3).map rD) hq3') (rs ++ rs.take 3) (List.map_append ..)
    let q4 : Bg := turnB q3 (rs.map rD ++ (rs.take 3).map rD)
    have hq4 : okB q4 := turnB_ok hq3'
    have hfl : fs.length ≤ 33 := by
      rw [pfs.length_eq, List.length_append, List.length_take]
      omega
    have hfl2 : (fs.map rD).length ≤ 1000 := by rw [List.length_map]; omega
    obtain ⟨c, hc, hc2⟩ := tk_nat (n := ((fs.map rD).length : Nat) + 1) hq4 (by omega)
    let q5 : Bg := tkS q4 (((fs.map rD).length : Nat) + 1)
    have hwf : wsOk fs := fun r hr => by
      rcases List.mem_append.mp (pfs.mem_iff.mp hr) with h | h
      · exact hw r h
      · exact hw r (List.mem_of_mem_take h)
    have hwt : wsOk (fs.take c) := fun r hr => hwf r (List.mem_of_mem_take hr)
    have hwd : wsOk (fs.drop c) := fun r hr => hwf r (List.mem_of_mem_drop hr)
    have hlt : (fs.take c).length < 64 := by rw [List.length_take]; omega
    have hld : (fs.drop c).length < 64 := by rw [List.length_drop]; omega
    have htl : (tab (fs.take c)).length < 64 := Nat.lt_of_le_of_lt (tab_len _) hlt
    have hdl : (tab (fs.drop c)).length < 64 := Nat.lt_of_le_of_lt (tab_len _) hld
    have ltn : (tab rs).length < 64 := Nat.lt_of_le_of_lt (tab_len _) (by omega)
    let tj : Tb := tab (sortT (tab (fs.take c)) ++ sortT (tab (fs.drop c)))
    let tk2 : Tb := tab (sortT (tab (fs.drop c)) ++ sortT (tab (fs.take c)))
    have hsum : (tab (fs.take c)).length + (tab (fs.drop c)).length ≤ 33 := by
      have a := tab_len (fs.take c)
      have b := tab_len (fs.drop c)
      rw [List.length_take] at a
      rw [List.length_drop] at b
      omega
    have ltj' : tj.length ≤ 33 := Nat.le_trans (tab_len _) (by rw [List.length_append, (sortT_perm _).length_eq, (sortT_perm _).length_eq]; exact hsum)
    have ltk' : tk2.length ≤ 33 := Nat.le_trans (tab_len _) (by rw [List.length_append, (sortT_perm _).length_eq, (sortT_perm _).length_eq]; omega)
    have ltj : tj.length < 64 := by omega
    have ltk : tk2.length < 64 := by omega
    obtain ⟨tej, tek⟩ := teq_or (c := c) pfs
    have wsn : wsOk (tab rs) := tab_ws hw
    have wsa : wsOk (sortT (tab (fs.take c))) := wsOk_perm (sortT_perm _) (tab_ws hwt)
    have wsb : wsOk (sortT (tab (fs.drop c))) := wsOk_perm (sortT_perm _) (tab_ws hwd)
    have wsj : wsOk tj := tab_ws fun r hr => (List.mem_append.mp hr).elim (wsa r) (wsb r)
    have wsk : wsOk tk2 := tab_ws fun r hr => (List.mem_append.mp hr).elim (wsb r) (wsa r)
    have eqj : eqDic (encT tj) (encT (tab rs)) = true := (eqDic_enc (tab_ok _) (tab_ok _)).mpr tej
    have eqk : eqDic (encT (tab rs)) (encT tk2) = true := (eqDic_enc (tab_ok _) (tab_ok _)).mpr fun n => (tek n).symm
    let lk : Bool := eqDic (encT (tab (fs.take c))) (encT (tab (fs.drop c)))
    have h0 : 0 < nl.length := by rw [hnl]; decide
    let nr : Row := (fi + (0 + (4 : Nat)), (0, nl[0], true))
    have wnr : wOk nr.2 := nlOk _ (List.getElem_mem h0)
    have p4 : atI (pool.map D.int) 4 = some (.int nr.1) := atI_nat' (i := 4) rfl
    have n0 : atI (nl.map D.str) 0 = some (.str nr.2.2.1) := atI_nat' (i := 0) (by rw [List.getElem?_map, List.getElem?_eq_getElem h0]; rfl)
    have wsj2 : wsOk (tadd tj nr) := tadd_ws wsj wnr
    have gN : tget (tab rs) nr.1 = none := by
      rw [tget_tab]
      refine gm_none fun r hr e => ?_
      have := (hrs r hr).1
      rw [e] at this
      have h4 : nr.1 ∈ [fi + (0 + (0 : Nat)), fi + (0 + (1 : Nat)), fi + (0 + (2 : Nat)), fi + (0 + (3 : Nat))] := this
      have h5 : nr.1 = fi + (0 + (4 : Nat)) := rfl
      rw [h5] at h4
      simp only [List.mem_cons, List.not_mem_nil, or_false] at h4
      omega
    have eqn : eqDic (encT (tadd tj nr)) (encT (tab rs)) = false := by
      cases q : eqDic (encT (tadd tj nr)) (encT (tab rs)) with
      | false => rfl
      | true =>
        have := (eqDic_enc (tadd_ok (tab_ok _)) (tab_ok _)).mp q nr.1
        rw [gN, tget_tadd, if_pos rfl] at this
        unfold oadd at this
        split at this <;> cases this
    have tej2 : TEq (tadd tj nr) (tab (rs ++ [nr])) := fun n => by
      have e : tab (rs ++ [nr]) = tadd (tab rs) nr := by unfold tab; rw [List.foldl_append]; rfl
      rw [e, tget_tadd, tget_tadd, tej nr.1, tej n]
    have hw2 : wsOk (rs ++ [nr]) := fun r hr => by
      rcases List.mem_append.mp hr with h | h
      · exact hw r h
      · rw [List.mem_singleton.mp h]; exact wnr
    have ltj2 : (tadd tj nr).length < 64 := by have := tadd_len tj nr; omega
    have addN : OpD K (rAddA K) (rowsD rs) (rowsD [nr]) (rowsD (rs ++ [nr])) := by
      have := opd_addL (K := K) (ds := rs.map rD) (es := [nr].map rD) (by rw [List.length_map]; exact Nat.le_of_lt (small1000 (by simp; omega)))
      rw [← List.map_append] at this
      exact this
    refine run_asgR (R := rB K s0) (Γ1 := [.dat (intL ns), .dat (.int (i : Nat)), .em, .em, .em, .em, .em, .em, .em, .em, .em, .em, .em, .em, .em, .em, .em]) (er_call0 (m := .e) (ds := [intL ns, .int (i : Nat)]) (by walk_at "ea") (conR_of (C := C_bag K) ⟨ns, i, hi10, rfl⟩)) (by simp) fun vb => ?_
    show FD.Run K _ [.dat (intL ns), .dat (.int (i : Nat)), .res vb (rB K s0), .em, .em, .em, .em, .em, .em, .em, .em, .em, .em, .em, .em, .em, .em] _
    refine run_seq (Γ1 := [.dat (intL ns), .dat (.int (i : Nat)), .res vb (rB K q2), .dat (.int fi), .dat (strL nl), .em, .em, .em, .em, .em, .em, .em, .em, .em, .em, .em, .em]) (run_asgG (m := .e) (d := .tup [.int fi, strL nl]) (Γ1 := [.dat (intL ns), .dat (.int (i : Nat)), .res vb (rB K q2), .em, .em, .em, .em, .em, .em, .em, .em, .em, .em, .em, .em, .em, .em]) (ev_tup (ea_cons (Γ1 := [.dat (intL ns), .dat (.int (i : Nat)), .res vb (rB K q1), .em, .em, .em, .em, .em, .em, .em, .em, .em, .em, .em, .em, .em, .em]) (Ev.eq (ev_call1 (m := .e) (i := 2) (v := vb) (R := rB K s0) (ds := [intL [1, 10 ^ 30 - 4, 10 ^ 12]]) (Γ' := [.dat (intL ns), .dat (.int (i : Nat)), .res vb (rB K s0), .em, .em, .em, .em, .em, .em, .em, .em, .em, .em, .em, .em, .em, .em]) (ea_cons (Ev.eq (d := .lst [.int 1, .int (10 ^ (30 : Int).toNat - 4), .int (10 ^ (12 : Int).toNat)]) (by walk_at "ev") rfl rfl) ea_nil) rfl rfl (con_ofI hs0 (by decide) (by decide))) rfl rfl) (ea_cons (Γ1 := [.dat (intL ns), .dat (.int (i : Nat)), .res vb (rB K q2), .em, .em, .em, .em, .em, .em, .em, .em, .em, .em, .em, .em, .em, .em]) (Ev.eq (ev_call1 (m := .e) (i := 2) (v := vb) (R := rB K q1) (R' := rB K q2) (ds := [.int 3]) (Γ' := [.dat (intL ns), .dat (.int (i : Nat)), .res vb (rB K q1), .em, .em, .em, .em, .em, .em, .em, .em, .em, .em, .em, .em, .em, .em]) (by walk_at "ea") rfl rfl (con_of (C := C_names K) ⟨vb, q1, 3, hq1, by decide, rfl⟩)) rfl rfl) ea_nil)) (Nat.le_of_lt (L2.small1000 (Nat.le_of_ble_eq_true rfl)))) (by walk_at "rg")) ?_
    refine run_seq (Γ1 := [.dat (intL ns), .dat (.int (i : Nat)), .res vb (rB K q2), .dat (.int fi), .dat (strL nl), .dat (intL pool), .em, .em, .em, .em, .em, .em, .em, .em, .em, .em, .em]) (run_asg (m := .e) (d := intL pool) (Γ1 := [.dat (intL ns), .dat (.int (i : Nat)), .res vb (rB K q2), .dat (.int fi), .dat (strL nl), .em, .em, .em, .em, .em, .em, .em, .em, .em, .em, .em, .em]) (Ev.eq (ev_lc (m := .e) (js := [16]) (xs := List.range 5) (enc := fun k => .int (0 + (k : Nat))) (fun _ => true) (fun k => .int (fi + (0 + (k : Nat)))) (fun k => [.dat (intL ns), .dat (.int (i : Nat)), .res vb (rB K q2), .dat (.int fi), .dat (strL nl), .em, .em, .em, .em, .em, .em, .em, .em, .em, .em, .em, .dat (.int (0 + (k : Nat)))]) (fun k => [.dat (intL ns), .dat (.int (i : Nat)), .res vb (rB K q2), .dat (.int fi), .dat (strL nl), .em, .em, .em, .em, .em, .em, .em, .em, .em, .em, .em, .dat (.int (0 + (k : Nat)))]) (it_rngN (n := 5) (ea_cons ev_int ea_nil) (by decide)) (fun k hk => by simp at hk; subst hk; rfl) (fun j hj => hj) (by simp; exact small1000 (by decide)) (fun k hk => by walk_at "rg") (fun k hk => evt_yes) (fun k hk _ => ⟨[.dat (intL ns), .dat (.int (i : Nat)), .res vb (rB K q2), .dat (.int fi), .dat (strL nl), .em, .em, .em, .em, .em, .em, .em, .em, .em, .em, .em, .dat (.int (0 + (k : Nat)))], by walk_at "evx"⟩)) (by rw [filter_true]; rfl) rfl)) ?_
    refine run_parDR (m := .e) (d := rowsD rs) (R2 := Rlw K C (tab [])) (Γ1 := [.dat (intL ns), .dat (.int (i : Nat)), .res vb (rB K q3), .dat (.int fi), .dat (strL nl), .dat (intL pool), .em, .em, .em, .em, .em, .em, .em, .em, .em, .em, .em]) (Γ2 := [.dat (intL ns), .dat (.int (i : Nat)), .res vb (rB K q3), .dat (.int fi), .dat (strL nl), .dat (intL pool), .em, .em, .em, .em, .em, .em, .em, .em, .em, .em, .em]) (Ev.eq (ev_call1 (m := .e) (i := 2) (v := vb) (R := rB K q2) (R' := rB K q3) (ds := [intL (pool.take 4), strL nl]) (Γ' := [.dat (intL ns), .dat (.int (i : Nat)), .res vb (rB K q2), .dat (.int fi), .dat (strL nl), .dat (intL pool), .em, .em, .em, .em, .em, .em, .em, .em, .em, .em, .em]) (ea_cons (ev_sl (ev_var rfl) eo_none (eo_some ev_int) (sl_to (k := 4))) (ea_cons (ev_var rfl) ea_nil)) rfl rfl (con_of (C := C_words K) ⟨vb, q2, pool.take 4, nl, hq2, by rw [hpl]; decide, by rw [hpl]; decide, by rw [hnl]; decide, by rw [hnl]; decide, rfl⟩)) rfl rfl) (er_makeR (m := .e) (ds := []) ea_nil (con_new (rs := []) (fun _ h => by simp at h) (by decide))) (by simp) (by simp) (by decide) fun vn => ?_
    show FD.Run K _ [.dat (intL ns), .dat (.int (i : Nat)), .res vb (rB K q3), .dat (.int fi), .dat (strL nl), .dat (intL pool), .dat (rowsD rs), .res vn (Rlw K C (tab [])), .em, .em, .em, .em, .em, .em, .em, .em, .em] _
    refine run_seq (Γ1 := [.dat (intL ns), .dat (.int (i : Nat)), .res vb (rB K q3), .dat (.int fi), .dat (strL nl), .dat (intL pool), .dat (rowsD rs), .res vn (Rlw K C (tab rs)), .em, .em, .em, .em, .em, .em, .em, .em, .em]) (run_if (m := .e) (b := false) (Γ1 := [.dat (intL ns), .dat (.int (i : Nat)), .res vb (rB K q3), .dat (.int fi), .dat (strL nl), .dat (intL pool), .dat (rowsD rs), .res vn (Rlw K C (tab rs)), .em, .em, .em, .em, .em, .em, .em, .em, .em]) (EvT.eq (evt_not (evt_B (ev_call1 (m := .e) (i := 7) (v := vn) (R := Rlw K C (tab [])) (R' := Rlw K C (tab rs)) (ds := [rowsD rs, intL pool]) (Γ' := [.dat (intL ns), .dat (.int (i : Nat)), .res vb (rB K q3), .dat (.int fi), .dat (strL nl), .dat (intL pool), .dat (rowsD rs), .res vn (Rlw K C (tab [])), .em, .em, .em, .em, .em, .em, .em, .em, .em]) (by walk_at "ea") rfl rfl (con_of (C := C_saidL K C) ⟨vn, rs, pool, hw, by omega, rfl⟩)))) rfl rfl) (fun h => nomatch h) (fun _ => run_next)) ?_
    refine run_seq (Γ1 := [.dat (intL ns), .dat (.int (i : Nat)), .res vb (rB K q4), .dat (.int fi), .dat (strL nl), .dat (intL pool), .dat (rowsD rs), .res vn (Rlw K C (tab rs)), .dat (rowsD fs), .em, .em, .em, .em, .em, .em, .em, .em]) (run_asg (m := .e) (d := rowsD fs) (Γ1 := [.dat (intL ns), .dat (.int (i : Nat)), .res vb (rB K q4), .dat (.int fi), .dat (strL nl), .dat (intL pool), .dat (rowsD rs), .res vn (Rlw K C (tab rs)), .em, .em, .em, .em, .em, .em, .em, .em, .em]) (Ev.eq (ev_call1 (m := .e) (i := 2) (v := vb) (R := rB K q3) (R' := rB K q4) (ds := [.lst (rs.map rD ++ (rs.take 3).map rD)]) (Γ' := [.dat (intL ns), .dat (.int (i : Nat)), .res vb (rB K q3), .dat (.int fi), .dat (strL nl), .dat (intL pool), .dat (rowsD rs), .res vn (Rlw K C (tab rs)), .em, .em, .em, .em, .em, .em, .em, .em, .em]) (ea_cons (ev_op (x := rowsD rs) (y := rowsD (rs.take 3)) (ev_var rfl) (ev_sl (ev_var rfl) eo_none (eo_some ev_int) (sl_to (k := 3))) (opd_addL (by rw [List.length_map, List.length_map, List.length_take]; exact Nat.le_of_lt (small1000 (by omega))))) ea_nil) rfl rfl (con_turned hq3 (by rw [List.length_append, List.length_map, List.length_map, List.length_take]; omega))) (congrArg D.lst hfs.symm) rfl)) ?_
    refine run_seq (Γ1 := [.dat (intL ns), .dat (.int (i : Nat)), .res vb (rB K q5), .dat (.int fi), .dat (strL nl), .dat (intL pool), .dat (rowsD rs), .res vn (Rlw K C (tab rs)), .dat (rowsD fs), .dat (.int (c : Nat)), .em, .em, .em, .em, .em, .em, .em]) (run_asg (m := .e) (d := .int (c : Nat)) (Γ1 := [.dat (intL ns), .dat (.int (i : Nat)), .res vb (rB K q5), .dat (.int fi), .dat (strL nl), .dat (intL pool), .dat (rowsD rs), .res vn (Rlw K C (tab rs)), .dat (rowsD fs), .em, .em, .em, .em, .em, .em, .em, .em]) (Ev.eq (ev_call1 (m := .e) (i := 2) (v := vb) (R := rB K q4) (R' := rB K q5) (ds := [.int (((fs.map rD).length : Nat) + 1)]) (Γ' := [.dat (intL ns), .dat (.int (i : Nat)), .res vb (rB K q4), .dat (.int fi), .dat (strL nl), .dat (intL pool), .dat (rowsD rs), .res vn (Rlw K C (tab rs)), .dat (rowsD fs), .em, .em, .em, .em, .em, .em, .em, .em]) (by walk_at "ea") rfl rfl (con_take hq4 (by omega) (lgOne hfl2))) (congrArg D.int hc) rfl)) ?_
    refine run_parRR (R1 := Rlw K C (tab (fs.take c))) (R2 := Rlw K C (tab (fs.drop c))) (Γ1 := [.dat (intL ns), .dat (.int (i : Nat)), .res vb (rB K q5), .dat (.int fi), .dat (strL nl), .dat (intL pool), .dat (rowsD rs), .res vn (Rlw K C (tab rs)), .dat (rowsD fs), .dat (.int (c : Nat)), .em, .em, .em, .em, .em, .em, .em]) (Γ2 := [.dat (intL ns), .dat (.int (i : Nat)), .res vb (rB K q5), .dat (.int fi), .dat (strL nl), .dat (intL pool), .dat (rowsD rs), .res vn (Rlw K C (tab rs)), .dat (rowsD fs), .dat (.int (c : Nat)), .em, .em, .em, .em, .em, .em, .em]) (er_call0 (m := .e) (ds := [rowsD (fs.take c)]) (ea_cons (ev_sl (ev_var rfl) eo_none (eo_some (ev_var rfl)) sl_to) ea_nil) (conR_of (C := C_made K C) ⟨fs.take c, hwt, hlt, rfl⟩)) (er_call0 (m := .e) (ds := [rowsD (fs.drop c)]) (ea_cons (ev_sl (ev_var rfl) (eo_some (ev_var rfl)) eo_none sl_from) ea_nil) (conR_of (C := C_made K C) ⟨fs.drop c, hwd, hld, rfl⟩)) (by simp) (by simp) (by decide) fun vo vt => ?_
    show FD.Run K _ [.dat (intL ns), .dat (.int (i : Nat)), .res vb (rB K q5), .dat (.int fi), .dat (strL nl), .dat (intL pool), .dat (rowsD rs), .res vn (Rlw K C (tab rs)), .dat (rowsD fs), .dat (.int (c : Nat)), .res vo (Rlw K C (tab (fs.take c))), .res vt (Rlw K C (tab (fs.drop c))), .em, .em, .em, .em, .em] _
    refine run_parRR (R1 := Rlw K C tj) (R2 := Rlw K C tk2) (Γ1 := [.dat (intL ns), .dat (.int (i : Nat)), .res vb (rB K q5), .dat (.int fi), .dat (strL nl), .dat (intL pool), .dat (rowsD rs), .res vn (Rlw K C (tab rs)), .dat (rowsD fs), .dat (.int (c : Nat)), .res vo (Rlw K C (tab (fs.take c))), .res vt (Rlw K C (tab (fs.drop c))), .em, .em, .em, .em, .em]) (Γ2 := [.dat (intL ns), .dat (.int (i : Nat)), .res vb (rB K q5), .dat (.int fi), .dat (strL nl), .dat (intL pool), .dat (rowsD rs), .res vn (Rlw K C (tab rs)), .dat (rowsD fs), .dat (.int (c : Nat)), .res vo (Rlw K C (tab (fs.take c))), .res vt (Rlw K C (tab (fs.drop c))), .em, .em, .em, .em, .em]) (er_own2 (i := 10) (j := 11) (mm := "x") (mm' := "x") (R := Rlw K C (tab (fs.take c))) (S := Rlw K C (tab (fs.drop c))) rfl rfl (by decide) (ob_lw (by decide)) (ob_lw (by decide)) (conR_of (C := C_or K C) ⟨vo, vt, _, _, tab_ok _, tab_ok _, tab_ws hwt, tab_ws hwd, htl, hdl, rfl⟩)) (er_own2 (i := 11) (j := 10) (mm := "x") (mm' := "x") (R := Rlw K C (tab (fs.drop c))) (S := Rlw K C (tab (fs.take c))) rfl rfl (by decide) (ob_lw (by decide)) (ob_lw (by decide)) (conR_of (C := C_or K C) ⟨vt, vo, _, _, tab_ok _, tab_ok _, tab_ws hwd, tab_ws hwt, hdl, htl, rfl⟩)) (by simp) (by simp) (by decide) fun vj vk => ?_
    show FD.Run K _ [.dat (intL ns), .dat (.int (i : Nat)), .res vb (rB K q5), .dat (.int fi), .dat (strL nl), .dat (intL pool), .dat (rowsD rs), .res vn (Rlw K C (tab rs)), .dat (rowsD fs), .dat (.int (c : Nat)), .res vo (Rlw K C (tab (fs.take c))), .res vt (Rlw K C (tab (fs.drop c))), .res vj (Rlw K C tj), .res vk (Rlw K C tk2), .em, .em, .em] _
    refine run_seq (Γ1 := [.dat (intL ns), .dat (.int (i : Nat)), .res vb (rB K q5), .dat (.int fi), .dat (strL nl), .dat (intL pool), .dat (rowsD rs), .res vn (Rlw K C (tab rs)), .dat (rowsD fs), .dat (.int (c : Nat)), .res vo (Rlw K C (tab (fs.take c))), .res vt (Rlw K C (tab (fs.drop c))), .res vj (Rlw K C tj), .res vk (Rlw K C tk2), .em, .em, .em]) (run_if (m := .e) (b := false) (Γ1 := [.dat (intL ns), .dat (.int (i : Nat)), .res vb (rB K q5), .dat (.int fi), .dat (strL nl), .dat (intL pool), .dat (rowsD rs), .res vn (Rlw K C (tab rs)), .dat (rowsD fs), .dat (.int (c : Nat)), .res vo (Rlw K C (tab (fs.take c))), .res vt (Rlw K C (tab (fs.drop c))), .res vj (Rlw K C tj), .res vk (Rlw K C tk2), .em, .em, .em]) (EvT.is (evt_or (a := false) (b := false) (Γ1 := [.dat (intL ns), .dat (.int (i : Nat)), .res vb (rB K q5), .dat (.int fi), .dat (strL nl), .dat (intL pool), .dat (rowsD rs), .res vn (Rlw K C (tab rs)), .dat (rowsD fs), .dat (.int (c : Nat)), .res vo (Rlw K C (tab (fs.take c))), .res vt (Rlw K C (tab (fs.drop c))), .res vj (Rlw K C tj), .res vk (Rlw K C tk2), .em, .em, .em]) (EvT.eq (evt_not (evt_B (ev_call1 (m := .e) (i := 12) (v := vj) (R := Rlw K C tj) (R' := Rlw K C tj) (ds := [rowsD rs, intL pool]) (Γ' := [.dat (intL ns), .dat (.int (i : Nat)), .res vb (rB K q5), .dat (.int fi), .dat (strL nl), .dat (intL pool), .dat (rowsD rs), .res vn (Rlw K C (tab rs)), .dat (rowsD fs), .dat (.int (c : Nat)), .res vo (Rlw K C (tab (fs.take c))), .res vt (Rlw K C (tab (fs.drop c))), .res vj (Rlw K C tj), .res vk (Rlw K C tk2), .em, .em, .em]) (by walk_at "ea") rfl rfl (con_is (tab_ok _) tej hw ltj (by omega))))) rfl rfl) (fun _ => EvT.eq (evt_not (evt_B (ev_call1 (m := .e) (i := 13) (v := vk) (R := Rlw K C tk2) (R' := Rlw K C tk2) (ds := [rowsD rs, intL pool]) (Γ' := [.dat (intL ns), .dat (.int (i : Nat)), .res vb (rB K q5), .dat (.int fi), .dat (strL nl), .dat (intL pool), .dat (rowsD rs), .res vn (Rlw K C (tab rs)), .dat (rowsD fs), .dat (.int (c : Nat)), .res vo (Rlw K C (tab (fs.take c))), .res vt (Rlw K C (tab (fs.drop c))), .res vj (Rlw K C tj), .res vk (Rlw K C tk2), .em, .em, .em]) (by walk_at "ea") rfl rfl (con_is (tab_ok _) tek hw ltk (by omega))))) rfl rfl) (fun h => nomatch h)) rfl) (fun h => nomatch h) (fun _ => run_next)) ?_
    refine run_seq (Γ1 := [.dat (intL ns), .dat (.int (i : Nat)), .res vb (rB K q5), .dat (.int fi), .dat (strL nl), .dat (intL pool), .dat (rowsD rs), .res vn (Rlw K C (tab rs)), .dat (rowsD fs), .dat (.int (c : Nat)), .res vo (Rlw K C (tab (fs.take c))), .res vt (Rlw K C (tab (fs.drop c))), .res vj (Rlw K C tj), .res vk (Rlw K C tk2), .em, .em, .em]) (run_if (m := .e) (b := false) (Γ1 := [.dat (intL ns), .dat (.int (i : Nat)), .res vb (rB K q5), .dat (.int fi), .dat (strL nl), .dat (intL pool), .dat (rowsD rs), .res vn (Rlw K C (tab rs)), .dat (rowsD fs), .dat (.int (c : Nat)), .res vo (Rlw K C (tab (fs.take c))), .res vt (Rlw K C (tab (fs.drop c))), .res vj (Rlw K C tj), .res vk (Rlw K C tk2), .em, .em, .em]) (EvT.is (evt_or (a := false) (b := false) (Γ1 := [.dat (intL ns), .dat (.int (i : Nat)), .res vb (rB K q5), .dat (.int fi), .dat (strL nl), .dat (intL pool), .dat (rowsD rs), .res vn (Rlw K C (tab rs)), .dat (rowsD fs), .dat (.int (c : Nat)), .res vo (Rlw K C (tab (fs.take c))), .res vt (Rlw K C (tab (fs.drop c))), .res vj (Rlw K C tj), .res vk (Rlw K C tk2), .em, .em, .em]) (EvT.eq (evt_not (evt_test (ev_own2 (C := C) (i := 12) (j := 7) (mm := "x") (mm' := "x") (R := Rlw K C tj) (S := Rlw K C (tab rs)) (R' := Rlw K C tj) (S' := Rlw K C (tab rs)) rfl rfl (by decide) (ob_lw (by decide)) (ob_lw (by decide)) (con_of (C := C_eq K C) (.inl ⟨vj, vn, _, _, wsj, wsn, rfl⟩))))) (by rw [eqj]; rfl) rfl) (fun _ => EvT.eq (evt_not (evt_test (ev_own2 (C := C) (i := 7) (j := 13) (mm := "x") (mm' := "x") (R := Rlw K C (tab rs)) (S := Rlw K C tk2) (R' := Rlw K C (tab rs)) (S' := Rlw K C tk2) rfl rfl (by decide) (ob_lw (by decide)) (ob_lw (by decide)) (con_of (C := C_eq K C) (.inl ⟨vn, vk, _, _, wsn, wsk, rfl⟩))))) (by rw [eqk]; rfl) rfl) (fun h => nomatch h)) rfl) (fun h => nomatch h) (fun _ => run_next)) ?_
    refine run_seq (Γ1 := [.dat (intL ns), .dat (.int (i : Nat)), .res vb (rB K q5), .dat (.int fi), .dat (strL nl), .dat (intL pool), .dat (rowsD rs), .res vn (Rlw K C (tab rs)), .dat (rowsD fs), .dat (.int (c : Nat)), .res vo (Rlw K C (tab (fs.take c))), .res vt (Rlw K C (tab (fs.drop c))), .res vj (Rlw K C tj), .res vk (Rlw K C tk2), .dat (.bl lk), .em, .em]) (Run.is (run_asg (m := .e) (d := .bl lk) (Γ1 := [.dat (intL ns), .dat (.int (i : Nat)), .res vb (rB K q5), .dat (.int fi), .dat (strL nl), .dat (intL pool), .dat (rowsD rs), .res vn (Rlw K C (tab rs)), .dat (rowsD fs), .dat (.int (c : Nat)), .res vo (Rlw K C (tab (fs.take c))), .res vt (Rlw K C (tab (fs.drop c))), .res vj (Rlw K C tj), .res vk (Rlw K C tk2), .em, .em, .em]) (Ev.is (ev_op (x := D.dict (encT (tab (fs.take c)))) (y := D.dict (encT (tab (fs.drop c)))) (ev_call0 (m := .e) (ds := [rowsD (fs.take c)]) (ea_cons (ev_sl (ev_var rfl) eo_none (eo_some (ev_var rfl)) sl_to) ea_nil) (con_table hwt (by omega))) (ev_call0 (m := .e) (ds := [rowsD (fs.drop c)]) (ea_cons (ev_sl (ev_var rfl) (eo_some (ev_var rfl)) eo_none sl_from) ea_nil) (con_table hwd (by omega))) (opd_eqDic (enc_shaped (tab_ws hwt)) (enc_shaped (tab_ws hwd)))) (by rw [Bool.xor_false]))) rfl) ?_
    refine run_seq (Γ1 := [.dat (intL ns), .dat (.int (i : Nat)), .res vb (rB K q5), .dat (.int fi), .dat (strL nl), .dat (intL pool), .dat (rowsD rs), .res vn (Rlw K C (tab rs)), .dat (rowsD fs), .dat (.int (c : Nat)), .res vo (Rlw K C (tab (fs.take c))), .res vt (Rlw K C (tab (fs.drop c))), .res vj (Rlw K C tj), .res vk (Rlw K C tk2), .dat (.bl lk), .em, .em]) (run_if (m := .e) (b := false) (Γ1 := [.dat (intL ns), .dat (.int (i : Nat)), .res vb (rB K q5), .dat (.int fi), .dat (strL nl), .dat (intL pool), .dat (rowsD rs), .res vn (Rlw K C (tab rs)), .dat (rowsD fs), .dat (.int (c : Nat)), .res vo (Rlw K C (tab (fs.take c))), .res vt (Rlw K C (tab (fs.drop c))), .res vj (Rlw K C tj), .res vk (Rlw K C tk2), .dat (.bl lk), .em, .em]) (EvT.is (evt_or (a := false) (b := false) (Γ1 := [.dat (intL ns), .dat (.int (i : Nat)), .res vb (rB K q5), .dat (.int fi), .dat (strL nl), .dat (intL pool), .dat (rowsD rs), .res vn (Rlw K C (tab rs)), .dat (rowsD fs), .dat (.int (c : Nat)), .res vo (Rlw K C (tab (fs.take c))), .res vt (Rlw K C (tab (fs.drop c))), .res vj (Rlw K C tj), .res vk (Rlw K C tk2), .dat (.bl lk), .em, .em]) (EvT.is (evt_not (evt_B (ev_call0 (m := .e) (ds := [.bl lk, .bl lk]) (ea_cons (Ev.eq (ev_own2 (C := C) (i := 10) (j := 11) (mm := "x") (mm' := "x") (R := Rlw K C (tab (fs.take c))) (S := Rlw K C (tab (fs.drop c))) (R' := Rlw K C (tab (fs.take c))) (S' := Rlw K C (tab (fs.drop c))) rfl rfl (by decide) (ob_lw (by decide)) (ob_lw (by decide)) (con_of (C := C_eq K C) (.inl ⟨vo, vt, _, _, (tab_ws hwt), (tab_ws hwd), rfl⟩))) rfl rfl) (ea_cons (ev_var rfl) ea_nil)) con_bool))) (by simp)) (fun _ => EvT.eq (evt_test (ev_ownL (C := C) (i := 7) (mm := "x") (R := Rlw K C (tab rs)) (R' := Rlw K C (tab rs)) (ds := rs.map rD) rfl (ob_lw (by decide)) (ev_var rfl) (con_of (C := C_eq K C) (.inr ⟨vn, _, _, rfl⟩)))) rfl rfl) (fun h => nomatch h)) rfl) (fun h => nomatch h) (fun _ => run_next)) ?_
    refine run_seq (Γ1 := [.dat (intL ns), .dat (.int (i : Nat)), .res vb (rB K q5), .dat (.int fi), .dat (strL nl), .dat (intL pool), .dat (rowsD rs), .res vn (Rlw K C (tab rs)), .dat (rowsD fs), .dat (.int (c : Nat)), .res vo (Rlw K C (tab (fs.take c))), .res vt (Rlw K C (tab (fs.drop c))), .res vj (Rlw K C (tadd tj nr)), .res vk (Rlw K C tk2), .dat (.bl lk), .em, .em]) (Run.is (run_drop (m := .e) (ev_methN (C := C) (m := .e) (ds := [.int nr.1, .bl nr.2.2.2]) (es := [.int nr.2.1, .str nr.2.2.1]) (R := Rlw K C tj) (R' := Rlw K C (tadd tj nr)) (Γ1 := [.dat (intL ns), .dat (.int (i : Nat)), .res vb (rB K q5), .dat (.int fi), .dat (strL nl), .dat (intL pool), .dat (rowsD rs), .res vn (Rlw K C (tab rs)), .dat (rowsD fs), .dat (.int (c : Nat)), .res vo (Rlw K C (tab (fs.take c))), .res vt (Rlw K C (tab (fs.drop c))), .res vj (Rlw K C tj), .res vk (Rlw K C tk2), .dat (.bl lk), .em, .em]) (Γ' := [.dat (intL ns), .dat (.int (i : Nat)), .res vb (rB K q5), .dat (.int fi), .dat (strL nl), .dat (intL pool), .dat (rowsD rs), .res vn (Rlw K C (tab rs)), .dat (rowsD fs), .dat (.int (c : Nat)), .res vo (Rlw K C (tab (fs.take c))), .res vt (Rlw K C (tab (fs.drop c))), .res vj (Rlw K C tj), .res vk (Rlw K C tk2), .dat (.bl lk), .em, .em]) (refE_var (k := 12) rfl) (plc_slot (k := 12) rfl) (ob_lw (by decide)) (ea_cons (ev_op (x := intL pool) (y := .int 4) (ev_var rfl) ev_int (opd_ixL p4)) (ea_cons ev_bl ea_nil)) (ea_cons ev_int (ea_cons (ev_op (x := strL nl) (y := .int 0) (ev_var rfl) ev_int (opd_ixL n0)) ea_nil)) (plc_slot (k := 12) rfl) rfl rfl (fun _ _ _ _ => rfl) (con_say (by omega)))) rfl) ?_
    refine run_seq (Γ1 := [.dat (intL ns), .dat (.int (i : Nat)), .res vb (rB K q5), .dat (.int fi), .dat (strL nl), .dat (intL pool), .dat (rowsD rs), .res vn (Rlw K C (tab rs)), .dat (rowsD fs), .dat (.int (c : Nat)), .res vo (Rlw K C (tab (fs.take c))), .res vt (Rlw K C (tab (fs.drop c))), .res vj (Rlw K C (tadd tj nr)), .res vk (Rlw K C tk2), .dat (.bl lk), .em, .em]) (run_appT (m := .e) (ds := (numsL (tab rs)).map .int) (d := .int nr.1) (Γ1 := [.dat (intL ns), .dat (.int (i : Nat)), .res vb (rB K q5), .dat (.int fi), .dat (strL nl), .dat (intL pool), .dat (rowsD rs), .res vn (Rlw K C (tab rs)), .dat (rowsD fs), .dat (.int (c : Nat)), .res vo (Rlw K C (tab (fs.take c))), .res vt (Rlw K C (tab (fs.drop c))), .res vj (Rlw K C (tadd tj nr)), .res vk (Rlw K C tk2), .dat (.bl lk), .em, .em]) (er_meth (C := C) (k := 7) (R := Rlw K C (tab rs)) rfl (ob_lw (by decide)) (conR_of (C := C_numbers K C) ⟨vn, _, ltn, .inr rfl⟩)) (ev_op (x := intL pool) (y := .int 4) (ev_var rfl) ev_int (opd_ixL p4)) (by rw [List.length_map, numsL, (isort_perm _).length_eq, List.length_map]; exact small1000 (by omega))) ?_
    refine run_seq (Γ1 := [.dat (intL ns), .dat (.int (i : Nat)), .res vb (rB K q5), .dat (.int fi), .dat (strL nl), .dat (intL pool), .dat (rowsD rs), .res vn (Rlw K C (tab rs)), .dat (rowsD fs), .dat (.int (c : Nat)), .res vo (Rlw K C (tab (fs.take c))), .res vt (Rlw K C (tab (fs.drop c))), .res vj (Rlw K C (tadd tj nr)), .res vk (Rlw K C tk2), .dat (.bl lk), .em, .em]) (run_if (m := .e) (b := false) (Γ1 := [.dat (intL ns), .dat (.int (i : Nat)), .res vb (rB K q5), .dat (.int fi), .dat (strL nl), .dat (intL pool), .dat (rowsD rs), .res vn (Rlw K C (tab rs)), .dat (rowsD fs), .dat (.int (c : Nat)), .res vo (Rlw K C (tab (fs.take c))), .res vt (Rlw K C (tab (fs.drop c))), .res vj (Rlw K C (tadd tj nr)), .res vk (Rlw K C tk2), .dat (.bl lk), .em, .em]) (EvT.is (evt_or (a := false) (b := false) (Γ1 := [.dat (intL ns), .dat (.int (i : Nat)), .res vb (rB K q5), .dat (.int fi), .dat (strL nl), .dat (intL pool), .dat (rowsD rs), .res vn (Rlw K C (tab rs)), .dat (rowsD fs), .dat (.int (c : Nat)), .res vo (Rlw K C (tab (fs.take c))), .res vt (Rlw K C (tab (fs.drop c))), .res vj (Rlw K C (tadd tj nr)), .res vk (Rlw K C tk2), .dat (.bl lk), .em, .em]) (EvT.eq (evt_not (evt_B (ev_call1 (m := .e) (i := 10) (v := vo) (R := Rlw K C (tab (fs.take c))) (R' := Rlw K C (tab (fs.take c))) (ds := [rowsD (fs.take c), intL pool]) (Γ' := [.dat (intL ns), .dat (.int (i : Nat)), .res vb (rB K q5), .dat (.int fi), .dat (strL nl), .dat (intL pool), .dat (rowsD rs), .res vn (Rlw K C (tab rs)), .dat (rowsD fs), .dat (.int (c : Nat)), .res vo (Rlw K C (tab (fs.take c))), .res vt (Rlw K C (tab (fs.drop c))), .res vj (Rlw K C (tadd tj nr)), .res vk (Rlw K C tk2), .dat (.bl lk), .em, .em]) (ea_cons (ev_sl (ev_var rfl) eo_none (eo_some (ev_var rfl)) sl_to) (ea_cons (ev_var rfl) ea_nil)) rfl rfl (con_is (tab_ok _) (fun _ => rfl) hwt htl hlt)))) rfl rfl) (fun _ => EvT.eq (evt_not (evt_B (ev_call1 (m := .e) (i := 11) (v := vt) (R := Rlw K C (tab (fs.drop c))) (R' := Rlw K C (tab (fs.drop c))) (ds := [rowsD (fs.drop c), intL pool]) (Γ' := [.dat (intL ns), .dat (.int (i : Nat)), .res vb (rB K q5), .dat (.int fi), .dat (strL nl), .dat (intL pool), .dat (rowsD rs), .res vn (Rlw K C (tab rs)), .dat (rowsD fs), .dat (.int (c : Nat)), .res vo (Rlw K C (tab (fs.take c))), .res vt (Rlw K C (tab (fs.drop c))), .res vj (Rlw K C (tadd tj nr)), .res vk (Rlw K C tk2), .dat (.bl lk), .em, .em]) (ea_cons (ev_sl (ev_var rfl) (eo_some (ev_var rfl)) eo_none sl_from) (ea_cons (ev_var rfl) ea_nil)) rfl rfl (con_is (tab_ok _) (fun _ => rfl) hwd hdl hld)))) rfl rfl) (fun h => nomatch h)) rfl) (fun h => nomatch h) (fun _ => run_next)) ?_
    refine run_seq (Γ1 := [.dat (intL ns), .dat (.int (i : Nat)), .res vb (rB K q5), .dat (.int fi), .dat (strL nl), .dat (intL pool), .dat (rowsD rs), .res vn (Rlw K C (tab rs)), .dat (rowsD fs), .dat (.int (c : Nat)), .res vo (Rlw K C (tab (fs.take c))), .res vt (Rlw K C (tab (fs.drop c))), .res vj (Rlw K C (tadd tj nr)), .res vk (Rlw K C tk2), .dat (.bl lk), .em, .em]) (run_if (m := .e) (b := false) (Γ1 := [.dat (intL ns), .dat (.int (i : Nat)), .res vb (rB K q5), .dat (.int fi), .dat (strL nl), .dat (intL pool), .dat (rowsD rs), .res vn (Rlw K C (tab rs)), .dat (rowsD fs), .dat (.int (c : Nat)), .res vo (Rlw K C (tab (fs.take c))), .res vt (Rlw K C (tab (fs.drop c))), .res vj (Rlw K C (tadd tj nr)), .res vk (Rlw K C tk2), .dat (.bl lk), .em, .em]) (EvT.eq (evt_not (evt_B (ev_call1 (m := .e) (i := 7) (v := vn) (R := Rlw K C (tab rs)) (R' := Rlw K C (tab rs)) (ds := [rowsD rs, intL pool]) (Γ' := [.dat (intL ns), .dat (.int (i : Nat)), .res vb (rB K q5), .dat (.int fi), .dat (strL nl), .dat (intL pool), .dat (rowsD rs), .res vn (Rlw K C (tab rs)), .dat (rowsD fs), .dat (.int (c : Nat)), .res vo (Rlw K C (tab (fs.take c))), .res vt (Rlw K C (tab (fs.drop c))), .res vj (Rlw K C (tadd tj nr)), .res vk (Rlw K C tk2), .dat (.bl lk), .em, .em]) (by walk_at "ea") rfl rfl (con_is (tab_ok _) (fun _ => rfl) hw ltn (by omega))))) rfl rfl) (fun h => nomatch h) (fun _ => run_next)) ?_
    refine run_seq (Γ1 := [.dat (intL ns), .dat (.int (i : Nat)), .res vb (rB K q5), .dat (.int fi), .dat (strL nl), .dat (intL pool), .dat (rowsD rs), .res vn (Rlw K C (tab rs)), .dat (rowsD fs), .dat (.int (c : Nat)), .res vo (Rlw K C (tab (fs.take c))), .res vt (Rlw K C (tab (fs.drop c))), .res vj (Rlw K C (tadd tj nr)), .res vk (Rlw K C tk2), .dat (.bl lk), .em, .em]) (run_if (m := .e) (b := false) (Γ1 := [.dat (intL ns), .dat (.int (i : Nat)), .res vb (rB K q5), .dat (.int fi), .dat (strL nl), .dat (intL pool), .dat (rowsD rs), .res vn (Rlw K C (tab rs)), .dat (rowsD fs), .dat (.int (c : Nat)), .res vo (Rlw K C (tab (fs.take c))), .res vt (Rlw K C (tab (fs.drop c))), .res vj (Rlw K C (tadd tj nr)), .res vk (Rlw K C tk2), .dat (.bl lk), .em, .em]) (EvT.is (evt_or (a := false) (b := false) (Γ1 := [.dat (intL ns), .dat (.int (i : Nat)), .res vb (rB K q5), .dat (.int fi), .dat (strL nl), .dat (intL pool), .dat (rowsD rs), .res vn (Rlw K C (tab rs)), .dat (rowsD fs), .dat (.int (c : Nat)), .res vo (Rlw K C (tab (fs.take c))), .res vt (Rlw K C (tab (fs.drop c))), .res vj (Rlw K C (tadd tj nr)), .res vk (Rlw K C tk2), .dat (.bl lk), .em, .em]) (EvT.eq (evt_test (ev_own2 (C := C) (i := 12) (j := 7) (mm := "x") (mm' := "x") (R := Rlw K C (tadd tj nr)) (S := Rlw K C (tab rs)) (R' := Rlw K C (tadd tj nr)) (S' := Rlw K C (tab rs)) rfl rfl (by decide) (ob_lw (by decide)) (ob_lw (by decide)) (con_of (C := C_eq K C) (.inl ⟨vj, vn, _, _, wsj2, wsn, rfl⟩)))) eqn rfl) (fun _ => EvT.eq (evt_not (evt_B (ev_call1 (m := .e) (i := 13) (v := vk) (R := Rlw K C tk2) (R' := Rlw K C tk2) (ds := [rowsD rs, intL pool]) (Γ' := [.dat (intL ns), .dat (.int (i : Nat)), .res vb (rB K q5), .dat (.int fi), .dat (strL nl), .dat (intL pool), .dat (rowsD rs), .res vn (Rlw K C (tab rs)), .dat (rowsD fs), .dat (.int (c : Nat)), .res vo (Rlw K C (tab (fs.take c))), .res vt (Rlw K C (tab (fs.drop c))), .res vj (Rlw K C (tadd tj nr)), .res vk (Rlw K C tk2), .dat (.bl lk), .em, .em]) (by walk_at "ea") rfl rfl (con_is (tab_ok _) tek hw ltk (by omega))))) rfl rfl) (fun h => nomatch h)) rfl) (fun h => nomatch h) (fun _ => run_next)) ?_
    refine run_seq (Γ1 := [.dat (intL ns), .dat (.int (i : Nat)), .res vb (rB K q5), .dat (.int fi), .dat (strL nl), .dat (intL pool), .dat (rowsD rs), .res vn (Rlw K C (tab rs)), .dat (rowsD fs), .dat (.int (c : Nat)), .res vo (Rlw K C (tab (fs.take c))), .res vt (Rlw K C (tab (fs.drop c))), .res vj (Rlw K C (tadd tj nr)), .res vk (Rlw K C tk2), .dat (.bl lk), .em, .em]) (run_if (m := .e) (b := false) (Γ1 := [.dat (intL ns), .dat (.int (i : Nat)), .res vb (rB K q5), .dat (.int fi), .dat (strL nl), .dat (intL pool), .dat (rowsD rs), .res vn (Rlw K C (tab rs)), .dat (rowsD fs), .dat (.int (c : Nat)), .res vo (Rlw K C (tab (fs.take c))), .res vt (Rlw K C (tab (fs.drop c))), .res vj (Rlw K C (tadd tj nr)), .res vk (Rlw K C tk2), .dat (.bl lk), .em, .em]) (EvT.eq (evt_not (evt_B (ev_call1 (m := .e) (i := 12) (v := vj) (R := Rlw K C (tadd tj nr)) (R' := Rlw K C (tadd tj nr)) (ds := [rowsD (rs ++ [nr]), intL pool]) (Γ' := [.dat (intL ns), .dat (.int (i : Nat)), .res vb (rB K q5), .dat (.int fi), .dat (strL nl), .dat (intL pool), .dat (rowsD rs), .res vn (Rlw K C (tab rs)), .dat (rowsD fs), .dat (.int (c : Nat)), .res vo (Rlw K C (tab (fs.take c))), .res vt (Rlw K C (tab (fs.drop c))), .res vj (Rlw K C (tadd tj nr)), .res vk (Rlw K C tk2), .dat (.bl lk), .em, .em]) (ea_cons (ev_op (x := rowsD rs) (y := rowsD [nr]) (ev_var rfl) (ev_lst (ea_cons (ev_tup (ea_cons (ev_op (x := intL pool) (y := .int 4) (ev_var rfl) ev_int (opd_ixL p4)) (ea_cons ev_bl (ea_cons ev_int (ea_cons (ev_op (x := strL nl) (y := .int 0) (ev_var rfl) ev_int (opd_ixL n0)) ea_nil)))) (Nat.le_of_lt (L2.small1000 (Nat.le_of_ble_eq_true rfl)))) ea_nil) (Nat.le_of_lt (L2.small1000 (Nat.le_of_ble_eq_true rfl)))) addN) (ea_cons (ev_var rfl) ea_nil)) rfl rfl (con_is (tadd_ok (tab_ok _)) tej2 hw2 ltj2 (by rw [List.length_append, List.length_singleton]; omega))))) rfl rfl) (fun h => nomatch h) (fun _ => run_next)) ?_
    refine run_if (m := .e) (b := !decide (rs = [])) (Γ1 := [.dat (intL ns), .dat (.int (i : Nat)), .res vb (rB K q5), .dat (.int fi), .dat (strL nl), .dat (intL pool), .dat (rowsD rs), .res vn (Rlw K C (tab rs)), .dat (rowsD fs), .dat (.int (c : Nat)), .res vo (Rlw K C (tab (fs.take c))), .res vt (Rlw K C (tab (fs.drop c))), .res vj (Rlw K C (tadd tj nr)), .res vk (Rlw K C tk2), .dat (.bl lk), .em, .em]) (EvT.is (evt_test (ev_op (x := rowsD rs) (y := .lst []) (ev_var rfl) (ev_lst ea_nil (Nat.zero_le _)) (opd_neD (rows_shaped hw) rfl))) (by rw [eqv_rows])) (fun hb => ?_) (fun _ => Run.nxWeak run_next (by walk_at "wk"))
    have hne : rs ≠ [] := by simpa using hb
    obtain ⟨ra, hra⟩ : ∃ r, rs[0]? = some r := ⟨rs[0]'(List.length_pos_iff.mpr hne), List.getElem?_eq_getElem _⟩
    obtain ⟨rb, hrb⟩ : ∃ r, rs.getLast? = some r := ⟨rs.getLast hne, List.getLast?_eq_some_getLast hne⟩
    have ha0 : atI (rs.map rD) 0 = some (rD ra) := atI_nat' (i := 0) (by rw [List.getElem?_map, hra]; rfl)
    have hb0 : atI (rs.map rD) (-1) = some (rD rb) := atI_last' (by rw [List.getLast?_map, hrb]; rfl)
    have hwa : wOk ra.2 := hw ra (List.mem_of_getElem? hra)
    have hwb : wOk rb.2 := hw rb (List.mem_of_getLast? hrb)
    have hwab : wsOk [ra, rb] := fun r h => by simp at h; rcases h with rfl | rfl <;> assumption
    have hwba : wsOk [rb, ra] := fun r h => by simp at h; rcases h with rfl | rfl <;> assumption
    have teab : TEq (tab [ra, rb]) (tab [rb, ra]) := fun n => by rw [tget_tab, tget_tab]; exact gm_perm (List.Perm.swap _ _ _) n
    refine run_asgR (R := Rlw K C (tab [ra, rb])) (Γ1 := [.dat (intL ns), .dat (.int (i : Nat)), .res vb (rB K q5), .dat (.int fi), .dat (strL nl), .dat (intL pool), .dat (rowsD rs), .res vn (Rlw K C (tab rs)), .dat (rowsD fs), .dat (.int (c : Nat)), .res vo (Rlw K C (tab (fs.take c))), .res vt (Rlw K C (tab (fs.drop c))), .res vj (Rlw K C (tadd tj nr)), .res vk (Rlw K C tk2), .dat (.bl lk), .em, .em]) (er_makeR (m := .e) (ds := [rD ra, rD rb]) (ea_cons (ev_op (x := rowsD rs) (y := .int 0) (ev_var rfl) ev_int (opd_ixL ha0)) (ea_cons (ev_op (x := rowsD rs) (y := .int (-1)) (ev_var rfl) (Ev.is (ev_un ev_int und_neg) rfl) (opd_ixL hb0)) ea_nil)) (con_new (rs := [ra, rb]) hwab (by simp))) (by simp) fun v8 => ?_
    show FD.Run K _ [.dat (intL ns), .dat (.int (i : Nat)), .res vb (rB K q5), .dat (.int fi), .dat (strL nl), .dat (intL pool), .dat (rowsD rs), .res v8 (Rlw K C (tab [ra, rb])), .dat (rowsD fs), .dat (.int (c : Nat)), .res vo (Rlw K C (tab (fs.take c))), .res vt (Rlw K C (tab (fs.drop c))), .res vj (Rlw K C (tadd tj nr)), .res vk (Rlw K C tk2), .dat (.bl lk), .em, .em] _
    refine Run.nxWeak (Γ1 := [.dat (intL ns), .dat (.int (i : Nat)), .res vb (rB K q5), .dat (.int fi), .dat (strL nl), .dat (intL pool), .dat (rowsD rs), .res v8 (Rlw K C (tab [ra, rb])), .dat (rowsD fs), .dat (.int (c : Nat)), .res vo (Rlw K C (tab (fs.take c))), .res vt (Rlw K C (tab (fs.drop c))), .res vj (Rlw K C (tadd tj nr)), .res vk (Rlw K C tk2), .dat (.bl lk), .em, .em]) (run_if (m := .e) (b := false) (Γ1 := [.dat (intL ns), .dat (.int (i : Nat)), .res vb (rB K q5), .dat (.int fi), .dat (strL nl), .dat (intL pool), .dat (rowsD rs), .res v8 (Rlw K C (tab [ra, rb])), .dat (rowsD fs), .dat (.int (c : Nat)), .res vo (Rlw K C (tab (fs.take c))), .res vt (Rlw K C (tab (fs.drop c))), .res vj (Rlw K C (tadd tj nr)), .res vk (Rlw K C tk2), .dat (.bl lk), .em, .em]) (EvT.eq (evt_not (evt_B (ev_call1 (m := .e) (i := 7) (v := v8) (R := Rlw K C (tab [ra, rb])) (R' := Rlw K C (tab [ra, rb])) (ds := [rowsD [rb, ra], intL pool]) (Γ' := [.dat (intL ns), .dat (.int (i : Nat)), .res vb (rB K q5), .dat (.int fi), .dat (strL nl), .dat (intL pool), .dat (rowsD rs), .res v8 (Rlw K C (tab [ra, rb])), .dat (rowsD fs), .dat (.int (c : Nat)), .res vo (Rlw K C (tab (fs.take c))), .res vt (Rlw K C (tab (fs.drop c))), .res vj (Rlw K C (tadd tj nr)), .res vk (Rlw K C tk2), .dat (.bl lk), .em, .em]) (ea_cons (ev_lst (ea_cons (ev_op (x := rowsD rs) (y := .int (-1)) (ev_var rfl) (Ev.is (ev_un ev_int und_neg) rfl) (opd_ixL hb0)) (ea_cons (ev_op (x := rowsD rs) (y := .int 0) (ev_var rfl) ev_int (opd_ixL ha0)) ea_nil)) (Nat.le_of_lt (L2.small1000 (Nat.le_of_ble_eq_true rfl)))) (ea_cons (ev_var rfl) ea_nil)) rfl rfl (con_is (tab_ok _) teab hwba (Nat.lt_of_le_of_lt (tab_len _) (by simp)) (by simp))))) rfl rfl) (fun h => nomatch h) (fun _ => run_next)) (by walk_at "wk")
  · show FD.Run K _ _ _
    refine run_asgR (R := Rlw K C (tab four)) (Γ1 := [.dat (intL ns), .em, .em, .em, .em, .em, .em, .em, .em, .em, .em, .em, .em, .em, .em, .em, .em]) (er_makeR (m := .e) (ds := four.map rD) (ea_cons (ev_tup (ds := [.int 3, .bl true, .int 1, .str "b"]) (by walk_at "ea") (Nat.le_of_lt (L2.small1000 (Nat.le_of_ble_eq_true rfl)))) (ea_cons (ev_tup (ds := [.int 3, .bl false, .int 1, .str "c"]) (by walk_at "ea") (Nat.le_of_lt (L2.small1000 (Nat.le_of_ble_eq_true rfl)))) (ea_cons (ev_tup (ds := [.int 5, .bl true, .int 0, .str "a"]) (by walk_at "ea") (Nat.le_of_lt (L2.small1000 (Nat.le_of_ble_eq_true rfl)))) (ea_cons (ev_tup (ds := [.int 5, .bl false, .int 0, .str "a"]) (by walk_at "ea") (Nat.le_of_lt (L2.small1000 (Nat.le_of_ble_eq_true rfl)))) ea_nil)))) (con_new (rs := four) four_ok (by decide))) (by simp) fun v9 => ?_
    show FD.Run K _ [.dat (intL ns), .em, .em, .em, .em, .em, .em, .em, .em, .em, .em, .em, .em, .em, .em, .res v9 (Rlw K C (tab four)), .em] _
    refine Run_rtWeak (Γ1 := [.dat (intL ns), .em, .em, .em, .em, .em, .em, .em, .em, .em, .em, .em, .em, .em, .em, .res v9 (Rlw K C (tab four)), .em]) ?_ (by walk_at "wk")
    refine run_ret (m := .e) (Ev.is (ev_andV (a := true) (b := true && true) (Γ1 := [.dat (intL ns), .em, .em, .em, .em, .em, .em, .em, .em, .em, .em, .em, .em, .em, .em, .res v9 (Rlw K C (tab four)), .em]) (Ev.is (ev_op (x := wD (1, "c", false)) (y := wD (1, "c", false)) (Ev.eq (ev_meth (C := C) (m := .e) (ds := [.int 3]) (R := Rlw K C (tab four)) (R' := Rlw K C (tab four)) (Γ' := [.dat (intL ns), .em, .em, .em, .em, .em, .em, .em, .em, .em, .em, .em, .em, .em, .em, .res v9 (Rlw K C (tab four)), .em]) (refE_var (k := 15) rfl) (plc_slot (k := 15) rfl) (ob_lw (by decide)) (ea_cons ev_int ea_nil) (plc_slot (k := 15) rfl) (con_of (C := C_last K C) ⟨v9, tab four, 3, rfl⟩)) (by rw [show tget (tab four) 3 = some ((1, "c", false) : Wo) from by decide +kernel]; rfl) rfl) (ev_tup (by walk_at "ea") (Nat.le_of_lt (L2.small1000 (Nat.le_of_ble_eq_true rfl)))) (opd_eqD (word_shaped (show PyData.strOk _ = true by decide +kernel)) (word_shaped (show PyData.strOk _ = true by decide +kernel)))) (by rw [eqv_word]; simp)) (fun _ => ev_andV (a := true) (b := true) (Γ1 := [.dat (intL ns), .em, .em, .em, .em, .em, .em, .em, .em, .em, .em, .em, .em, .em, .em, .res v9 (Rlw K C (tab four)), .em]) (Ev.is (ev_op (x := wD (0, "a", true)) (y := wD (0, "a", true)) (Ev.eq (ev_meth (C := C) (m := .e) (ds := [.int 5]) (R := Rlw K C (tab four)) (R' := Rlw K C (tab four)) (Γ' := [.dat (intL ns), .em, .em, .em, .em, .em, .em, .em, .em, .em, .em, .em, .em, .em, .em, .res v9 (Rlw K C (tab four)), .em]) (refE_var (k := 15) rfl) (plc_slot (k := 15) rfl) (ob_lw (by decide)) (ea_cons ev_int ea_nil) (plc_slot (k := 15) rfl) (con_of (C := C_last K C) ⟨v9, tab four, 5, rfl⟩)) (by rw [show tget (tab four) 5 = some ((0, "a", true) : Wo) from by decide +kernel]; rfl) rfl) (ev_tup (by walk_at "ea") (Nat.le_of_lt (L2.small1000 (Nat.le_of_ble_eq_true rfl)))) (opd_eqD (word_shaped (show PyData.strOk _ = true by decide +kernel)) (word_shaped (show PyData.strOk _ = true by decide +kernel)))) (by rw [eqv_word]; simp)) (fun _ => Ev.eq (ev_own2T (C := C) (mm := "x") (mm' := "x") (R := Rlw K C (tab [])) (S := Rlw K C (tab [])) (Γ1 := [.dat (intL ns), .em, .em, .em, .em, .em, .em, .em, .em, .em, .em, .em, .em, .em, .em, .res v9 (Rlw K C (tab four)), .em]) (er_makeR (m := .e) (ds := []) ea_nil (con_new (rs := []) (fun _ h => by simp at h) (by decide))) (er_makeR (m := .e) (ds := []) ea_nil (con_new (rs := []) (fun _ h => by simp at h) (by decide))) (ob_lw (by decide)) (ob_lw (by decide)) (fun v u => con_of (C := C_eq K C) (.inl ⟨v, u, tab [], tab [], (fun _ h => by simp [tab] at h), (fun _ h => by simp [tab] at h), rfl⟩))) rfl rfl) (fun h => nomatch h)) (fun h => nomatch h)) rfl)
end


theorem cb_of {K : PySem.W.Frag} {C : Addr} (ic : PySem.W.isClsIn K C = true) (ty : PySem.W.typeIn K (.ref C) = some (.type "type")) : ∀ T ∈ ["NoneType", "bool", "int", "str", "list", "tuple", "dict"], PySem.W.kitOne K (.type T) (.ref C) = some false := by
  have e : ((PySem.W.clsIn K C).isSome && PySem.W.typeIn K (.ref C) == some (.type "type")) = true := by
    rw [show (PySem.W.clsIn K C).isSome = true from ic, ty]
    rfl
  intro T hT
  have k : ∀ T : String, PySem.W.subIn K (.type T) (.ref C) = some false → PySem.W.kitOne K (.type T) (.ref C) = some false := fun T h => by
    unfold PySem.W.kitOne PySem.W.kitCls
    rw [if_neg (show ¬ (Value.type T == Value.ref C) = true from fun z => by simp at z)]
    exact (if_pos e).trans h
  simp only [List.mem_cons, List.not_mem_nil, or_false] at hT
  rcases hT with rfl | rfl | rfl | rfl | rfl | rfl | rfl <;> exact k _ rfl
theorem all_mk {l : PySem.W.OpenLaw} {w : PySem.World} {K : PySem.W.Frag} {h : Heap} {mg : Str → Option Value} {fa C fd0 fd1 fd2 fd3 fd4 fd5 fd6 fd7 fd8 fd9 fd10 fd11 fd12 fd13 fm0 fm1 fm2 fm3 fm4 fm5 fm6 fm7 : Addr} (X : K.In h) (G : h.Ns mainGlobals mg) (hfa : mg "law" = some (.ref fa))
    {odd0 and0 odd1 and1 odd2 and2 odd3 and3 odd4 and4 odd5 and5 odd6 and6 odd7 and7 odd8 and8 odd9 and9 odd10 and10 odd11 and11 odd12 and12 odd13 and13 odm0 anm0 odm1 anm1 odm2 anm2 odm3 anm3 odm4 anm4 odm5 anm5 odm6 anm6 odm7 anm7 : Option Addr} {sld0 sld1 sld2 sld3 sld4 sld5 sld6 sld7 sld8 sld9 sld10 sld11 sld12 sld13 slm0 slm1 slm2 slm3 slm4 slm5 slm6 slm7 : Array (Option Value)} {ocd0 kVd0 dcd0 pmd0 cdd0 ctd0 ocd1 kVd1 dcd1 pmd1 cdd1 ctd1 ocd2 kVd2 dcd2 pmd2 cdd2 ctd2 ocd3 kVd3 dcd3 pmd3 cdd3 ctd3 ocd4 kVd4 dcd4 pmd4 cdd4 ctd4 ocd5 kVd5 dcd5 pmd5 cdd5 ctd5 ocd6 kVd6 dcd6 pmd6 cdd6 ctd6 ocd7 kVd7 dcd7 pmd7 cdd7 ctd7 ocd8 kVd8 dcd8 pmd8 cdd8 ctd8 ocd9 kVd9 dcd9 pmd9 cdd9 ctd9 ocd10 kVd10 dcd10 pmd10 cdd10 ctd10 ocd11 kVd11 dcd11 pmd11 cdd11 ctd11 ocd12 kVd12 dcd12 pmd12 cdd12 ctd12 ocd13 kVd13 dcd13 pmd13 cdd13 ctd13 ocm0 kVm0 dcm0 pmm0 cdm0 ctm0 ocm1 kVm1 dcm1 pmm1 cdm1 ctm1 ocm2 kVm2 dcm2 pmm2 cdm2 ctm2 ocm3 kVm3 dcm3 pmm3 cdm3 ctm3 ocm4 kVm4 dcm4 pmm4 cdm4 ctm4 ocm5 kVm5 dcm5 pmm5 cdm5 ctm5 ocm6 kVm6 dcm6 pmm6 cdm6 ctm6 ocm7 kVm7 dcm7 pmm7 cdm7 ctm7 : Value}
    (aC : PySem.W.nsIn K mainGlobals "LastWords" = some (some (.ref C)))
    (ad0 : PySem.W.nsIn K mainGlobals "greatest_words" = some (some (.ref fd0)))
    (ld0 : K.lookup fd0 = some ⟨ocd0, odd0, .func (PySem.W.fnOf "greatest_words" "greatest_words" (defArgs s_greatest_words) (defBody s_greatest_words) (defScope s_greatest_words) .none kVd0 dcd0 pmd0 and0 cdd0 ctd0), sld0⟩)
    (cd0 : PySem.W.codeIn K cdd0 "greatest_words" = true)
    (kd0 : PySem.W.keepIn K (.ref fd0) = true)
    (ad1 : PySem.W.nsIn K mainGlobals "_law_bag" = some (some (.ref fd1)))
    (ld1 : K.lookup fd1 = some ⟨ocd1, odd1, .func (PySem.W.fnOf "_law_bag" "_law_bag" (defArgs s_law_bag) (defBody s_law_bag) (defScope s_law_bag) .none kVd1 dcd1 pmd1 and1 cdd1 ctd1), sld1⟩)
    (cd1 : PySem.W.codeIn K cdd1 "_law_bag" = true)
    (kd1 : PySem.W.keepIn K (.ref fd1) = true)
    (ad2 : PySem.W.nsIn K mainGlobals "_law_take" = some (some (.ref fd2)))
    (ld2 : K.lookup fd2 = some ⟨ocd2, odd2, .func (PySem.W.fnOf "_law_take" "_law_take" (defArgs s_law_take) (defBody s_law_take) (defScope s_law_take) .none kVd2 dcd2 pmd2 and2 cdd2 ctd2), sld2⟩)
    (cd2 : PySem.W.codeIn K cdd2 "_law_take" = true)
    (kd2 : PySem.W.keepIn K (.ref fd2) = true)
    (ad3 : PySem.W.nsIn K mainGlobals "_law_of" = some (some (.ref fd3)))
    (ld3 : K.lookup fd3 = some ⟨ocd3, odd3, .func (PySem.W.fnOf "_law_of" "_law_of" (defArgs s_law_of) (defBody s_law_of) (defScope s_law_of) .none kVd3 dcd3 pmd3 and3 cdd3 ctd3), sld3⟩)
    (cd3 : PySem.W.codeIn K cdd3 "_law_of" = true)
    (kd3 : PySem.W.keepIn K (.ref fd3) = true)
    (ad4 : PySem.W.nsIn K mainGlobals "_law_names" = some (some (.ref fd4)))
    (ld4 : K.lookup fd4 = some ⟨ocd4, odd4, .func (PySem.W.fnOf "_law_names" "_law_names" (defArgs s_law_names) (defBody s_law_names) (defScope s_law_names) .none kVd4 dcd4 pmd4 and4 cdd4 ctd4), sld4⟩)
    (cd4 : PySem.W.codeIn K cdd4 "_law_names" = true)
    (kd4 : PySem.W.keepIn K (.ref fd4) = true)
    (ad5 : PySem.W.nsIn K mainGlobals "_law_more" = some (some (.ref fd5)))
    (ld5 : K.lookup fd5 = some ⟨ocd5, odd5, .func (PySem.W.fnOf "_law_more" "_law_more" (defArgs s_law_more) (defBody s_law_more) (defScope s_law_more) .none kVd5 dcd5 pmd5 and5 cdd5 ctd5), sld5⟩)
    (cd5 : PySem.W.codeIn K cdd5 "_law_more" = true)
    (kd5 : PySem.W.keepIn K (.ref fd5) = true)
    (ad6 : PySem.W.nsIn K mainGlobals "_law_table" = some (some (.ref fd6)))
    (ld6 : K.lookup fd6 = some ⟨ocd6, odd6, .func (PySem.W.fnOf "_law_table" "_law_table" (defArgs s_law_table) (defBody s_law_table) (defScope s_law_table) .none kVd6 dcd6 pmd6 and6 cdd6 ctd6), sld6⟩)
    (cd6 : PySem.W.codeIn K cdd6 "_law_table" = true)
    (kd6 : PySem.W.keepIn K (.ref fd6) = true)
    (ad7 : PySem.W.nsIn K mainGlobals "_law_bool" = some (some (.ref fd7)))
    (ld7 : K.lookup fd7 = some ⟨ocd7, odd7, .func (PySem.W.fnOf "_law_bool" "_law_bool" (defArgs s_law_bool) (defBody s_law_bool) (defScope s_law_bool) .none kVd7 dcd7 pmd7 and7 cdd7 ctd7), sld7⟩)
    (cd7 : PySem.W.codeIn K cdd7 "_law_bool" = true)
    (kd7 : PySem.W.keepIn K (.ref fd7) = true)
    (ad8 : PySem.W.nsIn K mainGlobals "_law_is" = some (some (.ref fd8)))
    (ld8 : K.lookup fd8 = some ⟨ocd8, odd8, .func (PySem.W.fnOf "_law_is" "_law_is" (defArgs s_law_is) (defBody s_law_is) (defScope s_law_is) .none kVd8 dcd8 pmd8 and8 cdd8 ctd8), sld8⟩)
    (cd8 : PySem.W.codeIn K cdd8 "_law_is" = true)
    (kd8 : PySem.W.keepIn K (.ref fd8) = true)
    (ad9 : PySem.W.nsIn K mainGlobals "_law_turned" = some (some (.ref fd9)))
    (ld9 : K.lookup fd9 = some ⟨ocd9, odd9, .func (PySem.W.fnOf "_law_turned" "_law_turned" (defArgs s_law_turned) (defBody s_law_turned) (defScope s_law_turned) .none kVd9 dcd9 pmd9 and9 cdd9 ctd9), sld9⟩)
    (cd9 : PySem.W.codeIn K cdd9 "_law_turned" = true)
    (kd9 : PySem.W.keepIn K (.ref fd9) = true)
    (ad10 : PySem.W.nsIn K mainGlobals "_law_made" = some (some (.ref fd10)))
    (ld10 : K.lookup fd10 = some ⟨ocd10, odd10, .func (PySem.W.fnOf "_law_made" "_law_made" (defArgs s_law_made) (defBody s_law_made) (defScope s_law_made) .none kVd10 dcd10 pmd10 and10 cdd10 ctd10), sld10⟩)
    (cd10 : PySem.W.codeIn K cdd10 "_law_made" = true)
    (kd10 : PySem.W.keepIn K (.ref fd10) = true)
    (ad11 : PySem.W.nsIn K mainGlobals "_law_words" = some (some (.ref fd11)))
    (ld11 : K.lookup fd11 = some ⟨ocd11, odd11, .func (PySem.W.fnOf "_law_words" "_law_words" (defArgs s_law_words) (defBody s_law_words) (defScope s_law_words) .none kVd11 dcd11 pmd11 and11 cdd11 ctd11), sld11⟩)
    (cd11 : PySem.W.codeIn K cdd11 "_law_words" = true)
    (kd11 : PySem.W.keepIn K (.ref fd11) = true)
    (ad12 : PySem.W.nsIn K mainGlobals "_law_said" = some (some (.ref fd12)))
    (ld12 : K.lookup fd12 = some ⟨ocd12, odd12, .func (PySem.W.fnOf "_law_said" "_law_said" (defArgs s_law_said) (defBody s_law_said) (defScope s_law_said) .none kVd12 dcd12 pmd12 and12 cdd12 ctd12), sld12⟩)
    (cd12 : PySem.W.codeIn K cdd12 "_law_said" = true)
    (kd12 : PySem.W.keepIn K (.ref fd12) = true)
    (ad13 : PySem.W.nsIn K mainGlobals "law" = some (some (.ref fd13)))
    (ld13 : K.lookup fd13 = some ⟨ocd13, odd13, .func (PySem.W.fnOf "law" "law" (defArgs s_law) (defBody s_law) (defScope s_law) .none kVd13 dcd13 pmd13 and13 cdd13 ctd13), sld13⟩)
    (cd13 : PySem.W.codeIn K cdd13 "law" = true)
    (kd13 : PySem.W.keepIn K (.ref fd13) = true)
    (am0 : PySem.W.findIn K (.ref C) "__init__" = some (some (.ref fm0)))
    (im0 : PySem.W.isFn K (.ref fm0) = true)
    (lm0 : K.lookup fm0 = some ⟨ocm0, odm0, .func (PySem.W.fnOf "__init__" "LastWords.__init__" (defArgs s_LastWords_init) (defBody s_LastWords_init) (defScope s_LastWords_init) .none kVm0 dcm0 pmm0 anm0 cdm0 ctm0), slm0⟩)
    (cm0 : PySem.W.codeIn K cdm0 "LastWords.__init__" = true)
    (km0 : PySem.W.keepIn K (.ref fm0) = true)
    (am1 : PySem.W.findIn K (.ref C) "say" = some (some (.ref fm1)))
    (im1 : PySem.W.isFn K (.ref fm1) = true)
    (lm1 : K.lookup fm1 = some ⟨ocm1, odm1, .func (PySem.W.fnOf "say" "LastWords.say" (defArgs s_LastWords_say) (defBody s_LastWords_say) (defScope s_LastWords_say) .none kVm1 dcm1 pmm1 anm1 cdm1 ctm1), slm1⟩)
    (cm1 : PySem.W.codeIn K cdm1 "LastWords.say" = true)
    (km1 : PySem.W.keepIn K (.ref fm1) = true)
    (am2 : PySem.W.findIn K (.ref C) "last" = some (some (.ref fm2)))
    (im2 : PySem.W.isFn K (.ref fm2) = true)
    (lm2 : K.lookup fm2 = some ⟨ocm2, odm2, .func (PySem.W.fnOf "last" "LastWords.last" (defArgs s_LastWords_last) (defBody s_LastWords_last) (defScope s_LastWords_last) .none kVm2 dcm2 pmm2 anm2 cdm2 ctm2), slm2⟩)
    (cm2 : PySem.W.codeIn K cdm2 "LastWords.last" = true)
    (km2 : PySem.W.keepIn K (.ref fm2) = true)
    (am3 : PySem.W.findIn K (.ref C) "seen" = some (some (.ref fm3)))
    (im3 : PySem.W.isFn K (.ref fm3) = true)
    (lm3 : K.lookup fm3 = some ⟨ocm3, odm3, .func (PySem.W.fnOf "seen" "LastWords.seen" (defArgs s_LastWords_seen) (defBody s_LastWords_seen) (defScope s_LastWords_seen) .none kVm3 dcm3 pmm3 anm3 cdm3 ctm3), slm3⟩)
    (cm3 : PySem.W.codeIn K cdm3 "LastWords.seen" = true)
    (km3 : PySem.W.keepIn K (.ref fm3) = true)
    (am4 : PySem.W.findIn K (.ref C) "numbers" = some (some (.ref fm4)))
    (im4 : PySem.W.isFn K (.ref fm4) = true)
    (lm4 : K.lookup fm4 = some ⟨ocm4, odm4, .func (PySem.W.fnOf "numbers" "LastWords.numbers" (defArgs s_LastWords_numbers) (defBody s_LastWords_numbers) (defScope s_LastWords_numbers) .none kVm4 dcm4 pmm4 anm4 cdm4 ctm4), slm4⟩)
    (cm4 : PySem.W.codeIn K cdm4 "LastWords.numbers" = true)
    (km4 : PySem.W.keepIn K (.ref fm4) = true)
    (am5 : PySem.W.findIn K (.ref C) "said" = some (some (.ref fm5)))
    (im5 : PySem.W.isFn K (.ref fm5) = true)
    (lm5 : K.lookup fm5 = some ⟨ocm5, odm5, .func (PySem.W.fnOf "said" "LastWords.said" (defArgs s_LastWords_said) (defBody s_LastWords_said) (defScope s_LastWords_said) .none kVm5 dcm5 pmm5 anm5 cdm5 ctm5), slm5⟩)
    (cm5 : PySem.W.codeIn K cdm5 "LastWords.said" = true)
    (km5 : PySem.W.keepIn K (.ref fm5) = true)
    (am6 : PySem.W.findIn K (.ref C) "__or__" = some (some (.ref fm6)))
    (im6 : PySem.W.isFn K (.ref fm6) = true)
    (lm6 : K.lookup fm6 = some ⟨ocm6, odm6, .func (PySem.W.fnOf "__or__" "LastWords.__or__" (defArgs s_LastWords_or) (defBody s_LastWords_or) (defScope s_LastWords_or) .none kVm6 dcm6 pmm6 anm6 cdm6 ctm6), slm6⟩)
    (cm6 : PySem.W.codeIn K cdm6 "LastWords.__or__" = true)
    (km6 : PySem.W.keepIn K (.ref fm6) = true)
    (am7 : PySem.W.findIn K (.ref C) "__eq__" = some (some (.ref fm7)))
    (im7 : PySem.W.isFn K (.ref fm7) = true)
    (lm7 : K.lookup fm7 = some ⟨ocm7, odm7, .func (PySem.W.fnOf "__eq__" "LastWords.__eq__" (defArgs s_LastWords_eq) (defBody s_LastWords_eq) (defScope s_LastWords_eq) .none kVm7 dcm7 pmm7 anm7 cdm7 ctm7), slm7⟩)
    (cm7 : PySem.W.codeIn K cdm7 "LastWords.__eq__" = true)
    (km7 : PySem.W.keepIn K (.ref fm7) = true)
    (pg : PySem.W.plainGet K C Str.empty = true)
    (hd : PySem.W.hasDictIn K C = true)
    (po : PySem.W.plainOver K C = true)
    (sa : PySem.W.findIn K (.ref C) "__setattr__" = some (some (.builtin "object.__setattr__")))
    (mk : PySem.W.makesIn K C = true)
    (kc : PySem.W.keepIn K (.ref C) = true)
    (nL : PySem.W.findIn K (.ref C) "_last" = some none)
    (ca : PySem.W.findIn K (.ref C) "__class__" = some (some (.builtin "object.__class__")))
    (cn : PySem.W.specialIn K (.builtin "object.__class__") "__get__" = some (some (.builtin "getset_descriptor.__get__")))
    (ct : PySem.W.takesIn K (.builtin "object.__class__") = some true)
    (cm : PySem.W.mroIn K C (.type "object") = some true)
    (ic : PySem.W.isClsIn K C = true)
    (ty : PySem.W.typeIn K (.ref C) = some (.type "type"))
    (sf : PySem.W.selfFirst K C = true)
    (z_int : PySem.W.nsIn K mainGlobals "int" = some none)
    (z_len : PySem.W.nsIn K mainGlobals "len" = some none)
    (z_abs : PySem.W.nsIn K mainGlobals "abs" = some none)
    (z_enumerate : PySem.W.nsIn K mainGlobals "enumerate" = some none)
    (z_range : PySem.W.nsIn K mainGlobals "range" = some none)
    (z_list : PySem.W.nsIn K mainGlobals "list" = some none)
    (z_sorted : PySem.W.nsIn K mainGlobals "sorted" = some none)
    (z_max : PySem.W.nsIn K mainGlobals "max" = some none)
    (z_min : PySem.W.nsIn K mainGlobals "min" = some none)
    (z_isinstance : PySem.W.nsIn K mainGlobals "isinstance" = some none)
    (z_bool : PySem.W.nsIn K mainGlobals "bool" = some none)
    (z_tuple : PySem.W.nsIn K mainGlobals "tuple" = some none)
    : ∃ fd : FuncData, (∀ (s : Shared) (v : Value), BindsTo s fd ⟨[v], []⟩ [("_law_script", v)]) ∧ ∀ base : Heap, K.In base → base.Ns mainGlobals mg → FnOk l.prog w K mg base CX0 5 fa fd ["_law_script"] (spC K (C_law K)) := by
  have e := hfa.symm.trans (PySem.W.mg_of X G ad13)
  cases e
  have Fd0 := fun_mk (st := s_greatest_words) ld0 cd0 kd0
  have bd0 := Fd0.binds (ps := ["words"]) fun _ _ _ _ _ _ us hl => match us, hl with | [_], _ => rfl
  have gd0 := PySem.W.mg_of X G ad0
  have Fd1 := fun_mk (st := s_law_bag) ld1 cd1 kd1
  have bd1 := Fd1.binds (ps := ["_law_script", "_law_at"]) fun _ _ _ _ _ _ us hl => match us, hl with | [_, _], _ => rfl
  have gd1 := PySem.W.mg_of X G ad1
  have Fd2 := fun_mk (st := s_law_take) ld2 cd2 kd2
  have bd2 := Fd2.binds (ps := ["_law_bag_here", "_law_many"]) fun _ _ _ _ _ _ us hl => match us, hl with | [_, _], _ => rfl
  have gd2 := PySem.W.mg_of X G ad2
  have Fd3 := fun_mk (st := s_law_of) ld3 cd3 kd3
  have bd3 := Fd3.binds (ps := ["_law_bag_here", "_law_some_here"]) fun _ _ _ _ _ _ us hl => match us, hl with | [_, _], _ => rfl
  have gd3 := PySem.W.mg_of X G ad3
  have Fd4 := fun_mk (st := s_law_names) ld4 cd4 kd4
  have bd4 := Fd4.binds (ps := ["_law_bag_here", "_law_many"]) fun _ _ _ _ _ _ us hl => match us, hl with | [_, _], _ => rfl
  have gd4 := PySem.W.mg_of X G ad4
  have Fd5 := fun_mk (st := s_law_more) ld5 cd5 kd5
  have bd5 := Fd5.binds (ps := ["_law_one", "_law_two"]) fun _ _ _ _ _ _ us hl => match us, hl with | [_, _], _ => rfl
  have gd5 := PySem.W.mg_of X G ad5
  have Fd6 := fun_mk (st := s_law_table) ld6 cd6 kd6
  have bd6 := Fd6.binds (ps := ["_law_words_here"]) fun _ _ _ _ _ _ us hl => match us, hl with | [_], _ => rfl
  have gd6 := PySem.W.mg_of X G ad6
  have Fd7 := fun_mk (st := s_law_bool) ld7 cd7 kd7
  have bd7 := Fd7.binds (ps := ["_law_told", "_law_due"]) fun _ _ _ _ _ _ us hl => match us, hl with | [_, _], _ => rfl
  have gd7 := PySem.W.mg_of X G ad7
  have Fd8 := fun_mk (st := s_law_is) ld8 cd8 kd8
  have bd8 := Fd8.binds (ps := ["_law_told", "_law_words_here", "_law_pool"]) fun _ _ _ _ _ _ us hl => match us, hl with | [_, _, _], _ => rfl
  have gd8 := PySem.W.mg_of X G ad8
  have Fd9 := fun_mk (st := s_law_turned) ld9 cd9 kd9
  have bd9 := Fd9.binds (ps := ["_law_bag_here", "_law_things"]) fun _ _ _ _ _ _ us hl => match us, hl with | [_, _], _ => rfl
  have gd9 := PySem.W.mg_of X G ad9
  have Fd10 := fun_mk (st := s_law_made) ld10 cd10 kd10
  have bd10 := Fd10.binds (ps := ["_law_words_here"]) fun _ _ _ _ _ _ us hl => match us, hl with | [_], _ => rfl
  have gd10 := PySem.W.mg_of X G ad10
  have Fd11 := fun_mk (st := s_law_words) ld11 cd11 kd11
  have bd11 := Fd11.binds (ps := ["_law_bag_here", "_law_pool", "_law_names_here"]) fun _ _ _ _ _ _ us hl => match us, hl with | [_, _, _], _ => rfl
  have gd11 := PySem.W.mg_of X G ad11
  have Fd12 := fun_mk (st := s_law_said) ld12 cd12 kd12
  have bd12 := Fd12.binds (ps := ["_law_told", "_law_words_here", "_law_pool"]) fun _ _ _ _ _ _ us hl => match us, hl with | [_, _, _], _ => rfl
  have gd12 := PySem.W.mg_of X G ad12
  have Fd13 := fun_mk (st := s_law) ld13 cd13 kd13
  have bd13 := Fd13.binds (ps := ["_law_script"]) fun _ _ _ _ _ _ us hl => match us, hl with | [_], _ => rfl
  have gd13 := PySem.W.mg_of X G ad13
  have Fm0 := fun_mk (st := s_LastWords_init) lm0 cm0 km0
  have Fm1 := fun_mk (st := s_LastWords_say) lm1 cm1 km1
  have Fm2 := fun_mk (st := s_LastWords_last) lm2 cm2 km2
  have bm2 := Fm2.binds (ps := ["self", "number"]) fun _ _ _ _ _ _ us hl => match us, hl with | [_, _], _ => rfl
  have Fm3 := fun_mk (st := s_LastWords_seen) lm3 cm3 km3
  have bm3 := Fm3.binds (ps := ["self", "number"]) fun _ _ _ _ _ _ us hl => match us, hl with | [_, _], _ => rfl
  have Fm4 := fun_mk (st := s_LastWords_numbers) lm4 cm4 km4
  have bm4 := Fm4.binds (ps := ["self"]) fun _ _ _ _ _ _ us hl => match us, hl with | [_], _ => rfl
  have Fm5 := fun_mk (st := s_LastWords_said) lm5 cm5 km5
  have bm5 := Fm5.binds (ps := ["self"]) fun _ _ _ _ _ _ us hl => match us, hl with | [_], _ => rfl
  have Fm6 := fun_mk (st := s_LastWords_or) lm6 cm6 km6
  have bm6 := Fm6.binds (ps := ["self", "other"]) fun _ _ _ _ _ _ us hl => match us, hl with | [_, _], _ => rfl
  have Fm7 := fun_mk (st := s_LastWords_eq) lm7 cm7 km7
  have bm7 := Fm7.binds (ps := ["self", "other"]) fun _ _ _ _ _ _ us hl => match us, hl with | [_, _], _ => rfl
  have m_int := PySem.W.mg_none_of X G z_int
  have m_len := PySem.W.mg_none_of X G z_len
  have m_abs := PySem.W.mg_none_of X G z_abs
  have m_enumerate := PySem.W.mg_none_of X G z_enumerate
  have m_range := PySem.W.mg_none_of X G z_range
  have m_list := PySem.W.mg_none_of X G z_list
  have m_sorted := PySem.W.mg_none_of X G z_sorted
  have m_max := PySem.W.mg_none_of X G z_max
  have m_min := PySem.W.mg_none_of X G z_min
  have m_isinstance := PySem.W.mg_none_of X G z_isinstance
  have m_bool := PySem.W.mg_none_of X G z_bool
  have m_tuple := PySem.W.mg_none_of X G z_tuple
  have gC := PySem.W.mg_of X G aC
  have cl : Cls K C := ⟨pg, hd, po, sa⟩
  have lw : LW K C := ⟨cl, nL⟩
  have io : IsiO K C := ⟨cl, ca, cn, ct, cm, cb_of ic ty⟩
  have M : Mk K C fm0 := ⟨mk, am0, im0, kc⟩
  have kb : KBn K (PySem.W.fnOf "say" "LastWords.say" (defArgs s_LastWords_say) (defBody s_LastWords_say) (defScope s_LastWords_say) .none kVm1 dcm1 pmm1 anm1 cdm1 ctm1) ["self", "number", "seen", "count", "device"] 3 ["count", "device"] (fun us ws => us ++ ws) (fun vs zs => vs ++ zs) :=
    ⟨fun s us ws _ h1 h2 => match us, ws, h1, h2 with | [_, _, _], [_, _], _, _ => .of_eq rfl, fun r1 r2 => r1.append r2⟩
  have mt_last : Meth K C "last" fm2 := ⟨am2, im2, km2⟩
  have mt_seen : Meth K C "seen" fm3 := ⟨am3, im3, km3⟩
  have mt_numbers : Meth K C "numbers" fm4 := ⟨am4, im4, km4⟩
  have mt_said : Meth K C "said" fm5 := ⟨am5, im5, km5⟩
  have mt_say : Meth K C "say" fm1 := ⟨am1, im1, km1⟩
  refine ⟨PySem.W.fnOf "law" "law" (defArgs s_law) (defBody s_law) (defScope s_law) .none kVd13 dcd13 pmd13 and13 cdd13 ctd13, fun s v => .of_eq rfl, fun base _ _ => ?_⟩
  have G_take := ok_take (P := l.prog) (w := w) (base := base) Fd2 m_int
  have G_of := ok_of (P := l.prog) (w := w) (base := base) Fd3 G_take gd2 kd2 bd2 m_len
  have G_bag := ok_bag (P := l.prog) (w := w) (base := base) Fd1 m_int m_len m_abs m_enumerate
  have G_more := ok_more (P := l.prog) (w := w) (mg := mg) (base := base) Fd5
  have G_bool := ok_bool (P := l.prog) (w := w) (base := base) Fd7 m_isinstance m_bool
  have G_turned := ok_turned (P := l.prog) (w := w) (base := base) Fd9 G_take gd2 kd2 bd2 m_len m_list m_range
  have G_words := ok_words (P := l.prog) (w := w) (base := base) Fd11 G_take gd2 kd2 bd2 G_of gd3 kd3 bd3 m_range
  have G_names := ok_names (P := l.prog) (w := w) (base := base) Fd4 G_take gd2 kd2 bd2 G_of gd3 kd3 bd3 m_range
  have G_table := ok_table (P := l.prog) (w := w) (base := base) Fd6 G_more gd5 kd5 bd5
  have G_gw := ok_greatest (P := l.prog) (w := w) (base := base) Fd0 m_max
  have G_init := ok_init (P := l.prog) (w := w) (base := base) lw Fm0 G_gw gd0 kd0 bd0
  have G_last := ok_last (P := l.prog) (w := w) (mg := mg) (base := base) lw Fm2
  have G_seen := ok_seen (P := l.prog) (w := w) (mg := mg) (base := base) lw Fm3
  have G_say := ok_say (P := l.prog) (w := w) (mg := mg) (base := base) lw Fm1
  have G_numbers := ok_numbers (P := l.prog) (w := w) (base := base) lw Fm4 m_sorted
  have G_saidm := ok_said (P := l.prog) (w := w) (base := base) lw Fm5 m_sorted
  have G_eq := ok_eq (P := l.prog) (w := w) (base := base) lw io Fm7 m_isinstance gC
  have G_or := ok_or (P := l.prog) (w := w) (base := base) lw M Fm6 cl mt_said G_saidm bm5 G_init gC
  have G_is := ok_is (P := l.prog) (w := w) (base := base) Fd8 G_table gd6 kd6 bd6 G_bool gd7 kd7 bd7 cl mt_last G_last bm2 mt_seen G_seen bm3 mt_numbers G_numbers bm4 m_isinstance m_list m_sorted m_tuple
  have G_made := ok_made (P := l.prog) (w := w) (base := base) Fd10 cl M G_init gC mt_say G_say kb
  have G_saidL := ok_saidL (P := l.prog) (w := w) (base := base) Fd12 G_table gd6 kd6 bd6 G_bool gd7 kd7 bd7 G_is gd8 kd8 bd8 cl mt_say G_say kb m_enumerate
  exact ok_law Fd13 G_table gd6 kd6 bd6 G_bool gd7 kd7 bd7 G_is gd8 kd8 bd8 G_take gd2 kd2 bd2 G_of gd3 kd3 bd3 G_bag gd1 kd1 bd1 G_names gd4 kd4 bd4 G_turned gd9 kd9 bd9 G_words gd11 kd11 bd11 G_made gd10 kd10 bd10 G_saidL gd12 kd12 bd12 cl M G_init gC mt_last G_last bm2 mt_numbers G_numbers bm4 mt_say G_say kb am7 im7 (FD.FnOk.raw0 G_eq bm7) sf am6 im6 (FD.FnOk.raw0 G_or bm6) m_range m_max m_min m_len
def spLaw (K : PySem.W.Frag) : Sp := spC K (C_law K)
theorem sp_here {K : PySem.W.Frag} {H : Hp} {a : Addr} {ns : List Int} (hl : ns.length ≤ 63) (hS : SqL K H a (ns.map V.int)) : spLaw K [.ref a] H (fun v _ => v = .bl true) fun _ _ _ => False :=
  .inl ⟨[.dat (intL ns)], .bl true, [.dat (intL ns)], H, [], ⟨ns, by omega, rfl⟩, ⟨.dat (.lst hS (isA_ints.mpr rfl)) .nil, List.nodup_nil, fun _ h => by simp at h, Ex.refl H⟩, fun v _ _ _ _ _ hv => by cases hv; rfl⟩

end K22
open PySem PySem.W PyProof.Rows
set_option maxHeartbeats 0 in
theorem PySem.Challenge.cw_filedalike_k22_whole_last_words_holds : PySem.Challenge.rw_filedalike_k22_whole_last_words.Holds := by
  w_on; o_law; k_head; (case hw => w_witness2)
  k_fill
  refine L2.walk_ofK (l := PySem.Challenge.rw_filedalike_k22_whole_last_words) (n := 63) (k := 5) (x := "_law_script") (CX := L2.CX0) (sp := K22.spLaw) rfl (by decide) rfl ⟨rfl, by decide, by decide⟩ (fun w h Y => PySem.W.kIn_of Y) ?F (fun K H a ns hl _ hS => K22.sp_here hl hS) (fun _ _ _ _ h => h)
  case F =>
    intro w mg fa h KX G hmg
    refine' K22.all_mk KX G hmg ?aC ?ad0 ?ld0 ?cd0 ?kd0 ?ad1 ?ld1 ?cd1 ?kd1 ?ad2 ?ld2 ?cd2 ?kd2 ?ad3 ?ld3 ?cd3 ?kd3 ?ad4 ?ld4 ?cd4 ?kd4 ?ad5 ?ld5 ?cd5 ?kd5 ?ad6 ?ld6 ?cd6 ?kd6 ?ad7 ?ld7 ?cd7 ?kd7 ?ad8 ?ld8 ?cd8 ?kd8 ?ad9 ?ld9 ?cd9 ?kd9 ?ad10 ?ld10 ?cd10 ?kd10 ?ad11 ?ld11 ?cd11 ?kd11 ?ad12 ?ld12 ?cd12 ?kd12 ?ad13 ?ld13 ?cd13 ?kd13 ?am0 ?im0 ?lm0 ?cm0 ?km0 ?am1 ?im1 ?lm1 ?cm1 ?km1 ?am2 ?im2 ?lm2 ?cm2 ?km2 ?am3 ?im3 ?lm3 ?cm3 ?km3 ?am4 ?im4 ?lm4 ?cm4 ?km4 ?am5 ?im5 ?lm5 ?cm5 ?km5 ?am6 ?im6 ?lm6 ?cm6 ?km6 ?am7 ?im7 ?lm7 ?cm7 ?km7 ?pg ?hd ?po ?sa ?mk ?kc ?nL ?ca ?cn ?ct ?cm ?ic ?ty ?sf ?z_int ?z_len ?z_abs ?z_enumerate ?z_range ?z_list ?z_sorted ?z_max ?z_min ?z_isinstance ?z_bool ?z_tuple
    (case aC => k_is)
    (case ad0 => k_is)
    (case ld0 => k_is)
    (case cd0 => k_is)
    (case kd0 => k_is)
    (case ad1 => k_is)
    (case ld1 => k_is)
    (case cd1 => k_is)
    (case kd1 => k_is)
    (case ad2 => k_is)
    (case ld2 => k_is)
    (case cd2 => k_is)
    (case kd2 => k_is)
    (case ad3 => k_is)
    (case ld3 => k_is)
    (case cd3 => k_is)
    (case kd3 => k_is)
    (case ad4 => k_is)
    (case ld4 => k_is)
    (case cd4 => k_is)
    (case kd4 => k_is)
    (case ad5 => k_is)
    (case ld5 => k_is)
    (case cd5 => k_is)
    (case kd5 => k_is)
    (case ad6 => k_is)
    (case ld6 => k_is)
    (case cd6 => k_is)
    (case kd6 => k_is)
    (case ad7 => k_is)
    (case ld7 => k_is)
    (case cd7 => k_is)
    (case kd7 => k_is)
    (case ad8 => k_is)
    (case ld8 => k_is)
    (case cd8 => k_is)
    (case kd8 => k_is)
    (case ad9 => k_is)
    (case ld9 => k_is)
    (case cd9 => k_is)
    (case kd9 => k_is)
    (case ad10 => k_is)
    (case ld10 => k_is)
    (case cd10 => k_is)
    (case kd10 => k_is)
    (case ad11 => k_is)
    (case ld11 => k_is)
    (case cd11 => k_is)
    (case kd11 => k_is)
    (case ad12 => k_is)
    (case ld12 => k_is)
    (case cd12 => k_is)
    (case kd12 => k_is)
    (case ad13 => k_is)
    (case ld13 => k_is)
    (case cd13 => k_is)
    (case kd13 => k_is)
    (case am0 => k_is)
    (case im0 => k_is)
    (case lm0 => k_is)
    (case cm0 => k_is)
    (case km0 => k_is)
    (case am1 => k_is)
    (case im1 => k_is)
    (case lm1 => k_is)
    (case cm1 => k_is)
    (case km1 => k_is)
    (case am2 => k_is)
    (case im2 => k_is)
    (case lm2 => k_is)
    (case cm2 => k_is)
    (case km2 => k_is)
    (case am3 => k_is)
    (case im3 => k_is)
    (case lm3 => k_is)
    (case cm3 => k_is)
    (case km3 => k_is)
    (case am4 => k_is)
    (case im4 => k_is)
    (case lm4 => k_is)
    (case cm4 => k_is)
    (case km4 => k_is)
    (case am5 => k_is)
    (case im5 => k_is)
    (case lm5 => k_is)
    (case cm5 => k_is)
    (case km5 => k_is)
    (case am6 => k_is)
    (case im6 => k_is)
    (case lm6 => k_is)
    (case cm6 => k_is)
    (case km6 => k_is)
    (case am7 => k_is)
    (case im7 => k_is)
    (case lm7 => k_is)
    (case cm7 => k_is)
    (case km7 => k_is)
    (case pg => k_is)
    (case hd => k_is)
    (case po => k_is)
    (case sa => k_is)
    (case mk => k_is)
    (case kc => k_is)
    (case nL => k_is)
    (case ca => k_is)
    (case cn => k_is)
    (case ct => k_is)
    (case cm => k_is)
    (case ic => k_is)
    (case ty => k_is)
    (case sf => k_is)
    (case z_int => k_is)
    (case z_len => k_is)
    (case z_abs => k_is)
    (case z_enumerate => k_is)
    (case z_range => k_is)
    (case z_list => k_is)
    (case z_sorted => k_is)
    (case z_max => k_is)
    (case z_min => k_is)
    (case z_isinstance => k_is)
    (case z_bool => k_is)
    (case z_tuple => k_is)
